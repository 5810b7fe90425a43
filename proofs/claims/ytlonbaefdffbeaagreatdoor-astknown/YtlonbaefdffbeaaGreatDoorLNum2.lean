import Derived.Test.YtlonbaefdffbeaaGreatDoorLNum1
import Derived.Lib.IfaceNeq
import Derived.Lib.ItoaWalk
import Derived.Lib.ParseIntBMem
namespace Go.Proofs.YtlonbaefdffbeaaGreatDoor
open Go.ChangeShapes Go.WideShapes Go.ChangeAt Go.RowKit Go.Proofs.Tryz
set_option linter.unusedSimpArgs false
set_option linter.unusedVariables false
set_option maxRecDepth 100000
set_option maxHeartbeats 8000000

def num16 (l : List UInt8) : Option Int := if l = [] then none else match parse16 0 l with
 | some n => if n < 9223372036854775808 then some (n : Int) else none
 | none => none
def int16V (l : List UInt8) : Value := if l = [] then .tuple #[.int .i64 0, .iface 165 (.int .i64 2)] else match parse16 0 l with
 | some n => if n < 9223372036854775808 then .tuple #[.int .i64 n, .nilIface] else .tuple #[.int .i64 9223372036854775807, .iface 165 (.int .i64 1)]
 | none => .tuple #[.int .i64 0, .iface 165 (.int .i64 2)]
theorem parse16_lt : ∀ (l : List UInt8) (acc n k : Nat), acc < 16 ^ k → parse16 acc l = some n → n < 16 ^ (k + l.length) := by
 intro l
 induction l with
 | nil => intro acc n k h e; rw [parse16] at e; cases e; simpa using h
 | cons b l ih =>
  intro acc n k h e;rw [parse16] at e
  cases hd : hexD (b.toNat : Int) with
  | none => rw [hd] at e; cases e
  | some d =>
   rw [hd] at e;have := ih (acc * 16 + d) n (k + 1) (by have := hexD_lt hd; rw [Nat.pow_succ]; omega) e;rw [List.length_cons, show k + (l.length + 1) = k + 1 + l.length from by omega];exact this
theorem iparse16 (s : ByteArray) (h16 : s.size ≤ 16) (hp : byteAt s 0 ≠ 43) (hm : byteAt s 0 ≠ 45) (w : World) :
  Calls prog 131 #[.string s, .int .i64 16, .int .i64 64] w fun e w' => e = .returned (int16V s.data.toList) ∧ Below w.heap.size w w' := by
 by_cases hne : s.size = 0
 ·have hs : s = ⟨#[]⟩ := by
   apply ByteArray.ext
   exact Array.eq_empty_of_size_eq_zero hne
  subst hs;refine (Tryz.internal_strconv_ParseInt_empty 16 64 w).mono ?_;rintro e w' ⟨rfl, hw⟩;subst hw;exact ⟨rfl, Below.refl _ _⟩
 have hemp : s.toList.isEmpty = false := by
  rw [← decide_eq_emptyBytes];exact decide_eq_false (fun h => hne (by rw [h]; rfl))
 have hnil : s.data.toList ≠ [] := fun h => hne (by rw [Lib.size_eq, h]; rfl);have ix : ∀ W, (Instr.index 9 (.string s) (.int .i64 0)).run prog W = .ok (.int .u8 (byteAt s 0)) W := fun W => index_byte s 0 (by omega) W;have q43 : (byteAt s 0 == 43) = false := by simpa using hp
 have q45 : (byteAt s 0 == 45) = false := by simpa using hm
 have hq2 : ∀ W, (binOp .neq 127 (.iface 165 (.int .i64 2)) (.iface 165 (.int .i64 1))).run prog W = .ok (.bool true) W := fun W => Lib.run_neq_iface_int W 2 1 underlying127 (by kernel_rfl) underlying165;have HU : Hid (∀ W, Calls prog 151 #[.string s, .int .i64 16, .int .i64 64] W fun e w' => e = .returned (uint16V (parse16 0 s.data.toList)) ∧ Below W.heap.size W w') := fun W => parseUint16 s hne h16 W
 have hlim : ∀ n, parse16 0 s.data.toList = some n → n < 18446744073709551616 := fun n hn => by
  have h1 := parse16_lt _ 0 n 0 (by omega) hn;rw [Nat.zero_add] at h1;have h2 : (16 : Nat) ^ s.data.toList.length ≤ 16 ^ 16 := Nat.pow_le_pow_right (by omega) (by rw [← Lib.size_eq]; exact h16);have h3 : (16 : Nat) ^ 16 = 18446744073709551616 := by decide
  omega
 unfold int16V;rw [if_neg hnil]
 generalize byteAt s 0 = b0 at *
 cases he : parse16 0 s.data.toList with
 | none =>
  rw [he] at HU;have HU : Hid (∀ W, Calls prog 151 #[.string s, .int .i64 16, .int .i64 64] W fun e w' => e = .returned (.tuple #[.int .u64 0, .iface 165 (.int .i64 2)]) ∧ Below W.heap.size W w') := HU;clear hnil hlim he hne h16 hp hm
  go_enter func131, ntmps131
  go_wp2_with (go_at_call 151; refine (HU.out _).mono ?_; rintro e w1 ⟨rfl, hw1⟩)
  go_ret2
  exact ⟨rfl, hw1⟩
 | some n =>
  have hn := hlim n he;rw [he] at HU;have HU : Hid (∀ W, Calls prog 151 #[.string s, .int .i64 16, .int .i64 64] W fun e w' => e = .returned (.tuple #[.int .u64 n, .nilIface]) ∧ Below W.heap.size W w') := HU;clear hnil hlim he hne h16 hp hm hq2;have n0 : (0 : Int) ≤ n := by omega
  have n1 : (n : Int) ≤ 18446744073709551615 := by omega
  by_cases hout : n < 9223372036854775808
  ·have i1 : (n : Int) < 9223372036854775808 := by omega
   simp only [hout, if_true];clear hout hn
   generalize (n : Int) = a at *
   go_enter func131, ntmps131
   go_wp2_with (go_at_call 151; refine (HU.out _).mono ?_; rintro e w1 ⟨rfl, hw1⟩)
   go_ret2
   exact ⟨rfl, hw1⟩
  ·have i1 : ¬ (n : Int) < 9223372036854775808 := by omega
   simp only [hout, if_false];clear hout hn
   generalize (n : Int) = a at *
   go_enter func131, ntmps131
   go_wp2_with (go_at_call 151; refine (HU.out _).mono ?_; rintro e w1 ⟨rfl, hw1⟩)
   go_ret2
   exact ⟨rfl, hw1⟩
structure ErrTab (w : World) : Prop where
 sy : ∃ te pe, w.cell? ⟨5, 0, none⟩ = some (.iface te pe)
 ra : ∃ te pe, w.cell? ⟨6, 0, none⟩ = some (.iface te pe)
theorem ErrTab.keep {w w' : World} (h : ErrTab w) (hb : Below w.heap.size w w') : ErrTab w' := by
 obtain ⟨⟨a, b, h1⟩, ⟨c, d, h2⟩⟩ := h;exact ⟨⟨a, b, keep_cell hb h1⟩, ⟨c, d, keep_cell hb h2⟩⟩
def retN (r : Option Int) (w : World) : Ending → World → Prop := fun e w' => (∃ v er, e = .returned (.tuple #[.int .i64 v, er]) ∧ ((r = some v ∧ er = .nilIface) ∨ (r = none ∧ ∃ t p, er = .iface t p))) ∧ Below w.heap.size w w'
theorem parse16_any (s : ByteArray) (h16 : s.size ≤ 16) (hp : byteAt s 0 ≠ 43) (hm : byteAt s 0 ≠ 45) (w : World) (hw : ErrTab w) :
  Calls prog 115 #[.string s, .int .i64 16, .int .i64 64] w (retN (num16 s.data.toList) w) := by
 have HI : Hid (∀ W, Calls prog 131 #[.string s, .int .i64 16, .int .i64 64] W fun e w' => e = .returned (int16V s.data.toList) ∧ Below W.heap.size W w') := fun W => iparse16 s h16 hp hm W;have hl : s.size ≤ 281474976710656 := by omega
 have hcase : (∃ v, num16 s.data.toList = some v ∧ int16V s.data.toList = .tuple #[.int .i64 v, .nilIface]) ∨ (num16 s.data.toList = none ∧ ∃ v, int16V s.data.toList = .tuple #[.int .i64 v, .iface 165 (.int .i64 2)]) ∨ (num16 s.data.toList = none ∧ ∃ v, int16V s.data.toList = .tuple #[.int .i64 v, .iface 165 (.int .i64 1)]) := by
  unfold num16 int16V
  split
  ·exact .inr (.inl ⟨rfl, _, rfl⟩)
  ·split
   ·split
    ·exact .inl ⟨_, rfl, rfl⟩
    ·exact .inr (.inr ⟨rfl, _, rfl⟩)
   ·exact .inr (.inl ⟨rfl, _, rfl⟩)
 rcases hcase with ⟨v, e1, e2⟩ | ⟨e1, v, e2⟩ | ⟨e1, v, e2⟩
 ·rw [e1]
  rw [e2] at HI;clear e1 e2 hp hm h16 hw hl
  go_enter func115, ntmps115
  go_wp2_with (go_at_call 131; refine (HI.out _).mono ?_; rintro e w1 ⟨rfl, hw1⟩)
  go_ret2
  exact ⟨⟨v, _, rfl, .inl ⟨rfl, rfl⟩⟩, hw1⟩
 ·rw [e1]
  rw [e2] at HI
  have HE : Hid (∀ W, Below w.heap.size w W → Calls prog 132 #[.string ⟨#[80, 97, 114, 115, 101, 73, 110, 116]⟩, .string s, .int .i64 16, .int .i64 64, .iface 165 (.int .i64 2)] W fun e w' => ∃ N, e = .returned (.iface 168 (.pointer (some ⟨N, 0, none⟩))) ∧ Below W.heap.size W w') := fun W hW => by
   obtain ⟨te, pe, hc⟩ := (hw.keep hW).sy;refine (Tryz.strconv_toError_syntax _ s 16 64 _ W hl hc (.inr ⟨te, pe, rfl⟩)).mono ?_;rintro e w' ⟨N, rfl, _, _, hb⟩;exact ⟨N, rfl, hb⟩
  clear e1 e2 hp hm h16 hw hl
  go_enter func115, ntmps115
  go_wp2_with (first | (go_at_call 131; refine (HI.out _).mono ?_; rintro e w1 ⟨rfl, hw1⟩) | (go_at_call 132; refine (HE.out _ hw1).mono ?_; rintro e w2 ⟨N, rfl, hw2⟩))
  go_ret2
  exact ⟨⟨v, _, rfl, .inr ⟨rfl, _, _, rfl⟩⟩, bel_trans hw1 hw2⟩
 ·rw [e1]
  rw [e2] at HI
  have HE : Hid (∀ W, Below w.heap.size w W → Calls prog 132 #[.string ⟨#[80, 97, 114, 115, 101, 73, 110, 116]⟩, .string s, .int .i64 16, .int .i64 64, .iface 165 (.int .i64 1)] W fun e w' => ∃ N, e = .returned (.iface 168 (.pointer (some ⟨N, 0, none⟩))) ∧ Below W.heap.size W w') := fun W hW => by
   obtain ⟨te, pe, hc⟩ := (hw.keep hW).ra;refine (Tryz.strconv_toError_range _ s 16 64 _ W hl hc (.inr ⟨te, pe, rfl⟩)).mono ?_;rintro e w' ⟨N, rfl, _, _, hb⟩;exact ⟨N, rfl, hb⟩
  clear e1 e2 hp hm h16 hw hl
  go_enter func115, ntmps115
  go_wp2_with (first | (go_at_call 131; refine (HI.out _).mono ?_; rintro e w1 ⟨rfl, hw1⟩) | (go_at_call 132; refine (HE.out _ hw1).mono ?_; rintro e w2 ⟨N, rfl, hw2⟩))
  go_ret2
  exact ⟨⟨v, _, rfl, .inr ⟨rfl, _, _, rfl⟩⟩, bel_trans hw1 hw2⟩
def num10 (l : List UInt8) : Option Int := match Lib.parseIntB 64 l with
 | .ok v => some v
 | _ => none
theorem parse10_any (s : ByteArray) (hl : s.size ≤ 281474976710656) (w : World) (hw : ErrTab w) :
  Calls prog 115 #[.string s, .int .i64 10, .int .i64 64] w (retN (num10 s.data.toList) w) := by
 unfold num10
 cases h : Lib.parseIntB 64 s.data.toList with
 | ok v =>
  refine (Tryz.strconv_ParseInt_10_at64_ok s (by omega) v h w).mono ?_;rintro e w' ⟨rfl, hw'⟩;refine ⟨⟨v, _, rfl, .inl ⟨rfl, rfl⟩⟩, ?_⟩
  rcases hw' with rfl | ⟨t, rfl⟩
  ·exact Below.refl _ _
  ·exact Lib.bytesWorld_below _ _ _
 | «syntax» =>
  obtain ⟨te, pe, hc⟩ := hw.sy;refine (Tryz.strconv_ParseInt_10_at64_syntax s hl h _ w hc (.inr ⟨te, pe, rfl⟩)).mono ?_;rintro e w' ⟨N, rfl, _, _, hb⟩;exact ⟨⟨_, _, rfl, .inr ⟨rfl, _, _, rfl⟩⟩, hb⟩
 | range =>
  obtain ⟨te, pe, hc⟩ := hw.ra;refine (Tryz.strconv_ParseInt_10_at64_range s hl h _ w hc (.inr ⟨te, pe, rfl⟩)).mono ?_;rintro e w' ⟨N, rfl, _, _, hb⟩;exact ⟨⟨_, _, rfl, .inr ⟨rfl, _, _, rfl⟩⟩, hb⟩
end Go.Proofs.YtlonbaefdffbeaaGreatDoor
