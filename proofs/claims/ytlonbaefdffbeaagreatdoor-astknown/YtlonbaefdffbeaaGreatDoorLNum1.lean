import Derived.Test.YtlonbaefdffbeaaGreatDoorLWord2
import Derived.Lib.ConvBytes
import Derived.Lib.AtoiAllMem
import Derived.Lib.AtoiErrMem
import Derived.Laws.Strings3
import Derived.Laws.Closers25
import Derived.Laws.Closers25b
import Derived.BigCall
import Derived.BigGuard
namespace Go.Proofs.YtlonbaefdffbeaaGreatDoor
open Go.ChangeShapes Go.WideShapes Go.ChangeAt Go.RowKit Go.Proofs.Tryz
set_option linter.unusedSimpArgs false
set_option linter.unusedVariables false
set_option maxRecDepth 100000
set_option maxHeartbeats 32000000

def loB (c : Int) : Int := bits .or .u8 c 32
def hexD (c : Int) : Option Nat := if 48 ≤ c ∧ c ≤ 57 then some (c - 48).toNat else if 97 ≤ loB c ∧ loB c ≤ 102 then some (loB c - 87).toNat else none
def parse16 (acc : Nat) : List UInt8 → Option Nat
 | [] => some acc
 | b :: l => match hexD (b.toNat : Int) with
  | none => none
  | some d => parse16 (acc * 16 + d) l
def uint16V : Option Nat → Value
 | some n => .tuple #[.int .u64 n, .nilIface]
 | none => .tuple #[.int .u64 0, .iface 165 (.int .i64 2)]
theorem pow16 {k : Nat} (h : k ≤ 15) : 16 ^ k ≤ 1152921504606846976 := by
 have : (16 : Nat) ^ k ≤ 16 ^ 15 := Nat.pow_le_pow_right (by omega) h;exact this
theorem hexD_lt {c : Int} {d : Nat} (h : hexD c = some d) : d < 16 := by
 unfold hexD at h
 split at h
 ·cases h; omega
 ·split at h
  ·cases h; omega
  ·cases h
theorem parseUint16 (t : ByteArray) (hne : t.size ≠ 0) (h16 : t.size ≤ 16) (w : World) : Calls prog 151 #[.string t, .int .i64 16, .int .i64 64] w fun e w' => e = .returned (uint16V (parse16 0 t.data.toList)) ∧ Below w.heap.size w w' := by
 have hemp : t.toList.isEmpty = false := by
  rw [← decide_eq_emptyBytes];exact decide_eq_false (fun h => hne (by rw [h]; rfl))
 have hcv := Lib.run_convert_string_bytes (P := prog) w 9 123 5 t (u := .string) underlying9 underlying123 underlying5;have hB : ∀ j, j < t.size → (Lib.bytesWorld w 5 t).cell? ⟨w.heap.size, j, none⟩ = some (.int .u8 (t.data.toList.getD j 0).toNat) := fun j hj => Lib.bytesWorld_cell w 5 t j hj
 have hbel : Below w.heap.size w (Lib.bytesWorld w 5 t) := by
  exact Lib.bytesWorld_below w 5 t
 obtain ⟨W1, hW1⟩ : ∃ W1, W1 = Lib.bytesWorld w 5 t := ⟨_, rfl⟩;rw [← hW1] at hcv hB hbel;have HBL : Hid (Below w.heap.size w W1) := hbel;clear hW1 hbel;obtain ⟨bs, hL⟩ : ∃ bs, bs = t.data.toList := ⟨_, rfl⟩;have hLn : bs.length = t.size := by rw [hL]; rfl
 rw [← hL] at hB ⊢;clear hL;have HBB : Hid (∀ j, j < t.size → W1.cell? ⟨w.heap.size, j, none⟩ = some (.int .u8 (bs.getD j 0).toNat)) := hB;have HLN : Hid (bs.length = t.size) := hLn;have n16 : (t.size : Int) ≤ 16 := by omega
 clear hB hLn hne h16;have hmv : IntKind.u64.wrap (IntKind.u64.wrap 18446744073709551616 - 1) = 18446744073709551615 := by decide
 go_enter func151, ntmps151
 go_wp2;clear hcv hemp hmv
 go_loopw [12, 13, 101] (fun vu vn vi wr => ∃ (k acc : Nat) (a : Int), vu = .bool false ∧ vn = .int .u64 a ∧ vi = .int .i64 k ∧ k ≤ t.size ∧ Hid (a = (acc : Int) ∧ acc < 16 ^ k ∧ parse16 0 bs = parse16 acc (bs.drop k)) ∧ wr = W1) (fun _ _ vi _ => t.size - (intOf vi).toNat)
 case atStart => exact ⟨0, 0, 0, rfl, rfl, rfl, by omega, ⟨rfl, by omega, rfl⟩, by first | rfl | trivial⟩
 case round =>
  obtain ⟨k, acc, a, rfl, rfl, rfl, hk, HH, rfl⟩ := hrel
  by_cases hkn : k < t.size
  ·obtain ⟨ha, hacc, hdec⟩ := HH.out
   have hp := pow16 (k := k) (by omega);have a0 : 0 ≤ a := by omega
   have icut : a < 1152921504606846976 := by omega
   have hlk : k < bs.length := by rw [HLN.out]; exact hkn
   have hdrop : bs.drop k = bs[k]'hlk :: bs.drop (k + 1) := List.drop_eq_getElem_cons hlk;have hc := HBB.out k hkn;have hget : bs.getD k 0 = bs[k]'hlk := by simp [List.getD, List.getElem?_eq_getElem hlk]
   rw [hget] at hc;rw [hdrop] at hdec
   generalize bs[k]'hlk = c at hc hdec
   obtain ⟨cc, hcc⟩ : ∃ cc : Int, (c.toNat : Int) = cc := ⟨_, rfl⟩;have c0 : 0 ≤ cc := by omega
   have c1 : cc ≤ 255 := by have := c.toNat_lt; omega
   rw [hcc] at hc;rw [parse16, hcc] at hdec;have HLo : Hid (∀ W, Calls prog 163 #[.int .u8 cc] W fun e w' => e = .returned (.int .u8 (loB cc)) ∧ w' = W) := fun W => Tryz.internal_strconv_lower cc W;have l0 : 0 ≤ loB cc := bits_lo_u8 .or cc 32;have l1 : loB cc ≤ 255 := by have := bits_hi_u8 .or cc 32; unfold loB; omega
   have HX : Hid (k < t.size ∧ a = (acc : Int) ∧ acc < 16 ^ k) := ⟨hkn, ha, hacc⟩;have k0 : (0 : Int) ≤ k := by omega
   have k1 : (k : Int) < t.size := by omega
   clear hdrop hget hcc HH ha hacc hp hlk
   by_cases h95 : cc = 95
   ·subst h95
    have hx : hexD 95 = none := by decide
    rw [hx] at hdec;have HD : Hid (parse16 0 bs = none) := hdec;have e127 : loB 95 = 127 := by decide
    rw [e127] at HLo;clear hx hdec e127 l0 l1 c0 c1
    go_wp2_with (go_at_call 163; refine (HLo.out _).mono ?_; rintro e w' ⟨rfl, hw'⟩; replace hw' := hw'.symm; subst hw')
    go_ret2
    exact ⟨by rw [HD.out]; rfl, HBL.out⟩
   have q95 : (cc == 95) = false := by simpa using h95
   clear h95
   by_cases hdig : 48 ≤ cc ∧ cc ≤ 57
   ·obtain ⟨hd0, hd1⟩ := hdig
    have hx : hexD cc = some (cc - 48).toNat := by simp [hexD, hd0, hd1]
    rw [hx] at hdec
    have HN : Hid (a * 16 + (cc - 48) = ((acc * 16 + (cc - 48).toNat : Nat) : Int) ∧ acc * 16 + (cc - 48).toNat < 16 ^ (k + 1) ∧ parse16 0 bs = parse16 (acc * 16 + (cc - 48).toNat) (bs.drop (k + 1))) := by
     obtain ⟨_, h2, h3⟩ := HX.out;refine ⟨by omega, ?_, hdec⟩;rw [Nat.pow_succ]
     omega
    have iov : a * 16 + (cc - 48) < 18446744073709551616 := by omega
    clear hx hdec HLo l0 l1;go_wp2
    go_roundw
    case rel => exact ⟨k + 1, _, _, rfl, rfl, by simp, by omega, HN, by first | rfl | trivial⟩
    case measure => simp [intOf]; omega
   ·by_cases hlo : 97 ≤ loB cc ∧ loB cc ≤ 102
    ·obtain ⟨hl0, hl1⟩ := hlo
     have hx : hexD cc = some (loB cc - 87).toNat := by unfold hexD; rw [if_neg hdig, if_pos ⟨hl0, hl1⟩]
     rw [hx] at hdec;obtain ⟨lo, hlo⟩ : ∃ lo, loB cc = lo := ⟨_, rfl⟩;rw [hlo] at hl0 hl1 hdec l0 l1 HLo
     have HN : Hid (a * 16 + (lo - 97 + 10) = ((acc * 16 + (lo - 87).toNat : Nat) : Int) ∧ acc * 16 + (lo - 87).toNat < 16 ^ (k + 1) ∧ parse16 0 bs = parse16 (acc * 16 + (lo - 87).toNat) (bs.drop (k + 1))) := by
      obtain ⟨_, h2, h3⟩ := HX.out;refine ⟨by omega, ?_, hdec⟩;rw [Nat.pow_succ]
      omega
     have iov : a * 16 + (lo - 97 + 10) < 18446744073709551616 := by omega
     clear hx hdec hlo
     by_cases hd1 : 48 ≤ cc
     ·have hd2 : ¬ cc ≤ 57 := fun h => hdig ⟨hd1, h⟩
      clear hdig
      go_wp2_with (go_at_call 163; refine (HLo.out _).mono ?_; rintro e w' ⟨rfl, hw'⟩; replace hw' := hw'.symm; subst hw')
      all_goals
       go_roundw
       case rel => exact ⟨k + 1, _, _, rfl, rfl, by simp, by omega, HN, by first | rfl | trivial⟩
       case measure => simp [intOf]; omega
     ·clear hdig
      go_wp2_with (go_at_call 163; refine (HLo.out _).mono ?_; rintro e w' ⟨rfl, hw'⟩; replace hw' := hw'.symm; subst hw')
      all_goals
       go_roundw
       case rel => exact ⟨k + 1, _, _, rfl, rfl, by simp, by omega, HN, by first | rfl | trivial⟩
       case measure => simp [intOf]; omega
    ·have hx : hexD cc = none := by unfold hexD; rw [if_neg hdig, if_neg hlo]
     rw [hx] at hdec;have HD : Hid (parse16 0 bs = none) := hdec;obtain ⟨lo, hlo2⟩ : ∃ lo, loB cc = lo := ⟨_, rfl⟩;rw [hlo2] at hlo l0 l1 HLo;clear hx hdec hlo2
     go_wp2_with (go_at_call 163; refine (HLo.out _).mono ?_; rintro e w' ⟨rfl, hw'⟩; replace hw' := hw'.symm; subst hw')
     all_goals go_ret2
     all_goals exact ⟨by rw [HD.out]; rfl, HBL.out⟩
  ·have hke : k = t.size := by omega
   have HD : Hid (parse16 0 bs = some acc ∧ a = (acc : Int)) := by
    obtain ⟨h1, _, h3⟩ := HH.out;rw [List.drop_eq_nil_of_le (by rw [HLN.out, hke]; exact Nat.le_refl _), parse16] at h3;exact ⟨h3, h1⟩
   have k1 : ¬ (k : Int) < t.size := by omega
   clear HH hke hkn;go_wp2
   go_ret2
   exact ⟨by rw [HD.out.1, HD.out.2]; rfl, HBL.out⟩
end Go.Proofs.YtlonbaefdffbeaaGreatDoor
