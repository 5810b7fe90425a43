import Derived.Test.YtncondlfngeilaaGreatDoorRRight2
import Derived.Test.YtncondlfngeilaaGreatDoorTzA
import Derived.RangeFuncLeaves
import Derived.RangeFuncCalls
import Derived.RangeFuncBox
import Derived.Shelf.Abstract
import Derived.OwnWalkIn
import Derived.TacticsInMore
import Derived.LoopNIn
import Derived.LoopIn
import Derived.Test.YtncondlfngeilaaGreatDoorTzC
import Derived.Test.YtncondlfngeilaaGreatDoorTzB
namespace Go.Proofs.YtncondlfngeilaaGreatDoor
open Go.ChangeShapes Go.WideShapes Go.ChangeAt Go.RowKit Go.Proofs.Tryz
set_option linter.unusedSimpArgs false
set_option linter.unusedVariables false
set_option maxHeartbeats 4000000

theorem len_parts {w : World} {v : Value} {l : List Int} (h : IL w v l) : ∃ (a : Option Addr) (cap : Nat), v = .slice a l.length cap ∧ l.length * 8 ≤ 140737488355328 := by
 obtain ⟨a, cap, h1, h2, _⟩ := h;exact ⟨a, cap, h1, h2⟩
structure Sp where
 name : ByteArray
 sub : Int
 a : Int
 b : Int
 d : Int
 k : Bool
 args : Bool
 s : Bool
 t : Bool
def spNone : Sp := ⟨⟨#[]⟩, 0, 0, 0, 0, false, false, false, false⟩
def spTab : List Sp := [⟨⟨#[]⟩, 0, 0, 0, 0, false, false, false, false⟩, ⟨⟨#[110, 111, 112]⟩, 0, 0, 0, 0, false, false, true, false⟩, ⟨⟨#[99, 111, 110, 115, 116]⟩, 0, 0, 0, 1, true, false, true, false⟩, ⟨⟨#[99, 111, 112, 121]⟩, 0, 1, 0, 1, false, false, true, false⟩, ⟨⟨#[117, 110]⟩, 1, 1, 0, 1, false, false, true, false⟩, ⟨⟨#[98, 105, 110]⟩, 2, 1, 2, 1, true, false, true, false⟩, ⟨⟨#[108, 111, 97, 100]⟩, 4, 1, 0, 1, true, false, true, false⟩, ⟨⟨#[115, 116, 111, 114, 101]⟩, 4, 1, 1, 0, true, false, true, false⟩, ⟨⟨#[103, 108, 111, 98, 97, 108]⟩, 5, 0, 0, 1, true, false, true, false⟩, ⟨⟨#[102, 114, 97, 109, 101]⟩, 0, 0, 0, 1, true, false, true, false⟩, ⟨⟨#[99, 97, 108, 108]⟩, 6, 0, 0, 2, false, true, true, false⟩, ⟨⟨#[99, 111, 110, 100]⟩, 3, 1, 2, 0, true, false, true, true⟩, ⟨⟨#[114, 101, 116, 117, 114, 110]⟩, 0, 2, 0, 0, false, false, false, false⟩, ⟨⟨#[105, 110]⟩, 0, 0, 0, 1, false, false, true, false⟩, ⟨⟨#[111, 117, 116]⟩, 0, 1, 0, 0, false, false, true, false⟩]
def shOf (op : Int) : Sp := if op < 0 then spNone else (spTab[op.toNat]?).getD spNone
def spV (x : Sp) : Value := .agg #[.string x.name, .int .i64 x.sub, .int .i64 x.a, .int .i64 x.b, .int .i64 x.d, .bool x.k, .bool x.args, .bool x.s, .bool x.t]
def ShTab (w : World) : Prop := ∀ n : Nat, n < 15 → w.cell? ⟨0, n * 9, none⟩ = some (.string (shOf n).name) ∧ w.cell? ⟨0, n * 9 + 1, none⟩ = some (.int .i64 (shOf n).sub) ∧ w.cell? ⟨0, n * 9 + 2, none⟩ = some (.int .i64 (shOf n).a) ∧ w.cell? ⟨0, n * 9 + 3, none⟩ = some (.int .i64 (shOf n).b) ∧ w.cell? ⟨0, n * 9 + 4, none⟩ = some (.int .i64 (shOf n).d) ∧ w.cell? ⟨0, n * 9 + 5, none⟩ = some (.bool (shOf n).k) ∧ w.cell? ⟨0, n * 9 + 6, none⟩ = some (.bool (shOf n).args) ∧ w.cell? ⟨0, n * 9 + 7, none⟩ = some (.bool (shOf n).s) ∧ w.cell? ⟨0, n * 9 + 8, none⟩ = some (.bool (shOf n).t)
theorem ShTab.keep {w w' : World} (h : ShTab w) (hb : Below w.heap.size w w') : ShTab w' := fun n hn => by
 obtain ⟨h0, h1, h2, h3, h4, h5, h6, h7, h8⟩ := h n hn;exact ⟨keep_cell hb h0, keep_cell hb h1, keep_cell hb h2, keep_cell hb h3, keep_cell hb h4, keep_cell hb h5, keep_cell hb h6, keep_cell hb h7, keep_cell hb h8⟩
theorem wrap_i64 (x : Int) : IntKind.i64.wrap x = wrap64 x := by rw [IntKind.wrap_i64]; unfold wrap64; omega
def withinB (n m : Int) : Bool := decide (0 ≤ n) && decide (n ≤ m)

theorem within_any (n m : Int) (w : World) : Calls prog 93 #[.int .i64 n, .int .i64 m] w fun e w' => e = .returned (.bool (withinB n m)) ∧ w' = w := by
 by_cases h : 0 ≤ n
 ·go_enter func93, ntmps93
  go_wp2;go_ret;exact ⟨by simp [withinB, h], rfl⟩
 ·have q : decide (0 ≤ n) = false := by simpa using h
  go_enter func93, ntmps93
  go_wp2;go_ret;exact ⟨by simp only [withinB, q]; rfl, rfl⟩

theorem within64_any (n m : Int) (w : World) : Calls prog 99 #[.int .i64 n, .int .i64 m] w fun e w' => e = .returned (.bool (withinB n m)) ∧ w' = w := by
 by_cases h : 0 ≤ n
 ·go_enter func99, ntmps99
  go_wp2;go_ret;exact ⟨by simp [withinB, h], rfl⟩
 ·have q : decide (0 ≤ n) = false := by simpa using h
  go_enter func99, ntmps99
  go_wp2;go_ret;exact ⟨by simp only [withinB, q]; rfl, rfl⟩

theorem withinB_in {r m : Int} : withinB r (m - 1) = inB m r := by
 unfold withinB inB;rw [Bool.eq_iff_iff];simp
 omega
theorem hasRegister_any (b o : Nat) (regs r : Int) (w : World) (c2 : w.cell? ⟨b, o + 2, none⟩ = some (.int .i64 regs)) (h0 : -9223372036854775808 < regs) (h1 : regs ≤ 9223372036854775807) :
  Calls prog 94 #[.pointer (some ⟨b, o, none⟩), .int .i64 r] w fun e w' => e = .returned (.bool (inB regs r)) ∧ w' = w := by
 have hw : IntKind.i64.wrap (regs - 1) = regs - 1 := by rw [wrap_i64]; unfold wrap64; omega
 have hw2 : wrap64 (regs - 1) = regs - 1 := by unfold wrap64; omega
 go_enter func94, ntmps94
 go_wp2_with (go_at_call 93; refine (within_any _ _ _).mono ?_; rintro e w1 ⟨rfl, rfl⟩)
 go_ret;exact ⟨by simp [hw2, withinB_in], rfl⟩
theorem hasNode_any (b o n cap : Nat) (ca : Option Addr) (r : Int) (w : World) (c5 : w.cell? ⟨b, o + 5, none⟩ = some (.slice ca n cap)) (h1 : (n : Int) ≤ 9223372036854775807) :
  Calls prog 55 #[.pointer (some ⟨b, o, none⟩), .int .i64 r] w fun e w' => e = .returned (.bool (inB n r)) ∧ w' = w := by
 have hw : IntKind.i64.wrap ((n : Int) - 1) = n - 1 := by rw [wrap_i64]; unfold wrap64; omega
 have hw2 : wrap64 ((n : Int) - 1) = n - 1 := by unfold wrap64; omega
 go_enter func55, ntmps55
 go_wp2_with (go_at_call 93; refine (within_any _ _ _).mono ?_; rintro e w1 ⟨rfl, rfl⟩)
 go_ret;exact ⟨by simp [hw2, withinB_in], rfl⟩
def readB (p r : Int) : Bool := p != 0 && r != -1
def lackB (p r : Int) : Bool := p == 1 && r == -1

theorem isRegister_any (p r : Int) (w : World) : Calls prog 109 #[.int .i64 p, .int .i64 r] w fun e w' => e = .returned (.bool (readB p r)) ∧ w' = w := by
 cases h : (p != 0)
 ·go_enter func109, ntmps109
  go_wp2;go_ret;exact ⟨by simp only [readB, h]; rfl, rfl⟩
 ·go_enter func109, ntmps109
  go_wp2;go_ret;exact ⟨by simp only [readB, h]; rfl, rfl⟩

theorem lacks_any (p r : Int) (w : World) : Calls prog 127 #[.int .i64 p, .int .i64 r] w fun e w' => e = .returned (.bool (lackB p r)) ∧ w' = w := by
 cases h : (p == 1)
 ·go_enter func127, ntmps127
  go_wp2;go_ret;exact ⟨by simp only [lackB, h]; rfl, rfl⟩
 ·go_enter func127, ntmps127
  go_wp2;go_ret;exact ⟨by simp only [lackB, h]; rfl, rfl⟩

def targetB (p d regs : Int) : Bool := p == 0 || (p == 2 && d == -1) || inB regs d
theorem hasTarget_any (b o : Nat) (regs p d : Int) (w : World) (c2 : w.cell? ⟨b, o + 2, none⟩ = some (.int .i64 regs)) (h0 : -9223372036854775808 < regs) (h1 : regs ≤ 9223372036854775807) :
  Calls prog 97 #[.pointer (some ⟨b, o, none⟩), .int .i64 p, .int .i64 d] w fun e w' => e = .returned (.bool (targetB p d regs)) ∧ w' = w := by
 have HX : Hid (Calls prog 94 #[.pointer (some ⟨b, o, none⟩), .int .i64 d] w fun e w' => e = .returned (.bool (inB regs d)) ∧ w' = w) := hasRegister_any b o regs d w c2 h0 h1;clear h0 h1
 cases q0 : (p == 0)
 ·cases q2 : (p == 2)
  ·go_enter func97, ntmps97
   go_wp2_with (go_at_call 94; refine HX.out.mono ?_; rintro e w1 ⟨rfl, hw⟩; replace hw := hw.symm; subst hw)
   go_ret;exact ⟨by simp only [targetB, q0, q2]; rfl, rfl⟩
  ·cases qd : (d == -1)
   ·go_enter func97, ntmps97
    go_wp2_with (go_at_call 94; refine HX.out.mono ?_; rintro e w1 ⟨rfl, hw⟩; replace hw := hw.symm; subst hw)
    go_ret;exact ⟨by simp only [targetB, q0, q2, qd]; rfl, rfl⟩
   ·go_enter func97, ntmps97
    go_wp2;go_ret;exact ⟨by simp only [targetB, q0, q2, qd]; rfl, rfl⟩
 ·go_enter func97, ntmps97
  go_wp2;go_ret;exact ⟨by simp only [targetB, q0]; rfl, rfl⟩
def mayB (s n : Int) : Bool :=
 if s = 1 then decide (1 ≤ n) && decide (n ≤ 4) else if s = 2 then decide (11 ≤ n) && decide (n ≤ 26) else if s = 3 then decide (21 ≤ n) && decide (n ≤ 26) else if s = 4 then n == 1 || n == 4 || n == 8 else true

theorem mayBe_any (s n : Int) (w : World) : Calls prog 98 #[.int .i64 s, .int .i64 n] w fun e w' => e = .returned (.bool (mayB s n)) ∧ w' = w := by
 by_cases s1 : s = 1
 ·subst s1
  by_cases h : 1 ≤ n
  ·have q : decide (1 ≤ n) = true := by simpa using h
   go_enter func98, ntmps98
   go_wp2;go_ret;exact ⟨by simp [mayB, h], rfl⟩
  ·have q : decide (1 ≤ n) = false := by simpa using h
   go_enter func98, ntmps98
   go_wp2;go_ret;exact ⟨by simp only [mayB, q]; rfl, rfl⟩
 have e1 : (s == 1) = false := by simpa using s1
 by_cases s2 : s = 2
 ·subst s2
  by_cases h : 11 ≤ n
  ·have q : decide (11 ≤ n) = true := by simpa using h
   go_enter func98, ntmps98
   go_wp2;go_ret;exact ⟨by simp [mayB, h], rfl⟩
  ·have q : decide (11 ≤ n) = false := by simpa using h
   go_enter func98, ntmps98
   go_wp2;go_ret;exact ⟨by simp only [mayB, q]; rfl, rfl⟩
 have e2 : (s == 2) = false := by simpa using s2
 by_cases s3 : s = 3
 ·subst s3
  by_cases h : 21 ≤ n
  ·have q : decide (21 ≤ n) = true := by simpa using h
   go_enter func98, ntmps98
   go_wp2;go_ret;exact ⟨by simp [mayB, h], rfl⟩
  ·have q : decide (21 ≤ n) = false := by simpa using h
   go_enter func98, ntmps98
   go_wp2;go_ret;exact ⟨by simp only [mayB, q]; rfl, rfl⟩
 have e3 : (s == 3) = false := by simpa using s3
 by_cases s4 : s = 4
 ·subst s4
  cases q1 : (n == 1)
  ·cases q4 : (n == 4)
   ·go_enter func98, ntmps98
    go_wp2;go_ret;exact ⟨by simp only [mayB, q1, q4]; rfl, rfl⟩
   ·go_enter func98, ntmps98
    go_wp2;go_ret;exact ⟨by simp only [mayB, q1, q4]; rfl, rfl⟩
  ·go_enter func98, ntmps98
   go_wp2;go_ret;exact ⟨by simp only [mayB, q1]; rfl, rfl⟩
 have e4 : (s == 4) = false := by simpa using s4
 have hm : mayB s n = true := by unfold mayB; rw [if_neg s1, if_neg s2, if_neg s3, if_neg s4]
 rw [hm];clear hm s1 s2 s3 s4
 go_enter func98, ntmps98
 go_wp2;go_ret;exact ⟨rfl, rfl⟩
theorem end_Sp {P : Program} {fn : Func} {a : Act} {w w' : World} {x : Sp} (hr : (results fn a.tmps).run P w' = .ok (.agg #[.string x.name, .int .i64 x.sub, .int .i64 x.a, .int .i64 x.b, .int .i64 x.d, .bool x.k, .bool x.args, .bool x.s, .bool x.t]) w') (hd : a.defers = []) (hb : Below w.heap.size w w') :
  bodyPost P fn (retP (spV x) w) .ret a w' := bodyPost_ret hr hd ⟨rfl, hb⟩
theorem shOf_none {op : Int} (h : op < 0 ∨ 15 ≤ op) : shOf op = spNone := by
 unfold shOf
 split
 ·rfl
 ·rw [List.getElem?_eq_none (by simp [spTab]; omega)]; rfl
theorem shapeOf_any (op : Int) (w : World) (ht : ShTab w) : Calls prog 95 #[.int .i64 op] w (retP (spV (shOf op)) w) := by
 by_cases h0 : op < 0
 ·rw [shOf_none (.inl h0)]
  have q : decide (op < 0) = true := by simpa using h0
  clear ht
  go_enter func95, ntmps95
  go_wp2;exact end_Sp (by simp [results, results95, go_sem, spNone]) rfl (by repeat (first | with_reducible exact Below.refl _ _ | with_reducible refine bel_alloc ?_ _ | with_reducible refine bel_set ?_ (by first | exact Nat.le_refl _ | (simp; done) | (simp; omega)) _ | with_reducible refine Below.drew ?_ | refine bel_trans ?_ (by assumption)))
 have q : decide (op < 0) = false := by simpa using h0
 by_cases h1 : 15 ≤ op
 ·rw [shOf_none (.inr h1)]
  have q1 : decide (15 ≤ op) = true := by simpa using h1
  clear ht
  go_enter func95, ntmps95
  go_wp2;exact end_Sp (by simp [results, results95, go_sem, spNone]) rfl (by repeat (first | with_reducible exact Below.refl _ _ | with_reducible refine bel_alloc ?_ _ | with_reducible refine bel_set ?_ (by first | exact Nat.le_refl _ | (simp; done) | (simp; omega)) _ | with_reducible refine Below.drew ?_ | refine bel_trans ?_ (by assumption)))
 have q1 : decide (15 ≤ op) = false := by simpa using h1
 obtain ⟨n, rfl⟩ : ∃ n : Nat, op = n := ⟨op.toNat, by omega⟩;obtain ⟨c0, c1, c2, c3, c4, c5, c6, c7, c8⟩ := ht n (by omega);have j0 : (0 : Int) ≤ n := by omega
 have j1 : (n : Int) < 15 := by omega
 have gl : 0 < w.heap.size := block_lt_of_cell c0;clear ht h0 h1
 generalize shOf (n : Int) = x at *
 go_enter func95, ntmps95
 go_wp2;exact end_Sp (by simp [results, results95, go_sem]) rfl (by repeat (first | with_reducible exact Below.refl _ _ | with_reducible refine bel_alloc ?_ _ | with_reducible refine bel_set ?_ (by first | exact Nat.le_refl _ | (simp; done) | (simp; omega)) _ | with_reducible refine Below.drew ?_ | refine bel_trans ?_ (by assumption)))
def sizesB (regs frame n : Int) : Bool := decide (n ≤ 5000) && withinB regs 5000 && withinB frame 65536
theorem hasSizes_any (b o n cap : Nat) (ca : Option Addr) (regs frame : Int) (w : World) (c2 : w.cell? ⟨b, o + 2, none⟩ = some (.int .i64 regs)) (c3 : w.cell? ⟨b, o + 3, none⟩ = some (.int .i64 frame)) (c5 : w.cell? ⟨b, o + 5, none⟩ = some (.slice ca n cap)) :
  Calls prog 54 #[.pointer (some ⟨b, o, none⟩)] w fun e w' => e = .returned (.bool (sizesB regs frame n)) ∧ w' = w := by
 by_cases h : (n : Int) ≤ 5000
 ·have q : decide ((n : Int) ≤ 5000) = true := by simpa using h
  have qn : decide (n ≤ 5000) = true := by simp; omega
  have HA : Hid (Calls prog 93 #[.int .i64 regs, .int .i64 5000] w fun e w' => e = .returned (.bool (withinB regs 5000)) ∧ w' = w) := within_any _ _ _
  cases hq : withinB regs 5000
  ·rw [hq] at HA
   go_enter func54, ntmps54
   go_wp2_with (go_at_call 93; refine HA.out.mono ?_; rintro e w1 ⟨rfl, hw⟩; replace hw := hw.symm; subst hw)
   go_ret;exact ⟨by simp only [sizesB, q, hq]; rfl, rfl⟩
  ·rw [hq] at HA
   go_enter func54, ntmps54
   go_wp2_with (first | (go_at_call 93; with_reducible refine HA.out.mono ?_; rintro e w1 ⟨rfl, hw⟩; replace hw := hw.symm; subst hw) | (go_at_call 93; refine (within_any _ _ _).mono ?_; rintro e w1 ⟨rfl, rfl⟩))
   go_ret;exact ⟨by simp only [sizesB, q, hq]; rfl, rfl⟩
 ·have q : decide ((n : Int) ≤ 5000) = false := by simpa using h
  have qn : decide (n ≤ 5000) = false := by simp; omega
  go_enter func54, ntmps54
  go_wp2;go_ret;exact ⟨by simp only [sizesB, q]; rfl, rfl⟩
end Go.Proofs.YtncondlfngeilaaGreatDoor
namespace Go.Proofs.YtncondlfngeilaaGreatDoor
open Go.ChangeShapes Go.WideShapes Go.ChangeAt Go.RowKit Go.Proofs.Tryz
set_option linter.unusedSimpArgs false
set_option linter.unusedVariables false
set_option maxRecDepth 100000
set_option maxHeartbeats 4000000

def retIF (l : List Int) (w : World) : Ending → World → Prop := fun e w' => ∃ v, e = .returned v ∧ IL w' v l ∧ (∀ b o s n c, v = .slice (some ⟨b, o, s⟩) n c → w.heap.size ≤ b) ∧ Below w.heap.size w w'
theorem IL.set {w : World} {v u : Value} {l : List Int} {p : Addr} (h : IL w v l) (hb : ∀ b o s n c, v = .slice (some ⟨b, o, s⟩) n c → b ≠ p.block) : IL (w.setCell p u) v l := by
 obtain ⟨a, cap, hv, h1, h0, h2⟩ := h;refine ⟨a, cap, hv, h1, h0, fun hl => ?_⟩;obtain ⟨b, off, rfl, hc⟩ := h2 hl;exact ⟨b, off, rfl, fun i x hx => keep_set (hc i x hx) (hb b off none _ _ hv)⟩
theorem gclone_nil (w : World) : Calls prog 21 #[.slice none 0 0] w (retIF [] w) := by
 have hq : ∀ w, (binOp .eql 22 (.slice none 0 0) (.slice none 0 0)).run prog w = .ok (.bool true) w := fun w => Lib.run_eql_slice_nil w 22 3 none 0 0 0 0 underlying22
 go_enter func21, ntmps21
 go_wp2;go_ret;exact ⟨_, rfl, IL.nil _, (fun b o s n c h => by cases h), Below.refl _ _⟩
theorem gclone_some (ad : Addr) (n cap : Nat) (l : List Int) (w : World) (HN : Hid (l.length = n)) (hn : n * 8 ≤ 140737488355328) (HC : Hid (∀ i x, l[i]? = some x → w.cell? (ad.add i) = some (.int .i64 x))) :
  Calls prog 21 #[.slice (some ad) n cap] w (retIF l w) := by
 have hq : ∀ w, (binOp .eql 22 (.slice (some ad) n cap) (.slice none 0 0)).run prog w = .ok (.bool false) w := fun w => Lib.run_eql_slice_nil w 22 3 (some ad) n cap 0 0 underlying22;obtain ⟨i0, hi, hz0, hz1, hz2⟩ : ∃ i0, prog.info? 3 = some i0 ∧ i0.zero = some (.int .i64 0) ∧ i0.size = 1 ∧ i0.bytes = 8 := info_parts (by kernel_rfl)
 go_enter func21, ntmps21
 go_wp2_with (at_builtin; refine wpList_append_own _ rfl _ _ 22 rfl w.heap.size 3 i0 (.int .i64 0) 1 8 underlying22 hi hz0 hz1 hz2 rfl (by decide) _ 0 [] rfl (World.ownsRow_made w #[] 0 (Nat.le_refl _) (by simp) rfl) ad n cap (ints l) rfl (by rw [ints_length, Nat.mul_one]; exact HN.out) ?c1 ?c2 ?c3 ?c4 ?c5 ?_)
 case c1 =>
  intro j u hj;simp only [ints, List.getElem?_map, Option.map_eq_some_iff] at hj;obtain ⟨x, hx, rfl⟩ := hj;exact keep_alloc (HC.out j x hx) _
 case c2 => intro u hu; simp only [ints, List.mem_map] at hu; obtain ⟨x, _, rfl⟩ := hu; rfl
 case c3 => unfold maxLen; omega
 case c4 => omega
 case c5 => simp
 intro v' w2 hown' hgrow _
 have HO : Hid (w2.ownsRow w.heap.size 3 1 v' l.length (ints l)) := by
  show World.ownsRow _ _ _ _ _ _ _
  rw [HN.out];simpa using hown'
 have HB2 : Hid (Below w.heap.size w w2) := by
  show Below _ _ _
  exact ((Below.refl w.heap.size w).alloc (Nat.le_refl _) _).grown hgrow (by simp) (fun k hk => by simp [Value.ownBlock] at hk; omega)
 clear hown' hgrow;go_wp2;go_ret;refine ⟨_, rfl, IL.own HO.out (by rw [HN.out]; exact hn), (fun b o s n c h => ?_), HB2.out⟩
 rcases HO.out.2 with ⟨e, _⟩ | ⟨g, cp, cur, e, hg, _⟩
 ·have h' : v' = _ := h
  rw [h'] at e; cases e
 ·have h' : v' = _ := h
  rw [h'] at e; cases e; exact hg
theorem gclone_any {w : World} {v : Value} {l : List Int} (h : IL w v l) : Calls prog 21 #[v] w (retIF l w) := by
 obtain ⟨a, cap, rfl, h1, h0, h2⟩ := h
 cases a with
 | none =>
  obtain ⟨rfl, rfl⟩ := h0 rfl;exact gclone_nil w
 | some ad =>
  refine gclone_some ad l.length cap l w rfl h1 (fun i x hx => ?_);obtain ⟨b, off, e, hc⟩ := h2 (fun e => by rw [e] at hx; simp at hx)
  cases e
  rw [show (⟨b, off, none⟩ : Addr).add i = ⟨b, off + i, none⟩ from Addr.add_mid _ _ _];exact hc i x hx
def UsBox (W : World) (sb ib : Nat) (x : Sp) (a b : Int) (v : Value) (l : List Int) : Prop := W.cell? ⟨sb, 2, none⟩ = some (.int .i64 x.a) ∧ W.cell? ⟨sb, 3, none⟩ = some (.int .i64 x.b) ∧ W.cell? ⟨ib, 2, none⟩ = some (.int .i64 a) ∧ W.cell? ⟨ib, 3, none⟩ = some (.int .i64 b) ∧ W.cell? ⟨ib, 6, none⟩ = some v ∧ IL W v l
theorem UsBox.keep {w w' : World} {sb ib : Nat} {x : Sp} {a b : Int} {v : Value} {l : List Int} (h : UsBox w sb ib x a b v l) (hb : Below w.heap.size w w') : UsBox w' sb ib x a b v l := by
 obtain ⟨h0, h1, h2, h3, h4, h5⟩ := h;exact ⟨keep_cell hb h0, keep_cell hb h1, keep_cell hb h2, keep_cell hb h3, keep_cell hb h4, h5.keep hb⟩
def usP (x : Sp) (a b : Int) (l : List Int) : List Int := (if readB x.a a = true then [a] else []) ++ ((if readB x.b b = true then [b] else []) ++ l.filter (· != -1))
def retUs (x : Sp) (a b : Int) (l : List Int) (w : World) : Ending → World → Prop := fun e w' => ∃ sb ib v, e = .returned (.func (.func 108) #[] #[.pointer (some ⟨sb, 0, none⟩), .pointer (some ⟨ib, 0, none⟩)]) ∧ UsBox w' sb ib x a b v l ∧ Below w.heap.size w w'
theorem uses_made (op sub a b d k : Int) (va : Option Addr) (vn vc : Nat) (s t : Int) (l : List Int) (x : Sp) (w : World) (HX : Hid (shOf op = x)) (HT : Hid (ShTab w)) (HV : Hid (IL w (.slice va vn vc) l)) :
  Calls prog 73 #[.agg #[.int .i64 op, .int .i64 sub, .int .i64 a, .int .i64 b, .int .i64 d, .int .i64 k, .slice va vn vc, .int .i64 s, .int .i64 t]] w (retUs x a b (if x.args = true then l else []) w) := by
 have hmf : ∀ (fn : Go.Fn) (first cap : Array Value) (w : World), (Instr.makeFunc fn first cap).run prog w = .ok (.func fn first cap) w := fun _ _ _ _ => rfl;obtain ⟨xn, xs, xa, xb, xd, xk, xg, xs1, xt⟩ := x
 go_enter func73, ntmps73
 cases xg with
 | true =>
  go_wp2_with (go_at_call 95; refine (shapeOf_any _ _ (HT.out.keep (bel_alloc (Below.refl _ _) _))).mono ?_; rintro e w1 ⟨rfl, hb1⟩; rw [HX.out]; simp only [spV]; have i2 := keep_cell hb1 (p := ⟨w.heap.size, 2, none⟩) (v := .int .i64 a) (by simp); have i3 := keep_cell hb1 (p := ⟨w.heap.size, 3, none⟩) (v := .int .i64 b) (by simp); have i6 := keep_cell hb1 (p := ⟨w.heap.size, 6, none⟩) (v := .slice va vn vc) (by simp); have z6 := keep_frozen hb1 (p := ⟨w.heap.size, 6, none⟩) (v := .slice va vn vc) (by simp) (by simp); have hs1 : w.heap.size < w1.heap.size := (by have := hb1.size; simp at this; omega))
  refine (gclone_any (HV.out.keep (by repeat (first | with_reducible exact Below.refl _ _ | with_reducible refine bel_alloc ?_ _ | with_reducible refine bel_set ?_ (by first | exact Nat.le_refl _ | (simp; done) | (simp; omega)) _ | with_reducible refine Below.drew ?_ | refine bel_trans ?_ (by assumption))))).mono ?_;rintro e w2 ⟨v2, rfl, hil, hfr, hb2⟩;have j2 := keep_cell hb2 (p := ⟨w.heap.size, 2, none⟩) (keep_alloc i2 _);have j3 := keep_cell hb2 (p := ⟨w.heap.size, 3, none⟩) (keep_alloc i3 _);have j6 := keep_cell hb2 (p := ⟨w.heap.size, 6, none⟩) (keep_alloc i6 _);have y6 := keep_frozen hb2 (keep_alloc i6 _) (keep_frozen (bel_alloc (Below.refl _ _) _) i6 z6);have s2 := keep_cell hb2 (p := ⟨w1.heap.size, 2, none⟩) (v := .int .i64 xa) (by simp);have s3 := keep_cell hb2 (p := ⟨w1.heap.size, 3, none⟩) (v := .int .i64 xb) (by simp);have s6 := keep_cell hb2 (p := ⟨w1.heap.size, 6, none⟩) (v := .bool true) (by simp);obtain ⟨a2, c2, rfl, hlen2⟩ := len_parts hil;have HIL := hid hil;have HFR := hid hfr;have hs2 : w1.heap.size < w2.heap.size := (by have := hb2.size; simp at this; omega);have HBB : Hid (Below w.heap.size w w2) := hid (by repeat (first | with_reducible exact Below.refl _ _ | with_reducible refine bel_alloc ?_ _ | with_reducible refine bel_set ?_ (by first | exact Nat.le_refl _ | (simp; done) | (simp; omega)) _ | with_reducible refine Below.drew ?_ | refine bel_trans ?_ (by assumption)));clear hil hfr hb2 i2 i3 i6 z6;go_wp2;go_ret;refine ⟨_, _, .slice a2 l.length c2, rfl, ⟨by go_simp, by go_simp, by go_simp, by go_simp, by go_simp, ?_⟩, HBB.out.setCell (by simp) _⟩;exact HIL.out.set (fun b o s n c h => by have := HFR.out b o s n c h; simp at this ⊢; omega)
 | false =>
  go_wp2_with (go_at_call 95; refine (shapeOf_any _ _ (HT.out.keep (bel_alloc (Below.refl _ _) _))).mono ?_; rintro e w1 ⟨rfl, hb1⟩; rw [HX.out]; simp only [spV]; have i2 := keep_cell hb1 (p := ⟨w.heap.size, 2, none⟩) (v := .int .i64 a) (by simp); have i3 := keep_cell hb1 (p := ⟨w.heap.size, 3, none⟩) (v := .int .i64 b) (by simp); have i6 := keep_cell hb1 (p := ⟨w.heap.size, 6, none⟩) (v := .slice va vn vc) (by simp); have z6 := keep_frozen hb1 (p := ⟨w.heap.size, 6, none⟩) (v := .slice va vn vc) (by simp) (by simp); have hs1 : w.heap.size < w1.heap.size := (by have := hb1.size; simp at this; omega))
  refine (gclone_any (HV.out.keep (by repeat (first | with_reducible exact Below.refl _ _ | with_reducible refine bel_alloc ?_ _ | with_reducible refine bel_set ?_ (by first | exact Nat.le_refl _ | (simp; done) | (simp; omega)) _ | with_reducible refine Below.drew ?_ | refine bel_trans ?_ (by assumption))))).mono ?_;rintro e w2 ⟨v2, rfl, hil, hfr, hb2⟩;have j2 := keep_cell hb2 (p := ⟨w.heap.size, 2, none⟩) (keep_alloc i2 _);have j3 := keep_cell hb2 (p := ⟨w.heap.size, 3, none⟩) (keep_alloc i3 _);have j6 := keep_cell hb2 (p := ⟨w.heap.size, 6, none⟩) (keep_alloc i6 _);have y6 := keep_frozen hb2 (keep_alloc i6 _) (keep_frozen (bel_alloc (Below.refl _ _) _) i6 z6);have s2 := keep_cell hb2 (p := ⟨w1.heap.size, 2, none⟩) (v := .int .i64 xa) (by simp);have s3 := keep_cell hb2 (p := ⟨w1.heap.size, 3, none⟩) (v := .int .i64 xb) (by simp);have s6 := keep_cell hb2 (p := ⟨w1.heap.size, 6, none⟩) (v := .bool false) (by simp);obtain ⟨a2, c2, rfl, hlen2⟩ := len_parts hil;have HIL := hid hil;have HFR := hid hfr;have hs2 : w1.heap.size < w2.heap.size := (by have := hb2.size; simp at this; omega);have HBB : Hid (Below w.heap.size w w2) := hid (by repeat (first | with_reducible exact Below.refl _ _ | with_reducible refine bel_alloc ?_ _ | with_reducible refine bel_set ?_ (by first | exact Nat.le_refl _ | (simp; done) | (simp; omega)) _ | with_reducible refine Below.drew ?_ | refine bel_trans ?_ (by assumption)));clear hil hfr hb2 i2 i3 i6 z6;go_wp2;go_ret;refine ⟨_, _, .slice none 0 0, rfl, ⟨by go_simp, by go_simp, by go_simp, by go_simp, by go_simp, ?_⟩, (HBB.out.setCell (by simp) _).setCell (by simp) _⟩;exact IL.nil _
def SuBox (W : World) (ib : Nat) (op s t : Int) : Prop := W.cell? ⟨ib, 0, none⟩ = some (.int .i64 op) ∧ W.cell? ⟨ib, 7, none⟩ = some (.int .i64 s) ∧ W.cell? ⟨ib, 8, none⟩ = some (.int .i64 t)
theorem SuBox.keep {w w' : World} {ib : Nat} {op s t : Int} (h : SuBox w ib op s t) (hb : Below w.heap.size w w') : SuBox w' ib op s t := ⟨keep_cell hb h.1, keep_cell hb h.2.1, keep_cell hb h.2.2⟩
def retSu (op s t : Int) (w : World) : Ending → World → Prop := fun e w' => ∃ ib, e = .returned (.func (.func 104) #[] #[.pointer (some ⟨ib, 0, none⟩)]) ∧ SuBox w' ib op s t ∧ Below w.heap.size w w'
theorem succs_made (op sub a b d k : Int) (va : Option Addr) (vn vc : Nat) (s t : Int) (w : World) : Calls prog 65 #[.agg #[.int .i64 op, .int .i64 sub, .int .i64 a, .int .i64 b, .int .i64 d, .int .i64 k, .slice va vn vc, .int .i64 s, .int .i64 t]] w (retSu op s t w) := by
 have hmf : ∀ (fn : Go.Fn) (first cap : Array Value) (w : World), (Instr.makeFunc fn first cap).run prog w = .ok (.func fn first cap) w := fun _ _ _ _ => rfl
 go_enter func65, ntmps65
 go_wp2;go_ret;exact ⟨_, rfl, ⟨by simp, by simp, by simp⟩, (by repeat (first | with_reducible exact Below.refl _ _ | with_reducible refine bel_alloc ?_ _ | with_reducible refine bel_set ?_ (by first | exact Nat.le_refl _ | (simp; done) | (simp; omega)) _ | with_reducible refine Below.drew ?_ | refine bel_trans ?_ (by assumption)))⟩
end Go.Proofs.YtncondlfngeilaaGreatDoor
namespace Go.Proofs.YtncondlfngeilaaGreatDoor
open Go.ChangeShapes Go.WideShapes Go.ChangeAt Go.RowKit
set_option linter.unusedSimpArgs false
set_option linter.unusedVariables false

theorem cell_offT {w : World} {b o o' : Nat} {u v : Value} (h : w.cell? ⟨b, o, none⟩ = some u) (hne : o' ≠ o) : (w.setCell ⟨b, o', none⟩ v).cell? ⟨b, o, none⟩ = some u := by
 rw [World.cell?_setCell_other _ _ _ _ (fun e => hne (by cases e; rfl))]; exact h
def regionNS (n : Nat) : Code → Option Code
 | .region k o b => if k = n then some (.region k o b) else none
 | .seq a b => match regionNS n a with
  | some c => some c
  | none => regionNS n b
 | .block _ c => regionNS n c
 | .scope c => regionNS n c
 | .loop c => regionNS n c
 | .cond _ a b => match regionNS n a with
  | some c => some c
  | none => regionNS n b
 | _ => none

theorem wp_calmS {P : Program} {c : Code} {K : Act → World → Prop} {QQ : Exit → Act → World → Prop} {a : Act} {w : World} (h : Code.wp P c (Exit.then K (fun _ _ _ => False)) a w) : Code.wp P c (Exit.then K QQ) a w :=
 Go.wp_mono h (fun e a w hq => by cases e <;> first | exact hq | exact hq.elim)
theorem IL.of4 {w w' : World} {v : Value} {l : List Int} (h : IL w v l) (hk : l ≠ [] → ∀ b o s n c, v = .slice (some ⟨b, o, s⟩) n c → w'.heap[b]? = w.heap[b]?) : IL w' v l := by
 obtain ⟨a, cap, hv, h1, h0, h2⟩ := h;refine ⟨a, cap, hv, h1, h0, fun hl => ?_⟩;obtain ⟨b, off, rfl, hc⟩ := h2 hl;exact ⟨b, off, rfl, fun i x hx => cell_of (hc i x hx) (fun _ => hk hl b off none _ _ hv)⟩
def InsW (P : Nat → Prop) (w : World) (CB co n : Nat) (x : Ins) : Prop := ∃ v, IL w v x.args ∧ (x.args ≠ [] → ∀ b o s k c, v = .slice (some ⟨b, o, s⟩) k c → P b) ∧ w.cell? ⟨CB, co + n * 9, none⟩ = some (.int .i64 x.op) ∧ w.cell? ⟨CB, co + n * 9 + 1, none⟩ = some (.int .i64 x.sub) ∧ w.cell? ⟨CB, co + n * 9 + 2, none⟩ = some (.int .i64 x.a) ∧ w.cell? ⟨CB, co + n * 9 + 3, none⟩ = some (.int .i64 x.b) ∧ w.cell? ⟨CB, co + n * 9 + 4, none⟩ = some (.int .i64 x.d) ∧ w.cell? ⟨CB, co + n * 9 + 5, none⟩ = some (.int .i64 x.k) ∧ w.cell? ⟨CB, co + n * 9 + 6, none⟩ = some (v) ∧ w.cell? ⟨CB, co + n * 9 + 7, none⟩ = some (.int .i64 x.s) ∧ w.cell? ⟨CB, co + n * 9 + 8, none⟩ = some (.int .i64 x.t) ∧ w.frozen? ⟨CB, co + n * 9, none⟩ = false ∧ w.frozen? ⟨CB, co + n * 9 + 1, none⟩ = false ∧ w.frozen? ⟨CB, co + n * 9 + 2, none⟩ = false ∧ w.frozen? ⟨CB, co + n * 9 + 3, none⟩ = false ∧ w.frozen? ⟨CB, co + n * 9 + 4, none⟩ = false ∧ w.frozen? ⟨CB, co + n * 9 + 5, none⟩ = false ∧ w.frozen? ⟨CB, co + n * 9 + 6, none⟩ = false ∧ w.frozen? ⟨CB, co + n * 9 + 7, none⟩ = false ∧ w.frozen? ⟨CB, co + n * 9 + 8, none⟩ = false
theorem InsW.ins {P : Nat → Prop} {w : World} {CB co n : Nat} {x : Ins} (h : InsW P w CB co n x) : InsAt w CB (co + n * 9) x := by
 obtain ⟨v, h1, _, e0, e1, e2, e3, e4, e5, e6, e7, e8, _⟩ := h;exact ⟨v, h1, e0, e1, e2, e3, e4, e5, e6, e7, e8⟩
theorem InsW.of {P : Nat → Prop} {w w' : World} {CB co n : Nat} {x : Ins} (h : InsW P w CB co n x) (hk : ∀ k, P k → w'.heap[k]? = w.heap[k]?) (hc : w'.heap[CB]? = w.heap[CB]?) : InsW P w' CB co n x := by
 obtain ⟨v, h1, h2, e0, e1, e2, e3, e4, e5, e6, e7, e8, f0, f1, f2, f3, f4, f5, f6, f7, f8⟩ := h;have kc : ∀ {o : Nat} {u : Value}, w.cell? ⟨CB, o, none⟩ = some u → w'.cell? ⟨CB, o, none⟩ = some u := fun q => by rw [World.cell?_of_block (w := w) hc]; exact q
 have kf : ∀ {o : Nat}, w.frozen? ⟨CB, o, none⟩ = false → w'.frozen? ⟨CB, o, none⟩ = false := fun q => by rw [World.frozen?_of_block (w := w) hc]; exact q
 exact ⟨v, h1.of4 (fun hl b o s n c e => hk b (h2 hl b o s n c e)), h2, kc e0, kc e1, kc e2, kc e3, kc e4, kc e5, kc e6, kc e7, kc e8, kf f0, kf f1, kf f2, kf f3, kf f4, kf f5, kf f6, kf f7, kf f8⟩

def Ob (R : Nat) (rv : Nat → Value) (k : Nat) : Prop := ∃ j, j < R ∧ (rv j).ownBlock = some k
theorem NI.obw {B NB n : Nat} {rv : Nat → Value} {g : Nat → List Nat} {W : World} (h : NI B NB n rv g W) {k : Nat} (hk : Ob n rv k) : B ≤ k ∧ k < W.heap.size := by
 obtain ⟨j, hj, e⟩ := hk;exact (h.own j hj).lt k e
theorem NI.nbl {B NB n : Nat} {rv : Nat → Value} {g : Nat → List Nat} {W : World} (h : NI B NB n rv g W) (h0 : 0 < n) : NB < W.heap.size := block_lt_of_cell (h.cell 0 h0).1
theorem ob_all {R k : Nat} {rv : Nat → Value} : (∀ j, j < R → some k ≠ (rv j).ownBlock) ↔ ¬ Ob R rv k :=
 ⟨fun h ⟨j, hj, e⟩ => h j hj e.symm, fun h j hj e => h ⟨j, hj, e.symm⟩⟩
theorem addG_gOf (es : List (Nat × Nat)) (x t k : Nat) : addG (gOf es) x t k = gOf (es ++ [(x, t)]) k := by
 rw [gOf_snoc];unfold addG
 by_cases h2 : k = x
 ·subst h2; simp
 ·rw [if_neg h2, if_neg (Ne.symm h2)]; simp

theorem InsW.set7 {P : Nat → Prop} {w : World} {CB co n : Nat} {x : Ins} (h : InsW P w CB co n x) (hP : ¬ P CB) (z : Int) : InsW P (w.setCell ⟨CB, co + n * 9 + 7, none⟩ (.int .i64 z)) CB co n { x with s := z } := by
 obtain ⟨v, h1, h2, e0, e1, e2, e3, e4, e5, e6, e7, e8, f0, f1, f2, f3, f4, f5, f6, f7, f8⟩ := h;have kf : ∀ {o : Nat}, w.frozen? ⟨CB, o, none⟩ = false → (w.setCell ⟨CB, co + n * 9 + 7, none⟩ (.int .i64 z)).frozen? ⟨CB, o, none⟩ = false := fun q => by rw [World.frozen?_setCell]; exact q
 exact ⟨v, h1.of4 (fun hl b o s k c e => Below.heap_setCell _ ⟨CB, co + n * 9 + 7, none⟩ _ b (fun q => hP (by have h3 := h2 hl b o s k c e; have q : b = CB := q; rw [q] at h3; exact h3))), h2, cell_offT e0 (by omega), cell_offT e1 (by omega), cell_offT e2 (by omega), cell_offT e3 (by omega), cell_offT e4 (by omega), cell_offT e5 (by omega), cell_offT e6 (by omega), World.cell?_setCell_same _ _ _ e7, cell_offT e8 (by omega), kf f0, kf f1, kf f2, kf f3, kf f4, kf f5, kf f6, kf f7, kf f8⟩
theorem InsW.oth7 {P : Nat → Prop} {w : World} {CB co n m : Nat} {x : Ins} (h : InsW P w CB co n x) (hP : ¬ P CB) (z : Int) (hm : n ≠ m) : InsW P (w.setCell ⟨CB, co + m * 9 + 7, none⟩ (.int .i64 z)) CB co n x := by
 obtain ⟨v, h1, h2, e0, e1, e2, e3, e4, e5, e6, e7, e8, f0, f1, f2, f3, f4, f5, f6, f7, f8⟩ := h;have kf : ∀ {o : Nat}, w.frozen? ⟨CB, o, none⟩ = false → (w.setCell ⟨CB, co + m * 9 + 7, none⟩ (.int .i64 z)).frozen? ⟨CB, o, none⟩ = false := fun q => by rw [World.frozen?_setCell]; exact q
 exact ⟨v, h1.of4 (fun hl b o s k c e => Below.heap_setCell _ ⟨CB, co + m * 9 + 7, none⟩ _ b (fun q => hP (by have h3 := h2 hl b o s k c e; have q : b = CB := q; rw [q] at h3; exact h3))), h2, cell_offT e0 (by omega), cell_offT e1 (by omega), cell_offT e2 (by omega), cell_offT e3 (by omega), cell_offT e4 (by omega), cell_offT e5 (by omega), cell_offT e6 (by omega), cell_offT e7 (by omega), cell_offT e8 (by omega), kf f0, kf f1, kf f2, kf f3, kf f4, kf f5, kf f6, kf f7, kf f8⟩
theorem InsW.set8 {P : Nat → Prop} {w : World} {CB co n : Nat} {x : Ins} (h : InsW P w CB co n x) (hP : ¬ P CB) (z : Int) : InsW P (w.setCell ⟨CB, co + n * 9 + 8, none⟩ (.int .i64 z)) CB co n { x with t := z } := by
 obtain ⟨v, h1, h2, e0, e1, e2, e3, e4, e5, e6, e7, e8, f0, f1, f2, f3, f4, f5, f6, f7, f8⟩ := h;have kf : ∀ {o : Nat}, w.frozen? ⟨CB, o, none⟩ = false → (w.setCell ⟨CB, co + n * 9 + 8, none⟩ (.int .i64 z)).frozen? ⟨CB, o, none⟩ = false := fun q => by rw [World.frozen?_setCell]; exact q
 exact ⟨v, h1.of4 (fun hl b o s k c e => Below.heap_setCell _ ⟨CB, co + n * 9 + 8, none⟩ _ b (fun q => hP (by have h3 := h2 hl b o s k c e; have q : b = CB := q; rw [q] at h3; exact h3))), h2, cell_offT e0 (by omega), cell_offT e1 (by omega), cell_offT e2 (by omega), cell_offT e3 (by omega), cell_offT e4 (by omega), cell_offT e5 (by omega), cell_offT e6 (by omega), cell_offT e7 (by omega), World.cell?_setCell_same _ _ _ e8, kf f0, kf f1, kf f2, kf f3, kf f4, kf f5, kf f6, kf f7, kf f8⟩
theorem InsW.oth8 {P : Nat → Prop} {w : World} {CB co n m : Nat} {x : Ins} (h : InsW P w CB co n x) (hP : ¬ P CB) (z : Int) (hm : n ≠ m) : InsW P (w.setCell ⟨CB, co + m * 9 + 8, none⟩ (.int .i64 z)) CB co n x := by
 obtain ⟨v, h1, h2, e0, e1, e2, e3, e4, e5, e6, e7, e8, f0, f1, f2, f3, f4, f5, f6, f7, f8⟩ := h;have kf : ∀ {o : Nat}, w.frozen? ⟨CB, o, none⟩ = false → (w.setCell ⟨CB, co + m * 9 + 8, none⟩ (.int .i64 z)).frozen? ⟨CB, o, none⟩ = false := fun q => by rw [World.frozen?_setCell]; exact q
 exact ⟨v, h1.of4 (fun hl b o s k c e => Below.heap_setCell _ ⟨CB, co + m * 9 + 8, none⟩ _ b (fun q => hP (by have h3 := h2 hl b o s k c e; have q : b = CB := q; rw [q] at h3; exact h3))), h2, cell_offT e0 (by omega), cell_offT e1 (by omega), cell_offT e2 (by omega), cell_offT e3 (by omega), cell_offT e4 (by omega), cell_offT e5 (by omega), cell_offT e6 (by omega), cell_offT e7 (by omega), cell_offT e8 (by omega), kf f0, kf f1, kf f2, kf f3, kf f4, kf f5, kf f6, kf f7, kf f8⟩
end Go.Proofs.YtncondlfngeilaaGreatDoor
