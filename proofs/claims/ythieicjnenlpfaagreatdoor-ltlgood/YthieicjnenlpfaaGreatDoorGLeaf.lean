/- Package rtl: contracts of its leaves. -/
import Derived.Test.YthieicjnenlpfaaGreatDoorRGood
namespace Go.Proofs.YthieicjnenlpfaaGreatDoor
open Go.ChangeShapes Go.WideShapes Go.ChangeAt Go.RowKit
set_option linter.unusedSimpArgs false
set_option linter.unusedVariables false

/-- An operation's shape. -/
structure Sp where
  name : ByteArray
  sub : Int
  a : Int
  b : Int
  d : Int
  k : Bool
  args : Bool
  s : Bool
  t : Bool
def spNone : Sp := ⟨⟨#[]⟩, 0, 0, 0, 0, false, false, false, false⟩
def spTab : List Sp := [⟨⟨#[]⟩, 0, 0, 0, 0, false, false, false, false⟩, ⟨⟨#[110, 111, 112]⟩, 0, 0, 0, 0, false, false, true, false⟩, ⟨⟨#[99, 111, 110, 115, 116]⟩, 0, 0, 0, 1, true, false, true, false⟩, ⟨⟨#[99, 111, 112, 121]⟩, 0, 1, 0, 1, false, false, true, false⟩, ⟨⟨#[117, 110]⟩, 1, 1, 0, 1, false, false, true, false⟩, ⟨⟨#[98, 105, 110]⟩, 2, 1, 2, 1, true, false, true, false⟩, ⟨⟨#[108, 111, 97, 100]⟩, 4, 1, 0, 1, true, false, true, false⟩, ⟨⟨#[115, 116, 111, 114, 101]⟩, 4, 1, 1, 0, true, false, true, false⟩, ⟨⟨#[103, 108, 111, 98, 97, 108]⟩, 5, 0, 0, 1, true, false, true, false⟩, ⟨⟨#[102, 114, 97, 109, 101]⟩, 0, 0, 0, 1, true, false, true, false⟩, ⟨⟨#[99, 97, 108, 108]⟩, 6, 0, 0, 2, false, true, true, false⟩, ⟨⟨#[99, 111, 110, 100]⟩, 3, 1, 2, 0, true, false, true, true⟩, ⟨⟨#[114, 101, 116, 117, 114, 110]⟩, 0, 2, 0, 0, false, false, false, false⟩, ⟨⟨#[105, 110]⟩, 0, 0, 0, 1, false, false, true, false⟩, ⟨⟨#[111, 117, 116]⟩, 0, 1, 0, 0, false, false, true, false⟩]
def shOf (op : Int) : Sp := if op < 0 then spNone else (spTab[op.toNat]?).getD spNone
def spV (x : Sp) : Value := .agg #[.string x.name, .int .i64 x.sub, .int .i64 x.a, .int .i64 x.b, .int .i64 x.d, .bool x.k, .bool x.args, .bool x.s, .bool x.t]
/-- The table of shapes lies in memory. -/
def ShTab (w : World) : Prop := ∀ n : Nat, n < 15 → w.cell? ⟨1, n * 9, none⟩ = some (.string (shOf n).name) ∧ w.cell? ⟨1, n * 9 + 1, none⟩ = some (.int .i64 (shOf n).sub) ∧ w.cell? ⟨1, n * 9 + 2, none⟩ = some (.int .i64 (shOf n).a) ∧ w.cell? ⟨1, n * 9 + 3, none⟩ = some (.int .i64 (shOf n).b) ∧ w.cell? ⟨1, n * 9 + 4, none⟩ = some (.int .i64 (shOf n).d) ∧ w.cell? ⟨1, n * 9 + 5, none⟩ = some (.bool (shOf n).k) ∧ w.cell? ⟨1, n * 9 + 6, none⟩ = some (.bool (shOf n).args) ∧ w.cell? ⟨1, n * 9 + 7, none⟩ = some (.bool (shOf n).s) ∧ w.cell? ⟨1, n * 9 + 8, none⟩ = some (.bool (shOf n).t)
theorem ShTab.keep {w w' : World} (h : ShTab w) (hb : Below w.heap.size w w') : ShTab w' := fun n hn => by
  obtain ⟨h0, h1, h2, h3, h4, h5, h6, h7, h8⟩ := h n hn
  exact ⟨keep_cell hb h0, keep_cell hb h1, keep_cell hb h2, keep_cell hb h3, keep_cell hb h4, keep_cell hb h5, keep_cell hb h6, keep_cell hb h7, keep_cell hb h8⟩
theorem wrap_i64 (x : Int) : IntKind.i64.wrap x = wrap64 x := by rw [IntKind.wrap_i64]; unfold wrap64; omega
def withinB (n m : Int) : Bool := decide (0 ≤ n) && decide (n ≤ m)

set_option maxHeartbeats 1000000 in
theorem within_any (n m : Int) (w : World) : Calls Tryz.prog 32 #[.int .i64 n, .int .i64 m] w fun e w' => e = .returned (.bool (withinB n m)) ∧ w' = w := by
  by_cases h : 0 ≤ n
  · go_enter Tryz.func32, Tryz.ntmps32
    go_wp2
    go_ret
    exact ⟨by simp [withinB, h], rfl⟩
  · have q : decide (0 ≤ n) = false := by simpa using h
    go_enter Tryz.func32, Tryz.ntmps32
    go_wp2
    go_ret
    exact ⟨by simp only [withinB, q]; rfl, rfl⟩

set_option maxHeartbeats 1000000 in
theorem within64_any (n m : Int) (w : World) : Calls Tryz.prog 50 #[.int .i64 n, .int .i64 m] w fun e w' => e = .returned (.bool (withinB n m)) ∧ w' = w := by
  by_cases h : 0 ≤ n
  · go_enter Tryz.func50, Tryz.ntmps50
    go_wp2
    go_ret
    exact ⟨by simp [withinB, h], rfl⟩
  · have q : decide (0 ≤ n) = false := by simpa using h
    go_enter Tryz.func50, Tryz.ntmps50
    go_wp2
    go_ret
    exact ⟨by simp only [withinB, q]; rfl, rfl⟩

theorem withinB_in {r m : Int} : withinB r (m - 1) = inB m r := by
  unfold withinB inB
  rw [Bool.eq_iff_iff]
  simp
  omega
set_option maxHeartbeats 1000000 in
theorem hasRegister_any (b o : Nat) (regs r : Int) (w : World) (c2 : w.cell? ⟨b, o + 2, none⟩ = some (.int .i64 regs)) (h0 : -9223372036854775808 < regs) (h1 : regs ≤ 9223372036854775807) :
    Calls Tryz.prog 69 #[.pointer (some ⟨b, o, none⟩), .int .i64 r] w fun e w' => e = .returned (.bool (inB regs r)) ∧ w' = w := by
  have hw : IntKind.i64.wrap (regs - 1) = regs - 1 := by rw [wrap_i64]; unfold wrap64; omega
  have hw2 : wrap64 (regs - 1) = regs - 1 := by unfold wrap64; omega
  go_enter Tryz.func69, Tryz.ntmps69
  go_wp2_with (go_at_call 32; refine (within_any _ _ _).mono ?_; rintro e w1 ⟨rfl, rfl⟩)
  go_ret
  exact ⟨by simp [hw2, withinB_in], rfl⟩
set_option maxHeartbeats 1000000 in
theorem hasNode_any (b o n cap : Nat) (ca : Option Addr) (r : Int) (w : World) (c5 : w.cell? ⟨b, o + 5, none⟩ = some (.slice ca n cap)) (h1 : (n : Int) ≤ 9223372036854775807) :
    Calls Tryz.prog 46 #[.pointer (some ⟨b, o, none⟩), .int .i64 r] w fun e w' => e = .returned (.bool (inB n r)) ∧ w' = w := by
  have hw : IntKind.i64.wrap ((n : Int) - 1) = n - 1 := by rw [wrap_i64]; unfold wrap64; omega
  have hw2 : wrap64 ((n : Int) - 1) = n - 1 := by unfold wrap64; omega
  go_enter Tryz.func46, Tryz.ntmps46
  go_wp2_with (go_at_call 32; refine (within_any _ _ _).mono ?_; rintro e w1 ⟨rfl, rfl⟩)
  go_ret
  exact ⟨by simp [hw2, withinB_in], rfl⟩
def readB (p r : Int) : Bool := p != 0 && r != -1
def lackB (p r : Int) : Bool := p == 1 && r == -1

set_option maxHeartbeats 1000000 in
theorem isRegister_any (p r : Int) (w : World) : Calls Tryz.prog 53 #[.int .i64 p, .int .i64 r] w fun e w' => e = .returned (.bool (readB p r)) ∧ w' = w := by
  cases h : (p != 0)
  · go_enter Tryz.func53, Tryz.ntmps53
    go_wp2
    go_ret
    exact ⟨by simp only [readB, h]; rfl, rfl⟩
  · go_enter Tryz.func53, Tryz.ntmps53
    go_wp2
    go_ret
    exact ⟨by simp only [readB, h]; rfl, rfl⟩

set_option maxHeartbeats 1000000 in
theorem lacks_any (p r : Int) (w : World) : Calls Tryz.prog 90 #[.int .i64 p, .int .i64 r] w fun e w' => e = .returned (.bool (lackB p r)) ∧ w' = w := by
  cases h : (p == 1)
  · go_enter Tryz.func90, Tryz.ntmps90
    go_wp2
    go_ret
    exact ⟨by simp only [lackB, h]; rfl, rfl⟩
  · go_enter Tryz.func90, Tryz.ntmps90
    go_wp2
    go_ret
    exact ⟨by simp only [lackB, h]; rfl, rfl⟩

def targetB (p d regs : Int) : Bool := p == 0 || (p == 2 && d == -1) || inB regs d
set_option maxHeartbeats 1000000 in
theorem hasTarget_any (b o : Nat) (regs p d : Int) (w : World) (c2 : w.cell? ⟨b, o + 2, none⟩ = some (.int .i64 regs)) (h0 : -9223372036854775808 < regs) (h1 : regs ≤ 9223372036854775807) :
    Calls Tryz.prog 72 #[.pointer (some ⟨b, o, none⟩), .int .i64 p, .int .i64 d] w fun e w' => e = .returned (.bool (targetB p d regs)) ∧ w' = w := by
  have HX : Hid (Calls Tryz.prog 69 #[.pointer (some ⟨b, o, none⟩), .int .i64 d] w fun e w' => e = .returned (.bool (inB regs d)) ∧ w' = w) := hasRegister_any b o regs d w c2 h0 h1
  clear h0 h1
  cases q0 : (p == 0)
  · cases q2 : (p == 2)
    · go_enter Tryz.func72, Tryz.ntmps72
      go_wp2_with (go_at_call 69; refine HX.out.mono ?_; rintro e w1 ⟨rfl, hw⟩; replace hw := hw.symm; subst hw)
      go_ret
      exact ⟨by simp only [targetB, q0, q2]; rfl, rfl⟩
    · cases qd : (d == -1)
      · go_enter Tryz.func72, Tryz.ntmps72
        go_wp2_with (go_at_call 69; refine HX.out.mono ?_; rintro e w1 ⟨rfl, hw⟩; replace hw := hw.symm; subst hw)
        go_ret
        exact ⟨by simp only [targetB, q0, q2, qd]; rfl, rfl⟩
      · go_enter Tryz.func72, Tryz.ntmps72
        go_wp2
        go_ret
        exact ⟨by simp only [targetB, q0, q2, qd]; rfl, rfl⟩
  · go_enter Tryz.func72, Tryz.ntmps72
    go_wp2
    go_ret
    exact ⟨by simp only [targetB, q0]; rfl, rfl⟩
def mayB (s n : Int) : Bool :=
  if s = 1 then decide (1 ≤ n) && decide (n ≤ 4) else if s = 2 then decide (11 ≤ n) && decide (n ≤ 26) else if s = 3 then decide (21 ≤ n) && decide (n ≤ 26) else if s = 4 then n == 1 || n == 4 || n == 8 else true

set_option maxHeartbeats 4000000 in
theorem mayBe_any (s n : Int) (w : World) : Calls Tryz.prog 73 #[.int .i64 s, .int .i64 n] w fun e w' => e = .returned (.bool (mayB s n)) ∧ w' = w := by
  by_cases s1 : s = 1
  · subst s1
    by_cases h : 1 ≤ n
    · have q : decide (1 ≤ n) = true := by simpa using h
      go_enter Tryz.func73, Tryz.ntmps73
      go_wp2
      go_ret
      exact ⟨by simp [mayB, h], rfl⟩
    · have q : decide (1 ≤ n) = false := by simpa using h
      go_enter Tryz.func73, Tryz.ntmps73
      go_wp2
      go_ret
      exact ⟨by simp only [mayB, q]; rfl, rfl⟩
  have e1 : (s == 1) = false := by simpa using s1
  by_cases s2 : s = 2
  · subst s2
    by_cases h : 11 ≤ n
    · have q : decide (11 ≤ n) = true := by simpa using h
      go_enter Tryz.func73, Tryz.ntmps73
      go_wp2
      go_ret
      exact ⟨by simp [mayB, h], rfl⟩
    · have q : decide (11 ≤ n) = false := by simpa using h
      go_enter Tryz.func73, Tryz.ntmps73
      go_wp2
      go_ret
      exact ⟨by simp only [mayB, q]; rfl, rfl⟩
  have e2 : (s == 2) = false := by simpa using s2
  by_cases s3 : s = 3
  · subst s3
    by_cases h : 21 ≤ n
    · have q : decide (21 ≤ n) = true := by simpa using h
      go_enter Tryz.func73, Tryz.ntmps73
      go_wp2
      go_ret
      exact ⟨by simp [mayB, h], rfl⟩
    · have q : decide (21 ≤ n) = false := by simpa using h
      go_enter Tryz.func73, Tryz.ntmps73
      go_wp2
      go_ret
      exact ⟨by simp only [mayB, q]; rfl, rfl⟩
  have e3 : (s == 3) = false := by simpa using s3
  by_cases s4 : s = 4
  · subst s4
    cases q1 : (n == 1)
    · cases q4 : (n == 4)
      · go_enter Tryz.func73, Tryz.ntmps73
        go_wp2
        go_ret
        exact ⟨by simp only [mayB, q1, q4]; rfl, rfl⟩
      · go_enter Tryz.func73, Tryz.ntmps73
        go_wp2
        go_ret
        exact ⟨by simp only [mayB, q1, q4]; rfl, rfl⟩
    · go_enter Tryz.func73, Tryz.ntmps73
      go_wp2
      go_ret
      exact ⟨by simp only [mayB, q1]; rfl, rfl⟩
  have e4 : (s == 4) = false := by simpa using s4
  have hm : mayB s n = true := by unfold mayB; rw [if_neg s1, if_neg s2, if_neg s3, if_neg s4]
  rw [hm]
  clear hm s1 s2 s3 s4
  go_enter Tryz.func73, Tryz.ntmps73
  go_wp2
  go_ret
  exact ⟨rfl, rfl⟩
theorem end_Sp {P : Program} {fn : Func} {a : Act} {w w' : World} {x : Sp} (hr : (results fn a.tmps).run P w' = .ok (.agg #[.string x.name, .int .i64 x.sub, .int .i64 x.a, .int .i64 x.b, .int .i64 x.d, .bool x.k, .bool x.args, .bool x.s, .bool x.t]) w') (hd : a.defers = []) (hb : Below w.heap.size w w') :
    bodyPost P fn (retP (spV x) w) .ret a w' := bodyPost_ret hr hd ⟨rfl, hb⟩
theorem shOf_none {op : Int} (h : op < 0 ∨ 15 ≤ op) : shOf op = spNone := by
  unfold shOf
  split
  · rfl
  · rw [List.getElem?_eq_none (by simp [spTab]; omega)]; rfl
set_option maxHeartbeats 4000000 in
theorem shapeOf_any (op : Int) (w : World) (ht : ShTab w) : Calls Tryz.prog 49 #[.int .i64 op] w (retP (spV (shOf op)) w) := by
  by_cases h0 : op < 0
  · rw [shOf_none (.inl h0)]
    have q : decide (op < 0) = true := by simpa using h0
    clear ht
    go_enter Tryz.func49, Tryz.ntmps49
    go_wp2
    exact end_Sp (by simp [results, Tryz.results49, go_sem, spNone]) rfl (by repeat (first | with_reducible exact Below.refl _ _ | with_reducible refine bel_alloc ?_ _ | with_reducible refine bel_set ?_ (by first | exact Nat.le_refl _ | (simp; done) | (simp; omega)) _ | with_reducible refine Below.drew ?_ | refine bel_trans ?_ (by assumption)))
  have q : decide (op < 0) = false := by simpa using h0
  by_cases h1 : 15 ≤ op
  · rw [shOf_none (.inr h1)]
    have q1 : decide (15 ≤ op) = true := by simpa using h1
    clear ht
    go_enter Tryz.func49, Tryz.ntmps49
    go_wp2
    exact end_Sp (by simp [results, Tryz.results49, go_sem, spNone]) rfl (by repeat (first | with_reducible exact Below.refl _ _ | with_reducible refine bel_alloc ?_ _ | with_reducible refine bel_set ?_ (by first | exact Nat.le_refl _ | (simp; done) | (simp; omega)) _ | with_reducible refine Below.drew ?_ | refine bel_trans ?_ (by assumption)))
  have q1 : decide (15 ≤ op) = false := by simpa using h1
  obtain ⟨n, rfl⟩ : ∃ n : Nat, op = n := ⟨op.toNat, by omega⟩
  obtain ⟨c0, c1, c2, c3, c4, c5, c6, c7, c8⟩ := ht n (by omega)
  have j0 : (0 : Int) ≤ n := by omega
  have j1 : (n : Int) < 15 := by omega
  have gl : 1 < w.heap.size := block_lt_of_cell c0
  clear ht h0 h1
  generalize shOf (n : Int) = x at *
  go_enter Tryz.func49, Tryz.ntmps49
  go_wp2
  exact end_Sp (by simp [results, Tryz.results49, go_sem]) rfl (by repeat (first | with_reducible exact Below.refl _ _ | with_reducible refine bel_alloc ?_ _ | with_reducible refine bel_set ?_ (by first | exact Nat.le_refl _ | (simp; done) | (simp; omega)) _ | with_reducible refine Below.drew ?_ | refine bel_trans ?_ (by assumption)))
def sizesB (regs frame n : Int) : Bool := decide (n ≤ 5000) && withinB regs 5000 && withinB frame 65536
set_option maxHeartbeats 1000000 in
theorem hasSizes_any (b o n cap : Nat) (ca : Option Addr) (regs frame : Int) (w : World) (c2 : w.cell? ⟨b, o + 2, none⟩ = some (.int .i64 regs)) (c3 : w.cell? ⟨b, o + 3, none⟩ = some (.int .i64 frame)) (c5 : w.cell? ⟨b, o + 5, none⟩ = some (.slice ca n cap)) :
    Calls Tryz.prog 45 #[.pointer (some ⟨b, o, none⟩)] w fun e w' => e = .returned (.bool (sizesB regs frame n)) ∧ w' = w := by
  by_cases h : (n : Int) ≤ 5000
  · have q : decide ((n : Int) ≤ 5000) = true := by simpa using h
    have qn : decide (n ≤ 5000) = true := by simp; omega
    have HA : Hid (Calls Tryz.prog 32 #[.int .i64 regs, .int .i64 5000] w fun e w' => e = .returned (.bool (withinB regs 5000)) ∧ w' = w) := within_any _ _ _
    cases hq : withinB regs 5000
    · rw [hq] at HA
      go_enter Tryz.func45, Tryz.ntmps45
      go_wp2_with (go_at_call 32; refine HA.out.mono ?_; rintro e w1 ⟨rfl, hw⟩; replace hw := hw.symm; subst hw)
      go_ret
      exact ⟨by simp only [sizesB, q, hq]; rfl, rfl⟩
    · rw [hq] at HA
      go_enter Tryz.func45, Tryz.ntmps45
      go_wp2_with (first | (go_at_call 32; with_reducible refine HA.out.mono ?_; rintro e w1 ⟨rfl, hw⟩; replace hw := hw.symm; subst hw) | (go_at_call 32; refine (within_any _ _ _).mono ?_; rintro e w1 ⟨rfl, rfl⟩))
      go_ret
      exact ⟨by simp only [sizesB, q, hq]; rfl, rfl⟩
  · have q : decide ((n : Int) ≤ 5000) = false := by simpa using h
    have qn : decide (n ≤ 5000) = false := by simp; omega
    go_enter Tryz.func45, Tryz.ntmps45
    go_wp2
    go_ret
    exact ⟨by simp only [sizesB, q]; rfl, rfl⟩
end Go.Proofs.YthieicjnenlpfaaGreatDoor

