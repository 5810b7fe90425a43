/- Package asm: contracts of its leaves. -/
import Derived.Test.YtofnnpchobgapaaGreatDoorAsM
import Derived.BigQuiet
import Derived.Deep.QuietTactic
namespace Go.Proofs.YtofnnpchobgapaaGreatDoor
open Go.ChangeShapes Go.WideShapes Go.ChangeAt Go.RowKit
set_option linter.unusedSimpArgs false
set_option linter.unusedVariables false

theorem hid {p : Prop} (h : p) : Hid p := h
theorem bel_drewN {B : Nat} {a w : World} (h : Below B a w) (n : Nat) : Below B a (w.drewN n) := ⟨h.os, h.tape, h.output, h.size, h.block⟩
/-- The table of shapes lies in memory. -/
def AsTab (w : World) : Prop := ∀ n : Nat, n < 27 → w.cell? ⟨1, n * 7, none⟩ = some (.string (aspOf n).name) ∧ w.cell? ⟨1, n * 7 + 1, none⟩ = some (.int .i64 (aspOf n).r) ∧ w.cell? ⟨1, n * 7 + 2, none⟩ = some (.int .i64 (aspOf n).m) ∧ w.cell? ⟨1, n * 7 + 3, none⟩ = some (.int .i64 (aspOf n).sub) ∧ w.cell? ⟨1, n * 7 + 4, none⟩ = some (.int .i64 (aspOf n).k) ∧ w.cell? ⟨1, n * 7 + 5, none⟩ = some (.bool (aspOf n).cc) ∧ w.cell? ⟨1, n * 7 + 6, none⟩ = some (.bool (aspOf n).l)
theorem AsTab.keep {w w' : World} (h : AsTab w) (hb : Below w.heap.size w w') : AsTab w' := fun n hn => by
  obtain ⟨h0, h1, h2, h3, h4, h5, h6⟩ := h n hn
  exact ⟨keep_cell hb h0, keep_cell hb h1, keep_cell hb h2, keep_cell hb h3, keep_cell hb h4, keep_cell hb h5, keep_cell hb h6⟩
theorem awrap_i64 (x : Int) : IntKind.i64.wrap x = wrap64 x := by rw [IntKind.wrap_i64]; unfold wrap64; omega

set_option maxHeartbeats 1000000 in
theorem awithin_any (n m : Int) (w : World) : Calls Tryz.prog 25 #[.int .i64 n, .int .i64 m] w fun e w' => e = .returned (.bool (awB n m)) ∧ w' = w := by
  by_cases h : 0 ≤ n
  · go_enter Tryz.func25, Tryz.ntmps25
    go_wp2
    go_ret
    exact ⟨by simp [awB, h], rfl⟩
  · have q : decide (0 ≤ n) = false := by simpa using h
    go_enter Tryz.func25, Tryz.ntmps25
    go_wp2
    go_ret
    exact ⟨by simp only [awB, q]; rfl, rfl⟩

set_option maxHeartbeats 1000000 in
theorem awithin64_any (n m : Int) (w : World) : Calls Tryz.prog 83 #[.int .i64 n, .int .i64 m] w fun e w' => e = .returned (.bool (awB n m)) ∧ w' = w := by
  by_cases h : 0 ≤ n
  · go_enter Tryz.func83, Tryz.ntmps83
    go_wp2
    go_ret
    exact ⟨by simp [awB, h], rfl⟩
  · have q : decide (0 ≤ n) = false := by simpa using h
    go_enter Tryz.func83, Tryz.ntmps83
    go_wp2
    go_ret
    exact ⟨by simp only [awB, q]; rfl, rfl⟩

set_option maxHeartbeats 2000000 in
theorem aplace_any (p n : Int) (w : World) : Calls Tryz.prog 60 #[.int .i64 p, .int .i64 n] w fun e w' => e = .returned (.bool (aplB p n)) ∧ w' = w := by
  have HW : Hid (Calls Tryz.prog 25 #[.int .i64 n, .int .i64 15] w fun e w' => e = .returned (.bool (awB n 15)) ∧ w' = w) := awithin_any _ _ _
  cases q0 : (p == 0)
  · cases qw : awB n 15
    · rw [qw] at HW
      go_enter Tryz.func60, Tryz.ntmps60
      go_wp2_with (go_at_call 25; refine HW.out.mono ?_; rintro e w1 ⟨rfl, hw⟩; replace hw := hw.symm; subst hw)
      go_ret
      exact ⟨by simp only [aplB, q0, qw]; rfl, rfl⟩
    · rw [qw] at HW
      cases q1 : (p == 1)
      · go_enter Tryz.func60, Tryz.ntmps60
        go_wp2_with (go_at_call 25; refine HW.out.mono ?_; rintro e w1 ⟨rfl, hw⟩; replace hw := hw.symm; subst hw)
        go_ret
        exact ⟨by simp only [aplB, q0, q1, qw]; rfl, rfl⟩
      · go_enter Tryz.func60, Tryz.ntmps60
        go_wp2_with (go_at_call 25; refine HW.out.mono ?_; rintro e w1 ⟨rfl, hw⟩; replace hw := hw.symm; subst hw)
        go_ret
        exact ⟨by simp only [aplB, q0, q1, qw]; rfl, rfl⟩
  · go_enter Tryz.func60, Tryz.ntmps60
    go_wp2
    go_ret
    exact ⟨by simp only [aplB, q0]; rfl, rfl⟩

set_option maxHeartbeats 4000000 in
theorem asub1_any (n ng nf : Int) (pa : Addr) (w : World) : Calls Tryz.prog 61 #[.int .i64 1, .int .i64 n, .pointer (some pa)] w fun e w' => e = .returned (.bool (asbB 1 n ng nf)) ∧ w' = w := by
  cases q1 : (n == 1)
  · skip
    cases q4 : (n == 4)
    · skip
      go_enter Tryz.func61, Tryz.ntmps61
      go_wp2
      go_ret
      exact ⟨by first | rfl | (simp only [asbB, aluB, Int.reduceEq, ite_true, ite_false, *]; rfl) | (simp [asbB, aluB, Int.reduceEq, ite_true, ite_false, *]; done), rfl⟩
    · skip
      go_enter Tryz.func61, Tryz.ntmps61
      go_wp2
      go_ret
      exact ⟨by first | rfl | (simp only [asbB, aluB, Int.reduceEq, ite_true, ite_false, *]; rfl) | (simp [asbB, aluB, Int.reduceEq, ite_true, ite_false, *]; done), rfl⟩
  · skip
    go_enter Tryz.func61, Tryz.ntmps61
    go_wp2
    go_ret
    exact ⟨by first | rfl | (simp only [asbB, aluB, Int.reduceEq, ite_true, ite_false, *]; rfl) | (simp [asbB, aluB, Int.reduceEq, ite_true, ite_false, *]; done), rfl⟩
set_option maxHeartbeats 4000000 in
theorem asub4_any (n ng nf : Int) (pa : Addr) (w : World) : Calls Tryz.prog 61 #[.int .i64 4, .int .i64 n, .pointer (some pa)] w fun e w' => e = .returned (.bool (asbB 4 n ng nf)) ∧ w' = w := by
  cases q11 : (n == 11)
  · skip
    cases q12 : (n == 12)
    · skip
      cases q13 : (n == 13)
      · skip
        cases q16 : (n == 16)
        · skip
          cases q17 : (n == 17)
          · skip
            go_enter Tryz.func61, Tryz.ntmps61
            go_wp2
            go_ret
            exact ⟨by first | rfl | (simp only [asbB, aluB, Int.reduceEq, ite_true, ite_false, *]; rfl) | (simp [asbB, aluB, Int.reduceEq, ite_true, ite_false, *]; done), rfl⟩
          · skip
            go_enter Tryz.func61, Tryz.ntmps61
            go_wp2
            go_ret
            exact ⟨by first | rfl | (simp only [asbB, aluB, Int.reduceEq, ite_true, ite_false, *]; rfl) | (simp [asbB, aluB, Int.reduceEq, ite_true, ite_false, *]; done), rfl⟩
        · skip
          go_enter Tryz.func61, Tryz.ntmps61
          go_wp2
          go_ret
          exact ⟨by first | rfl | (simp only [asbB, aluB, Int.reduceEq, ite_true, ite_false, *]; rfl) | (simp [asbB, aluB, Int.reduceEq, ite_true, ite_false, *]; done), rfl⟩
      · skip
        go_enter Tryz.func61, Tryz.ntmps61
        go_wp2
        go_ret
        exact ⟨by first | rfl | (simp only [asbB, aluB, Int.reduceEq, ite_true, ite_false, *]; rfl) | (simp [asbB, aluB, Int.reduceEq, ite_true, ite_false, *]; done), rfl⟩
    · skip
      go_enter Tryz.func61, Tryz.ntmps61
      go_wp2
      go_ret
      exact ⟨by first | rfl | (simp only [asbB, aluB, Int.reduceEq, ite_true, ite_false, *]; rfl) | (simp [asbB, aluB, Int.reduceEq, ite_true, ite_false, *]; done), rfl⟩
  · skip
    go_enter Tryz.func61, Tryz.ntmps61
    go_wp2
    go_ret
    exact ⟨by first | rfl | (simp only [asbB, aluB, Int.reduceEq, ite_true, ite_false, *]; rfl) | (simp [asbB, aluB, Int.reduceEq, ite_true, ite_false, *]; done), rfl⟩
set_option maxHeartbeats 4000000 in
theorem asub5_any (n ng nf : Int) (pa : Addr) (w : World) : Calls Tryz.prog 61 #[.int .i64 5, .int .i64 n, .pointer (some pa)] w fun e w' => e = .returned (.bool (asbB 5 n ng nf)) ∧ w' = w := by
  cases q1 : (n == 1)
  · skip
    go_enter Tryz.func61, Tryz.ntmps61
    go_wp2
    go_ret
    exact ⟨by first | rfl | (simp only [asbB, aluB, Int.reduceEq, ite_true, ite_false, *]; rfl) | (simp [asbB, aluB, Int.reduceEq, ite_true, ite_false, *]; done), rfl⟩
  · skip
    go_enter Tryz.func61, Tryz.ntmps61
    go_wp2
    go_ret
    exact ⟨by first | rfl | (simp only [asbB, aluB, Int.reduceEq, ite_true, ite_false, *]; rfl) | (simp [asbB, aluB, Int.reduceEq, ite_true, ite_false, *]; done), rfl⟩
set_option maxHeartbeats 4000000 in
theorem asub6_any (n ng nf : Int) (pa : Addr) (w : World) : Calls Tryz.prog 61 #[.int .i64 6, .int .i64 n, .pointer (some pa)] w fun e w' => e = .returned (.bool (asbB 6 n ng nf)) ∧ w' = w := by
  cases q3 : (n == 3)
  · skip
    go_enter Tryz.func61, Tryz.ntmps61
    go_wp2
    go_ret
    exact ⟨by first | rfl | (simp only [asbB, aluB, Int.reduceEq, ite_true, ite_false, *]; rfl) | (simp [asbB, aluB, Int.reduceEq, ite_true, ite_false, *]; done), rfl⟩
  · skip
    go_enter Tryz.func61, Tryz.ntmps61
    go_wp2
    go_ret
    exact ⟨by first | rfl | (simp only [asbB, aluB, Int.reduceEq, ite_true, ite_false, *]; rfl) | (simp [asbB, aluB, Int.reduceEq, ite_true, ite_false, *]; done), rfl⟩
set_option maxHeartbeats 4000000 in
theorem asub7_any (n ng nf : Int) (pa : Addr) (w : World) : Calls Tryz.prog 61 #[.int .i64 7, .int .i64 n, .pointer (some pa)] w fun e w' => e = .returned (.bool (asbB 7 n ng nf)) ∧ w' = w := by
  cases q19 : (n == 19)
  · skip
    go_enter Tryz.func61, Tryz.ntmps61
    go_wp2
    go_ret
    exact ⟨by first | rfl | (simp only [asbB, aluB, Int.reduceEq, ite_true, ite_false, *]; rfl) | (simp [asbB, aluB, Int.reduceEq, ite_true, ite_false, *]; done), rfl⟩
  · skip
    go_enter Tryz.func61, Tryz.ntmps61
    go_wp2
    go_ret
    exact ⟨by first | rfl | (simp only [asbB, aluB, Int.reduceEq, ite_true, ite_false, *]; rfl) | (simp [asbB, aluB, Int.reduceEq, ite_true, ite_false, *]; done), rfl⟩

set_option maxHeartbeats 4000000 in
theorem asub2_any (n : Int) (pb po g cap : Nat) (ga : Option Addr) (o : Int) (w : World) (c0 : w.cell? ⟨pb, po, none⟩ = some (.slice ga g cap)) (hg : (g : Int) ≤ 9223372036854775807) : Calls Tryz.prog 61 #[.int .i64 2, .int .i64 n, .pointer (some ⟨pb, po, none⟩)] w fun e w' => e = .returned (.bool (asbB 2 n g o)) ∧ w' = w := by
  have hw : IntKind.i64.wrap ((g : Int) - 1) = g - 1 := by rw [awrap_i64]; unfold wrap64; omega
  have hw2 : wrap64 ((g : Int) - 1) = g - 1 := by unfold wrap64; omega
  go_enter Tryz.func61, Tryz.ntmps61
  go_wp2_with (go_at_call 25; refine (awithin_any _ _ _).mono ?_; rintro e w1 ⟨rfl, hw⟩; replace hw := hw.symm; subst hw)
  go_ret
  exact ⟨by simp [asbB, hw, hw2], rfl⟩

set_option maxHeartbeats 4000000 in
theorem asub3_any (n : Int) (pb po g cap : Nat) (ga : Option Addr) (o : Int) (w : World) (c0 : w.cell? ⟨pb, po + 1, none⟩ = some (.slice ga g cap)) (hg : (g : Int) ≤ 9223372036854775807) : Calls Tryz.prog 61 #[.int .i64 3, .int .i64 n, .pointer (some ⟨pb, po, none⟩)] w fun e w' => e = .returned (.bool (asbB 3 n o g)) ∧ w' = w := by
  have hw : IntKind.i64.wrap ((g : Int) - 1) = g - 1 := by rw [awrap_i64]; unfold wrap64; omega
  have hw2 : wrap64 ((g : Int) - 1) = g - 1 := by unfold wrap64; omega
  go_enter Tryz.func61, Tryz.ntmps61
  go_wp2_with (go_at_call 25; refine (awithin_any _ _ _).mono ?_; rintro e w1 ⟨rfl, hw⟩; replace hw := hw.symm; subst hw)
  go_ret
  exact ⟨by simp [asbB, hw, hw2], rfl⟩

set_option maxHeartbeats 4000000 in
theorem asub0_any (s n : Int) (pa : Addr) (ng nf : Int) (w : World) (hs : s < 1 ∨ 7 < s) : Calls Tryz.prog 61 #[.int .i64 s, .int .i64 n, .pointer (some pa)] w fun e w' => e = .returned (.bool (asbB s n ng nf)) ∧ w' = w := by
  have hm : asbB s n ng nf = true := by
    unfold asbB
    rw [if_neg (by omega), if_neg (by omega), if_neg (by omega), if_neg (by omega), if_neg (by omega), if_neg (by omega), if_neg (by omega)]
  rw [hm]
  have e1 : (s == 1) = false := by simp; omega
  have e2 : (s == 2) = false := by simp; omega
  have e3 : (s == 3) = false := by simp; omega
  have e4 : (s == 4) = false := by simp; omega
  have e5 : (s == 5) = false := by simp; omega
  have e6 : (s == 6) = false := by simp; omega
  have e7 : (s == 7) = false := by simp; omega
  clear hm hs
  go_enter Tryz.func61, Tryz.ntmps61
  go_wp2
  go_ret
  exact ⟨rfl, rfl⟩
theorem asub_any (s n : Int) (pb po g cap nf fcap : Nat) (ga fa : Option Addr) (w : World) (c0 : w.cell? ⟨pb, po, none⟩ = some (.slice ga g cap)) (c1 : w.cell? ⟨pb, po + 1, none⟩ = some (.slice fa nf fcap)) (hg : (g : Int) ≤ 9223372036854775807) (hf : (nf : Int) ≤ 9223372036854775807) :
    Calls Tryz.prog 61 #[.int .i64 s, .int .i64 n, .pointer (some ⟨pb, po, none⟩)] w fun e w' => e = .returned (.bool (asbB s n g nf)) ∧ w' = w := by
  by_cases hs : s < 1 ∨ 7 < s
  · exact asub0_any s n _ g nf w hs
  · have : s = 1 ∨ s = 2 ∨ s = 3 ∨ s = 4 ∨ s = 5 ∨ s = 6 ∨ s = 7 := by omega
    rcases this with rfl | rfl | rfl | rfl | rfl | rfl | rfl
    · exact asub1_any n g nf _ w
    · exact asub2_any n pb po g cap ga nf w c0 hg
    · exact asub3_any n pb po nf fcap fa g w c1 hf
    · exact asub4_any n g nf _ w
    · exact asub5_any n g nf _ w
    · exact asub6_any n g nf _ w
    · exact asub7_any n g nf _ w

theorem abel_drewN {B : Nat} {a w : World} (h : Below B a w) (n : Nat) : Below B a (w.drewN n) := ⟨h.os, h.tape, h.output, h.size, h.block⟩
/-- The answer is this; nothing is written. -/
def retQ (v : Value) (w : World) : Ending → World → Prop := fun e w' => e = .returned v ∧ ∃ m, w' = w.drewN m
theorem retQ.retP {v : Value} {w : World} {e : Ending} {w' : World} (h : retQ v w e w') : retP v w e w' := by
  obtain ⟨h1, m, rfl⟩ := h
  exact ⟨h1, abel_drewN (Below.refl _ _) m⟩
theorem a32_eq (k : Int) : (wrap64 (wrap32 k) == k) = a32B k := by
  unfold a32B wrap64 wrap32
  rw [Bool.eq_iff_iff]
  simp only [beq_iff_eq, Bool.and_eq_true, decide_eq_true_eq]
  omega

set_option maxHeartbeats 4000000 in
theorem acon2_any (ib io pb po : Nat) (k z : Int) (w : World) (c6 : w.cell? ⟨ib, io + 6, none⟩ = some (.int .i64 k)) : Calls Tryz.prog 62 #[.int .i64 2, .pointer (some ⟨ib, io, none⟩), .pointer (some ⟨pb, po, none⟩)] w (retQ (.bool (acoB 2 k z)) w) := by
  have he : acoB 2 k z = (wrap64 (wrap32 k) == k) := by rw [a32_eq]; rfl
  rw [he]
  clear he
  go_enter Tryz.func62, Tryz.ntmps62
  go_wp2_with fail
  go_quiet (fail)
  go_wp2
  go_ret
  exact ⟨rfl, _, rfl⟩
set_option maxHeartbeats 4000000 in
theorem acon3_any (ib io pb po g cap gb go : Nat) (s : Nat) (k z : Int) (w : World) (c3 : w.cell? ⟨ib, io + 3, none⟩ = some (.int .i64 s)) (c6 : w.cell? ⟨ib, io + 6, none⟩ = some (.int .i64 k)) (c0 : w.cell? ⟨pb, po, none⟩ = some (.slice (some ⟨gb, go, none⟩) g cap)) (cg : w.cell? ⟨gb, go + s, none⟩ = some (.int .i64 z)) (hs : s < g) (hg : (g : Int) ≤ 9223372036854775807) : Calls Tryz.prog 62 #[.int .i64 3, .pointer (some ⟨ib, io, none⟩), .pointer (some ⟨pb, po, none⟩)] w (retQ (.bool (acoB 3 k z)) w) := by
  have j0 : (0 : Int) ≤ s := by omega
  have j1 : (s : Int) < g := by omega
  have HW : Hid (∀ W, Calls Tryz.prog 83 #[.int .i64 k, .int .i64 z] W fun e w' => e = .returned (.bool (awB k z)) ∧ w' = W) := fun W => awithin64_any _ _ _
  go_enter Tryz.func62, Tryz.ntmps62
  go_wp2_with fail
  go_quiet (first | (go_at_call 83; with_reducible exact Calls.quiet_of_same (HW.out _)))
  go_wp2
  go_ret
  exact ⟨rfl, _, rfl⟩

set_option maxHeartbeats 4000000 in
theorem acon4_any (ib io pb po : Nat) (k z : Int) (w : World) (c6 : w.cell? ⟨ib, io + 6, none⟩ = some (.int .i64 k)) : Calls Tryz.prog 62 #[.int .i64 4, .pointer (some ⟨ib, io, none⟩), .pointer (some ⟨pb, po, none⟩)] w (retQ (.bool (acoB 4 k z)) w) := by
  go_enter Tryz.func62, Tryz.ntmps62
  go_wp2_with (go_at_call 83; refine (awithin64_any _ _ _).mono ?_; rintro e w1 ⟨rfl, hw⟩; replace hw := hw.symm; subst hw)
  go_ret
  exact ⟨rfl, 0, rfl⟩

set_option maxHeartbeats 4000000 in
theorem acon5_any (ib io pb po : Nat) (k z : Int) (w : World) (c6 : w.cell? ⟨ib, io + 6, none⟩ = some (.int .i64 k)) : Calls Tryz.prog 62 #[.int .i64 5, .pointer (some ⟨ib, io, none⟩), .pointer (some ⟨pb, po, none⟩)] w (retQ (.bool (acoB 5 k z)) w) := by
  go_enter Tryz.func62, Tryz.ntmps62
  go_wp2_with (go_at_call 83; refine (awithin64_any _ _ _).mono ?_; rintro e w1 ⟨rfl, hw⟩; replace hw := hw.symm; subst hw)
  go_ret
  exact ⟨rfl, 0, rfl⟩

set_option maxHeartbeats 4000000 in
theorem acon0_any (ib io pb po : Nat) (c k z : Int) (w : World) (hc : c < 2 ∨ 5 < c) : Calls Tryz.prog 62 #[.int .i64 c, .pointer (some ⟨ib, io, none⟩), .pointer (some ⟨pb, po, none⟩)] w (retQ (.bool (acoB c k z)) w) := by
  have hm : acoB c k z = true := by
    unfold acoB
    rw [if_neg (by omega), if_neg (by omega), if_neg (by omega), if_neg (by omega)]
  rw [hm]
  have e2 : (c == 2) = false := by simp; omega
  have e3 : (c == 3) = false := by simp; omega
  have e4 : (c == 4) = false := by simp; omega
  have e5 : (c == 5) = false := by simp; omega
  clear hm hc
  go_enter Tryz.func62, Tryz.ntmps62
  go_wp2
  go_ret
  exact ⟨rfl, 0, rfl⟩
/-- The constant of an instruction whose Sub is right. -/
theorem acon_any (c : Int) (ib io pb po g cap gb go : Nat) (ga : Option Addr) (globals : List Int) (x : AIns) (w : World) (hi : AInsAt w ib io x) (c0 : w.cell? ⟨pb, po, none⟩ = some (.slice ga g cap)) (hn : g = globals.length) (ha : 0 < g → ga = some ⟨gb, go, none⟩) (hg : (g : Int) ≤ 9223372036854775807) (hc : ∀ (i : Nat) y, globals[i]? = some y → w.cell? ⟨gb, go + i, none⟩ = some (.int .i64 y))
    (hs : c = 3 → awB x.sub (g - 1) = true) : Calls Tryz.prog 62 #[.int .i64 c, .pointer (some ⟨ib, io, none⟩), .pointer (some ⟨pb, po, none⟩)] w (retQ (.bool (acoB c x.k (glA globals x.sub))) w) := by
  obtain ⟨h0, h1, h2, h3, h4, h5, h6⟩ := hi
  by_cases hx : c < 2 ∨ 5 < c
  · exact acon0_any ib io pb po c x.k _ w hx
  · have : c = 2 ∨ c = 3 ∨ c = 4 ∨ c = 5 := by omega
    rcases this with rfl | rfl | rfl | rfl
    · exact acon2_any ib io pb po x.k _ w h6
    · have hs' := hs rfl
      simp only [awB, Bool.and_eq_true, decide_eq_true_eq] at hs'
      obtain ⟨s, e⟩ : ∃ s : Nat, x.sub = s := ⟨x.sub.toNat, by omega⟩
      rw [e] at h3 hs'
      have hlt : s < g := by omega
      have hget := List.getElem?_eq_getElem (l := globals) (show s < globals.length by omega)
      have he : glA globals x.sub = globals[s]'(by omega) := by rw [e]; simp only [glA, Int.toNat_natCast, hget, Option.getD_some]
      rw [he]
      rw [ha (by omega)] at c0
      exact acon3_any ib io pb po g cap gb go s x.k _ w h3 h6 c0 (hc s _ hget) hlt hg
    · exact acon4_any ib io pb po x.k _ w h6
    · exact acon5_any ib io pb po x.k _ w h6

theorem end_ASp {P : Program} {fn : Func} {a : Act} {w w' : World} {x : ASp} (hr : (results fn a.tmps).run P w' = .ok (.agg #[.string x.name, .int .i64 x.r, .int .i64 x.m, .int .i64 x.sub, .int .i64 x.k, .bool x.cc, .bool x.l]) w') (hd : a.defers = []) (hb : Below w.heap.size w w') :
    bodyPost P fn (retP (aspV x) w) .ret a w' := bodyPost_ret hr hd ⟨rfl, hb⟩
theorem aspOf_none {op : Int} (h : op < 0 ∨ 27 ≤ op) : aspOf op = aspNone := by
  unfold aspOf
  split
  · rfl
  · rw [List.getElem?_eq_none (by simp [aspTab]; omega)]; rfl
set_option maxHeartbeats 4000000 in
theorem ashape_any (op : Int) (w : World) (ht : AsTab w) : Calls Tryz.prog 45 #[.int .i64 op] w (retP (aspV (aspOf op)) w) := by
  by_cases h0 : op < 0
  · rw [aspOf_none (.inl h0)]
    have q : decide (op < 0) = true := by simpa using h0
    clear ht
    go_enter Tryz.func45, Tryz.ntmps45
    go_wp2
    exact end_ASp (by simp [results, Tryz.results45, go_sem, aspNone]) rfl (by repeat (first | with_reducible exact Below.refl _ _ | with_reducible refine bel_alloc ?_ _ | with_reducible refine bel_set ?_ (by first | exact Nat.le_refl _ | (simp; done) | (simp; omega)) _ | with_reducible refine Below.drew ?_ | refine bel_trans ?_ (by assumption)))
  have q : decide (op < 0) = false := by simpa using h0
  by_cases h1 : 27 ≤ op
  · rw [aspOf_none (.inr h1)]
    have q1 : decide (27 ≤ op) = true := by simpa using h1
    clear ht
    go_enter Tryz.func45, Tryz.ntmps45
    go_wp2
    exact end_ASp (by simp [results, Tryz.results45, go_sem, aspNone]) rfl (by repeat (first | with_reducible exact Below.refl _ _ | with_reducible refine bel_alloc ?_ _ | with_reducible refine bel_set ?_ (by first | exact Nat.le_refl _ | (simp; done) | (simp; omega)) _ | with_reducible refine Below.drew ?_ | refine bel_trans ?_ (by assumption)))
  have q1 : decide (27 ≤ op) = false := by simpa using h1
  obtain ⟨n, rfl⟩ : ∃ n : Nat, op = n := ⟨op.toNat, by omega⟩
  obtain ⟨c0, c1, c2, c3, c4, c5, c6⟩ := ht n (by omega)
  have j0 : (0 : Int) ≤ n := by omega
  have j1 : (n : Int) < 27 := by omega
  have gl : 1 < w.heap.size := block_lt_of_cell c0
  clear ht h0 h1
  generalize aspOf (n : Int) = x at *
  go_enter Tryz.func45, Tryz.ntmps45
  go_wp2
  exact end_ASp (by simp [results, Tryz.results45, go_sem]) rfl (by repeat (first | with_reducible exact Below.refl _ _ | with_reducible refine bel_alloc ?_ _ | with_reducible refine bel_set ?_ (by first | exact Nat.le_refl _ | (simp; done) | (simp; omega)) _ | with_reducible refine Below.drew ?_ | refine bel_trans ?_ (by assumption)))
set_option maxHeartbeats 1000000 in
theorem ajumps_any (ib io : Nat) (op : Int) (w : World) (c0 : w.cell? ⟨ib, io, none⟩ = some (.int .i64 op)) : Calls Tryz.prog 64 #[.pointer (some ⟨ib, io, none⟩)] w fun e w' => e = .returned (.bool (op == 18 || op == 19)) ∧ w' = w := by
  cases q : (op == 18)
  · go_enter Tryz.func64, Tryz.ntmps64
    go_wp2
    go_ret
    exact ⟨by simp, rfl⟩
  · go_enter Tryz.func64, Tryz.ntmps64
    go_wp2
    go_ret
    exact ⟨by simp, rfl⟩
end Go.Proofs.YtofnnpchobgapaaGreatDoor

