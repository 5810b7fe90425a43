/- Contracts of package val's operations: divide, shift, compare, ints, pointers, pointerAndInt, Bin, Un. -/
import Derived.Test.YtfkalcfkbaimgabDoorLeaf
namespace Go.Proofs.YtfkalcfkbaimgabDoor
open Go.ChangeShapes Go.WideShapes Go.ChangeAt Go.RowKit Pl
set_option linter.unusedSimpArgs false
set_option linter.unusedVariables false

set_option maxHeartbeats 400000 in
theorem divide_any (op a b : Int) (w : World) : Calls Tryd.prog 21 #[.int .i64 op, .int .i64 a, .int .i64 b] w (retV (divideF op a b).1 (divideF op a b).2 w) := by
  by_cases hb : b = 0
  · subst hb
    go_enter Tryd.func21, Tryd.ntmps21
    go_wp2
    exact end_V (by simp [results, Tryd.results21, go_sem, divideF, noV, *]) rfl (by repeat (first | exact Below.refl _ _ | refine bel_alloc ?_ _ | refine bel_set ?_ (by first | exact Nat.le_refl _ | (simp; done) | (simp; omega)) _ | refine Below.drew ?_ | refine bel_trans ?_ (by assumption)))
  have hb2 : (b == 0) = false := by simp [hb]
  by_cases hm : a = -9223372036854775808
  · subst hm
    by_cases hn : b = -1
    · subst hn
      go_enter Tryd.func21, Tryd.ntmps21
      go_wp2
      exact end_V (by simp [results, Tryd.results21, go_sem, divideF, noV, *]) rfl (by repeat (first | exact Below.refl _ _ | refine bel_alloc ?_ _ | refine bel_set ?_ (by first | exact Nat.le_refl _ | (simp; done) | (simp; omega)) _ | refine Below.drew ?_ | refine bel_trans ?_ (by assumption)))
    · have hn2 : (b == -1) = false := by simp [hn]
      by_cases h14 : op = 14
      · subst h14
        have e : divideF 14 (-9223372036854775808) b = (ofF (wrap64 (-Int.tdiv 9223372036854775808 b)), true) := by simp [divideF, hb, hn]
        rw [e]; clear e
        go_enter Tryd.func21, Tryd.ntmps21
        go_wp2_with (go_at_call 6; refine (of_any _ _).mono ?_; rintro e w1 ⟨rfl, hb1⟩; obtain ⟨hc1, hf1⟩ := bcell hb1; have hz1 := bsize hb1; try simp only [World.size_alloc, World.size_drew, World.cell?_drew, World.frozen?_drew] at hz1 hc1 hf1)
        exact end_V (by simp [results, Tryd.results21, go_sem, ofF, *]) rfl (by repeat (first | exact Below.refl _ _ | refine bel_alloc ?_ _ | refine bel_set ?_ (by first | exact Nat.le_refl _ | (simp; done) | (simp; omega)) _ | refine Below.drew ?_ | refine bel_trans ?_ (by assumption)))
      · have e : divideF op (-9223372036854775808) b = (ofF (-(9223372036854775808 % b)), true) := by
          have e0 : Int.tmod (-9223372036854775808) b = -(9223372036854775808 % b) := by rw [Int.neg_tmod, Int.tmod_eq_emod_of_nonneg (by decide)]
          simp only [divideF, hb, hn, h14, e0]; simp
        rw [e]; clear e
        go_enter Tryd.func21, Tryd.ntmps21
        go_wp2_with (go_at_call 6; refine (of_any _ _).mono ?_; rintro e w1 ⟨rfl, hb1⟩; obtain ⟨hc1, hf1⟩ := bcell hb1; have hz1 := bsize hb1; try simp only [World.size_alloc, World.size_drew, World.cell?_drew, World.frozen?_drew] at hz1 hc1 hf1)
        exact end_V (by simp [results, Tryd.results21, go_sem, ofF, *]) rfl (by repeat (first | exact Below.refl _ _ | refine bel_alloc ?_ _ | refine bel_set ?_ (by first | exact Nat.le_refl _ | (simp; done) | (simp; omega)) _ | refine Below.drew ?_ | refine bel_trans ?_ (by assumption)))
  · have hm2 : (a == -9223372036854775808) = false := by simp [hm]
    by_cases h14 : op = 14
    · subst h14
      have e : divideF 14 a b = (ofF (wrap64 (a.tdiv b)), true) := by simp [divideF, hb, hm]
      rw [e]; clear e hm
      go_enter Tryd.func21, Tryd.ntmps21
      go_wp2_with (go_at_call 6; refine (of_any _ _).mono ?_; rintro e w1 ⟨rfl, hb1⟩; obtain ⟨hc1, hf1⟩ := bcell hb1; have hz1 := bsize hb1; try simp only [World.size_alloc, World.size_drew, World.cell?_drew, World.frozen?_drew] at hz1 hc1 hf1)
      exact end_V (by simp [results, Tryd.results21, go_sem, ofF, *]) rfl (by repeat (first | exact Below.refl _ _ | refine bel_alloc ?_ _ | refine bel_set ?_ (by first | exact Nat.le_refl _ | (simp; done) | (simp; omega)) _ | refine Below.drew ?_ | refine bel_trans ?_ (by assumption)))
    · have e : divideF op a b = (ofF (a.tmod b), true) := by simp [divideF, hb, hm, h14]
      rw [e]; clear e hm
      go_enter Tryd.func21, Tryd.ntmps21
      go_wp2_with (go_at_call 6; refine (of_any _ _).mono ?_; rintro e w1 ⟨rfl, hb1⟩; obtain ⟨hc1, hf1⟩ := bcell hb1; have hz1 := bsize hb1; try simp only [World.size_alloc, World.size_drew, World.cell?_drew, World.frozen?_drew] at hz1 hc1 hf1)
      exact end_V (by simp [results, Tryd.results21, go_sem, ofF, *]) rfl (by repeat (first | exact Below.refl _ _ | refine bel_alloc ?_ _ | refine bel_set ?_ (by first | exact Nat.le_refl _ | (simp; done) | (simp; omega)) _ | refine Below.drew ?_ | refine bel_trans ?_ (by assumption)))

set_option maxHeartbeats 400000 in
theorem shift_any (op a b : Int) (w : World) : Calls Tryd.prog 22 #[.int .i64 op, .int .i64 a, .int .i64 b] w (retV (shiftF op a b).1 (shiftF op a b).2 w) := by
  by_cases h0 : b < 0
  · have e : shiftF op a b = (noV, false) := by simp [shiftF, h0]
    rw [e]; clear e
    go_enter Tryd.func22, Tryd.ntmps22
    go_wp2
    exact end_V (by simp [results, Tryd.results22, go_sem, noV, *]) rfl (by repeat (first | exact Below.refl _ _ | refine bel_alloc ?_ _ | refine bel_set ?_ (by first | exact Nat.le_refl _ | (simp; done) | (simp; omega)) _ | refine Below.drew ?_ | refine bel_trans ?_ (by assumption)))
  by_cases h1 : 63 < b
  · have e : shiftF op a b = (noV, false) := by simp [shiftF, h1]
    rw [e]; clear e
    go_enter Tryd.func22, Tryd.ntmps22
    go_wp2
    exact end_V (by simp [results, Tryd.results22, go_sem, noV, *]) rfl (by repeat (first | exact Below.refl _ _ | refine bel_alloc ?_ _ | refine bel_set ?_ (by first | exact Nat.le_refl _ | (simp; done) | (simp; omega)) _ | refine Below.drew ?_ | refine bel_trans ?_ (by assumption)))
  by_cases h19 : op = 19
  · subst h19
    have e : shiftF 19 a b = (ofF (wrap64 (a * 2 ^ b.toNat)), true) := by simp [shiftF, h0, h1]
    rw [e]; clear e
    go_enter Tryd.func22, Tryd.ntmps22
    go_wp2_with (go_at_call 6; refine (of_any _ _).mono ?_; rintro e w1 ⟨rfl, hb1⟩; obtain ⟨hc1, hf1⟩ := bcell hb1; have hz1 := bsize hb1; try simp only [World.size_alloc, World.size_drew, World.cell?_drew, World.frozen?_drew] at hz1 hc1 hf1)
    exact end_V (by simp [results, Tryd.results22, go_sem, ofF, *]) rfl (by repeat (first | exact Below.refl _ _ | refine bel_alloc ?_ _ | refine bel_set ?_ (by first | exact Nat.le_refl _ | (simp; done) | (simp; omega)) _ | refine Below.drew ?_ | refine bel_trans ?_ (by assumption)))
  · have e : shiftF op a b = (ofF (a / 2 ^ b.toNat), true) := by simp [shiftF, h0, h1, h19]
    rw [e]; clear e
    go_enter Tryd.func22, Tryd.ntmps22
    go_wp2_with (go_at_call 6; refine (of_any _ _).mono ?_; rintro e w1 ⟨rfl, hb1⟩; obtain ⟨hc1, hf1⟩ := bcell hb1; have hz1 := bsize hb1; try simp only [World.size_alloc, World.size_drew, World.cell?_drew, World.frozen?_drew] at hz1 hc1 hf1)
    exact end_V (by simp [results, Tryd.results22, go_sem, ofF, *]) rfl (by repeat (first | exact Below.refl _ _ | refine bel_alloc ?_ _ | refine bel_set ?_ (by first | exact Nat.le_refl _ | (simp; done) | (simp; omega)) _ | refine Below.drew ?_ | refine bel_trans ?_ (by assumption)))

set_option maxHeartbeats 400000 in
theorem compare_any (op a b : Int) (w : World) : Calls Tryd.prog 23 #[.int .i64 op, .int .i64 a, .int .i64 b] w (retV (compareF op a b).1 (compareF op a b).2 w) := by
  by_cases h21 : op = 21
  · subst h21
    have e : compareF 21 a b = (bitF (a == b), true) := by simp [compareF]
    rw [e]; clear e
    go_enter Tryd.func23, Tryd.ntmps23
    go_wp2_with (go_at_call 24; refine (bit_any _ _).mono ?_; rintro e w1 ⟨rfl, hb1⟩; obtain ⟨hc1, hf1⟩ := bcell hb1; have hz1 := bsize hb1; try simp only [World.size_alloc, World.size_drew, World.cell?_drew, World.frozen?_drew] at hz1 hc1 hf1)
    exact end_V (by simp [results, Tryd.results23, go_sem, bitF, ofF, *]) rfl (by repeat (first | exact Below.refl _ _ | refine bel_alloc ?_ _ | refine bel_set ?_ (by first | exact Nat.le_refl _ | (simp; done) | (simp; omega)) _ | refine Below.drew ?_ | refine bel_trans ?_ (by assumption)))
  by_cases h22 : op = 22
  · subst h22
    have e : compareF 22 a b = (bitF (a != b), true) := by simp [compareF]
    rw [e]; clear e
    go_enter Tryd.func23, Tryd.ntmps23
    go_wp2_with (go_at_call 24; refine (bit_any _ _).mono ?_; rintro e w1 ⟨rfl, hb1⟩; obtain ⟨hc1, hf1⟩ := bcell hb1; have hz1 := bsize hb1; try simp only [World.size_alloc, World.size_drew, World.cell?_drew, World.frozen?_drew] at hz1 hc1 hf1)
    exact end_V (by simp [results, Tryd.results23, go_sem, bitF, ofF, *]) rfl (by repeat (first | exact Below.refl _ _ | refine bel_alloc ?_ _ | refine bel_set ?_ (by first | exact Nat.le_refl _ | (simp; done) | (simp; omega)) _ | refine Below.drew ?_ | refine bel_trans ?_ (by assumption)))
  by_cases h23 : op = 23
  · subst h23
    have e : compareF 23 a b = (bitF (decide (a < b)), true) := by simp [compareF]
    rw [e]; clear e
    go_enter Tryd.func23, Tryd.ntmps23
    go_wp2_with (go_at_call 24; refine (bit_any _ _).mono ?_; rintro e w1 ⟨rfl, hb1⟩; obtain ⟨hc1, hf1⟩ := bcell hb1; have hz1 := bsize hb1; try simp only [World.size_alloc, World.size_drew, World.cell?_drew, World.frozen?_drew] at hz1 hc1 hf1)
    exact end_V (by simp [results, Tryd.results23, go_sem, bitF, ofF, *]) rfl (by repeat (first | exact Below.refl _ _ | refine bel_alloc ?_ _ | refine bel_set ?_ (by first | exact Nat.le_refl _ | (simp; done) | (simp; omega)) _ | refine Below.drew ?_ | refine bel_trans ?_ (by assumption)))
  by_cases h24 : op = 24
  · subst h24
    have e : compareF 24 a b = (bitF (decide (a ≤ b)), true) := by simp [compareF]
    rw [e]; clear e
    go_enter Tryd.func23, Tryd.ntmps23
    go_wp2_with (go_at_call 24; refine (bit_any _ _).mono ?_; rintro e w1 ⟨rfl, hb1⟩; obtain ⟨hc1, hf1⟩ := bcell hb1; have hz1 := bsize hb1; try simp only [World.size_alloc, World.size_drew, World.cell?_drew, World.frozen?_drew] at hz1 hc1 hf1)
    exact end_V (by simp [results, Tryd.results23, go_sem, bitF, ofF, *]) rfl (by repeat (first | exact Below.refl _ _ | refine bel_alloc ?_ _ | refine bel_set ?_ (by first | exact Nat.le_refl _ | (simp; done) | (simp; omega)) _ | refine Below.drew ?_ | refine bel_trans ?_ (by assumption)))
  by_cases h25 : op = 25
  · subst h25
    have e : compareF 25 a b = (bitF (decide (b < a)), true) := by simp [compareF]
    rw [e]; clear e
    go_enter Tryd.func23, Tryd.ntmps23
    go_wp2_with (go_at_call 24; refine (bit_any _ _).mono ?_; rintro e w1 ⟨rfl, hb1⟩; obtain ⟨hc1, hf1⟩ := bcell hb1; have hz1 := bsize hb1; try simp only [World.size_alloc, World.size_drew, World.cell?_drew, World.frozen?_drew] at hz1 hc1 hf1)
    exact end_V (by simp [results, Tryd.results23, go_sem, bitF, ofF, *]) rfl (by repeat (first | exact Below.refl _ _ | refine bel_alloc ?_ _ | refine bel_set ?_ (by first | exact Nat.le_refl _ | (simp; done) | (simp; omega)) _ | refine Below.drew ?_ | refine bel_trans ?_ (by assumption)))
  by_cases h26 : op = 26
  · subst h26
    have e : compareF 26 a b = (bitF (decide (b ≤ a)), true) := by simp [compareF]
    rw [e]; clear e
    go_enter Tryd.func23, Tryd.ntmps23
    go_wp2_with (go_at_call 24; refine (bit_any _ _).mono ?_; rintro e w1 ⟨rfl, hb1⟩; obtain ⟨hc1, hf1⟩ := bcell hb1; have hz1 := bsize hb1; try simp only [World.size_alloc, World.size_drew, World.cell?_drew, World.frozen?_drew] at hz1 hc1 hf1)
    exact end_V (by simp [results, Tryd.results23, go_sem, bitF, ofF, *]) rfl (by repeat (first | exact Below.refl _ _ | refine bel_alloc ?_ _ | refine bel_set ?_ (by first | exact Nat.le_refl _ | (simp; done) | (simp; omega)) _ | refine Below.drew ?_ | refine bel_trans ?_ (by assumption)))
  have e : compareF op a b = (noV, false) := by simp [compareF, h21, h22, h23, h24, h25, h26]
  rw [e]; clear e
  go_enter Tryd.func23, Tryd.ntmps23
  go_wp2
  exact end_V (by simp [results, Tryd.results23, go_sem, noV, *]) rfl (by repeat (first | exact Below.refl _ _ | refine bel_alloc ?_ _ | refine bel_set ?_ (by first | exact Nat.le_refl _ | (simp; done) | (simp; omega)) _ | refine Below.drew ?_ | refine bel_trans ?_ (by assumption)))

set_option maxHeartbeats 400000 in
theorem ints_any (op a b : Int) (w : World) : Calls Tryd.prog 16 #[.int .i64 op, .int .i64 a, .int .i64 b] w (retV (intsF op a b).1 (intsF op a b).2 w) := by
  by_cases h11 : op = 11
  · subst h11
    have e : intsF 11 a b = (ofF (wrap64 (a + b)), true) := by simp [intsF]
    rw [e]; clear e
    go_enter Tryd.func16, Tryd.ntmps16
    go_wp2_with (go_at_call 6; refine (of_any _ _).mono ?_; rintro e w1 ⟨rfl, hb1⟩; obtain ⟨hc1, hf1⟩ := bcell hb1; have hz1 := bsize hb1; try simp only [World.size_alloc, World.size_drew, World.cell?_drew, World.frozen?_drew] at hz1 hc1 hf1)
    exact end_V (by simp [results, Tryd.results16, go_sem, ofF, *]) rfl (by repeat (first | exact Below.refl _ _ | refine bel_alloc ?_ _ | refine bel_set ?_ (by first | exact Nat.le_refl _ | (simp; done) | (simp; omega)) _ | refine Below.drew ?_ | refine bel_trans ?_ (by assumption)))
  by_cases h12 : op = 12
  · subst h12
    have e : intsF 12 a b = (ofF (wrap64 (a - b)), true) := by simp [intsF]
    rw [e]; clear e
    go_enter Tryd.func16, Tryd.ntmps16
    go_wp2_with (go_at_call 6; refine (of_any _ _).mono ?_; rintro e w1 ⟨rfl, hb1⟩; obtain ⟨hc1, hf1⟩ := bcell hb1; have hz1 := bsize hb1; try simp only [World.size_alloc, World.size_drew, World.cell?_drew, World.frozen?_drew] at hz1 hc1 hf1)
    exact end_V (by simp [results, Tryd.results16, go_sem, ofF, *]) rfl (by repeat (first | exact Below.refl _ _ | refine bel_alloc ?_ _ | refine bel_set ?_ (by first | exact Nat.le_refl _ | (simp; done) | (simp; omega)) _ | refine Below.drew ?_ | refine bel_trans ?_ (by assumption)))
  by_cases h13 : op = 13
  · subst h13
    have e : intsF 13 a b = (ofF (wrap64 (a * b)), true) := by simp [intsF]
    rw [e]; clear e
    go_enter Tryd.func16, Tryd.ntmps16
    go_wp2_with (go_at_call 6; refine (of_any _ _).mono ?_; rintro e w1 ⟨rfl, hb1⟩; obtain ⟨hc1, hf1⟩ := bcell hb1; have hz1 := bsize hb1; try simp only [World.size_alloc, World.size_drew, World.cell?_drew, World.frozen?_drew] at hz1 hc1 hf1)
    exact end_V (by simp [results, Tryd.results16, go_sem, ofF, *]) rfl (by repeat (first | exact Below.refl _ _ | refine bel_alloc ?_ _ | refine bel_set ?_ (by first | exact Nat.le_refl _ | (simp; done) | (simp; omega)) _ | refine Below.drew ?_ | refine bel_trans ?_ (by assumption)))
  by_cases h14 : op = 14
  · subst h14
    have e : intsF 14 a b = divideF 14 a b := by simp [intsF]
    rw [e]; clear e
    go_enter Tryd.func16, Tryd.ntmps16
    go_wp2_with (go_at_call 21; refine (divide_any _ _ _ _).mono ?_; rintro e w1 ⟨rfl, hb1⟩; obtain ⟨hc1, hf1⟩ := bcell hb1; have hz1 := bsize hb1; try simp only [World.size_alloc, World.size_drew, World.cell?_drew, World.frozen?_drew] at hz1 hc1 hf1)
    exact end_V (by simp [results, Tryd.results16, go_sem, *]) rfl (by repeat (first | exact Below.refl _ _ | refine bel_alloc ?_ _ | refine bel_set ?_ (by first | exact Nat.le_refl _ | (simp; done) | (simp; omega)) _ | refine Below.drew ?_ | refine bel_trans ?_ (by assumption)))
  by_cases h15 : op = 15
  · subst h15
    have e : intsF 15 a b = divideF 15 a b := by simp [intsF]
    rw [e]; clear e
    go_enter Tryd.func16, Tryd.ntmps16
    go_wp2_with (go_at_call 21; refine (divide_any _ _ _ _).mono ?_; rintro e w1 ⟨rfl, hb1⟩; obtain ⟨hc1, hf1⟩ := bcell hb1; have hz1 := bsize hb1; try simp only [World.size_alloc, World.size_drew, World.cell?_drew, World.frozen?_drew] at hz1 hc1 hf1)
    exact end_V (by simp [results, Tryd.results16, go_sem, *]) rfl (by repeat (first | exact Below.refl _ _ | refine bel_alloc ?_ _ | refine bel_set ?_ (by first | exact Nat.le_refl _ | (simp; done) | (simp; omega)) _ | refine Below.drew ?_ | refine bel_trans ?_ (by assumption)))
  by_cases h16 : op = 16
  · subst h16
    have e : intsF 16 a b = (ofF (bits .and .i64 a b), true) := by simp [intsF]
    rw [e]; clear e
    go_enter Tryd.func16, Tryd.ntmps16
    go_wp2_with (go_at_call 6; refine (of_any _ _).mono ?_; rintro e w1 ⟨rfl, hb1⟩; obtain ⟨hc1, hf1⟩ := bcell hb1; have hz1 := bsize hb1; try simp only [World.size_alloc, World.size_drew, World.cell?_drew, World.frozen?_drew] at hz1 hc1 hf1)
    exact end_V (by simp [results, Tryd.results16, go_sem, ofF, *]) rfl (by repeat (first | exact Below.refl _ _ | refine bel_alloc ?_ _ | refine bel_set ?_ (by first | exact Nat.le_refl _ | (simp; done) | (simp; omega)) _ | refine Below.drew ?_ | refine bel_trans ?_ (by assumption)))
  by_cases h17 : op = 17
  · subst h17
    have e : intsF 17 a b = (ofF (bits .or .i64 a b), true) := by simp [intsF]
    rw [e]; clear e
    go_enter Tryd.func16, Tryd.ntmps16
    go_wp2_with (go_at_call 6; refine (of_any _ _).mono ?_; rintro e w1 ⟨rfl, hb1⟩; obtain ⟨hc1, hf1⟩ := bcell hb1; have hz1 := bsize hb1; try simp only [World.size_alloc, World.size_drew, World.cell?_drew, World.frozen?_drew] at hz1 hc1 hf1)
    exact end_V (by simp [results, Tryd.results16, go_sem, ofF, *]) rfl (by repeat (first | exact Below.refl _ _ | refine bel_alloc ?_ _ | refine bel_set ?_ (by first | exact Nat.le_refl _ | (simp; done) | (simp; omega)) _ | refine Below.drew ?_ | refine bel_trans ?_ (by assumption)))
  by_cases h18 : op = 18
  · subst h18
    have e : intsF 18 a b = (ofF (bits .xor .i64 a b), true) := by simp [intsF]
    rw [e]; clear e
    go_enter Tryd.func16, Tryd.ntmps16
    go_wp2_with (go_at_call 6; refine (of_any _ _).mono ?_; rintro e w1 ⟨rfl, hb1⟩; obtain ⟨hc1, hf1⟩ := bcell hb1; have hz1 := bsize hb1; try simp only [World.size_alloc, World.size_drew, World.cell?_drew, World.frozen?_drew] at hz1 hc1 hf1)
    exact end_V (by simp [results, Tryd.results16, go_sem, ofF, *]) rfl (by repeat (first | exact Below.refl _ _ | refine bel_alloc ?_ _ | refine bel_set ?_ (by first | exact Nat.le_refl _ | (simp; done) | (simp; omega)) _ | refine Below.drew ?_ | refine bel_trans ?_ (by assumption)))
  by_cases h19 : op = 19
  · subst h19
    have e : intsF 19 a b = shiftF 19 a b := by simp [intsF]
    rw [e]; clear e
    go_enter Tryd.func16, Tryd.ntmps16
    go_wp2_with (go_at_call 22; refine (shift_any _ _ _ _).mono ?_; rintro e w1 ⟨rfl, hb1⟩; obtain ⟨hc1, hf1⟩ := bcell hb1; have hz1 := bsize hb1; try simp only [World.size_alloc, World.size_drew, World.cell?_drew, World.frozen?_drew] at hz1 hc1 hf1)
    exact end_V (by simp [results, Tryd.results16, go_sem, *]) rfl (by repeat (first | exact Below.refl _ _ | refine bel_alloc ?_ _ | refine bel_set ?_ (by first | exact Nat.le_refl _ | (simp; done) | (simp; omega)) _ | refine Below.drew ?_ | refine bel_trans ?_ (by assumption)))
  by_cases h20 : op = 20
  · subst h20
    have e : intsF 20 a b = shiftF 20 a b := by simp [intsF]
    rw [e]; clear e
    go_enter Tryd.func16, Tryd.ntmps16
    go_wp2_with (go_at_call 22; refine (shift_any _ _ _ _).mono ?_; rintro e w1 ⟨rfl, hb1⟩; obtain ⟨hc1, hf1⟩ := bcell hb1; have hz1 := bsize hb1; try simp only [World.size_alloc, World.size_drew, World.cell?_drew, World.frozen?_drew] at hz1 hc1 hf1)
    exact end_V (by simp [results, Tryd.results16, go_sem, *]) rfl (by repeat (first | exact Below.refl _ _ | refine bel_alloc ?_ _ | refine bel_set ?_ (by first | exact Nat.le_refl _ | (simp; done) | (simp; omega)) _ | refine Below.drew ?_ | refine bel_trans ?_ (by assumption)))
  have e : intsF op a b = compareF op a b := by simp [intsF, h11, h12, h13, h14, h15, h16, h17, h18, h19, h20]
  rw [e]; clear e
  go_enter Tryd.func16, Tryd.ntmps16
  go_wp2_with (go_at_call 23; refine (compare_any _ _ _ _).mono ?_; rintro e w1 ⟨rfl, hb1⟩; obtain ⟨hc1, hf1⟩ := bcell hb1; have hz1 := bsize hb1; try simp only [World.size_alloc, World.size_drew, World.cell?_drew, World.frozen?_drew] at hz1 hc1 hf1)
  exact end_V (by simp [results, Tryd.results16, go_sem, *]) rfl (by repeat (first | exact Below.refl _ _ | refine bel_alloc ?_ _ | refine bel_set ?_ (by first | exact Nat.le_refl _ | (simp; done) | (simp; omega)) _ | refine Below.drew ?_ | refine bel_trans ?_ (by assumption)))

end Go.Proofs.YtfkalcfkbaimgabDoor
