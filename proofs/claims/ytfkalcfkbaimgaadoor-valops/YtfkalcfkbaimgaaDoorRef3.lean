/- The contract of the document's own ints: an operation of two Ints, shifts by loops. -/
import Derived.Test.YtfkalcfkbaimgaaDoorRef2
namespace Go.Proofs.YtfkalcfkbaimgaaDoor
open Go.ChangeShapes Go.WideShapes Go.ChangeAt Go.RowKit Pl
set_option linter.unusedSimpArgs false
set_option linter.unusedVariables false

set_option maxHeartbeats 1000000 in
theorem rints11 (a b q r : Int) (ok : Bool) (w : World) (HD : Hid (dvF a b = (q, r, ok))) (a0 : -9223372036854775808 ≤ a) (a1 : a ≤ 9223372036854775807) (b0 : -9223372036854775808 ≤ b) (b1 : b ≤ 9223372036854775807) : Calls Tryd.prog 35 #[.int .i64 11, .int .i64 a, .int .i64 b] w (retV (intsF 11 a b).1 (intsF 11 a b).2 w) := by
  have e : intsF 11 a b = (ofF (wrap64 (a + b)), true) := by simp [intsF]
  rw [e]; clear e
  go_enter Tryd.func35, Tryd.ntmps35
  go_wp2_with (first | (go_at_call 44; refine (divides_to _ _ q r _ _ HD a0 a1 b0 b1).mono ?_; rintro e w' ⟨rfl, hw'⟩; replace hw' := hw'.symm; subst hw') | (go_at_call 26; refine (rof_any _ _).mono ?_; rintro e w1 ⟨rfl, hb1⟩; obtain ⟨hc1, hf1⟩ := bcell hb1; have hz1 := bsize hb1; try simp only [World.size_alloc, World.size_drew, World.cell?_drew, World.frozen?_drew] at hz1 hc1 hf1))
  exact end_V (by simp [results, Tryd.results35, go_sem, ofF, *]) rfl (by repeat (first | exact Below.refl _ _ | refine bel_alloc ?_ _ | refine bel_set ?_ (by first | exact Nat.le_refl _ | (simp; done) | (simp; omega)) _ | refine Below.drew ?_ | refine bel_trans ?_ (by assumption)))

set_option maxHeartbeats 1000000 in
theorem rints12 (a b q r : Int) (ok : Bool) (w : World) (HD : Hid (dvF a b = (q, r, ok))) (a0 : -9223372036854775808 ≤ a) (a1 : a ≤ 9223372036854775807) (b0 : -9223372036854775808 ≤ b) (b1 : b ≤ 9223372036854775807) : Calls Tryd.prog 35 #[.int .i64 12, .int .i64 a, .int .i64 b] w (retV (intsF 12 a b).1 (intsF 12 a b).2 w) := by
  have e : intsF 12 a b = (ofF (wrap64 (a - b)), true) := by simp [intsF]
  rw [e]; clear e
  go_enter Tryd.func35, Tryd.ntmps35
  go_wp2_with (first | (go_at_call 44; refine (divides_to _ _ q r _ _ HD a0 a1 b0 b1).mono ?_; rintro e w' ⟨rfl, hw'⟩; replace hw' := hw'.symm; subst hw') | (go_at_call 26; refine (rof_any _ _).mono ?_; rintro e w1 ⟨rfl, hb1⟩; obtain ⟨hc1, hf1⟩ := bcell hb1; have hz1 := bsize hb1; try simp only [World.size_alloc, World.size_drew, World.cell?_drew, World.frozen?_drew] at hz1 hc1 hf1))
  exact end_V (by simp [results, Tryd.results35, go_sem, ofF, *]) rfl (by repeat (first | exact Below.refl _ _ | refine bel_alloc ?_ _ | refine bel_set ?_ (by first | exact Nat.le_refl _ | (simp; done) | (simp; omega)) _ | refine Below.drew ?_ | refine bel_trans ?_ (by assumption)))

set_option maxHeartbeats 1000000 in
theorem rints13 (a b q r : Int) (ok : Bool) (w : World) (HD : Hid (dvF a b = (q, r, ok))) (a0 : -9223372036854775808 ≤ a) (a1 : a ≤ 9223372036854775807) (b0 : -9223372036854775808 ≤ b) (b1 : b ≤ 9223372036854775807) : Calls Tryd.prog 35 #[.int .i64 13, .int .i64 a, .int .i64 b] w (retV (intsF 13 a b).1 (intsF 13 a b).2 w) := by
  have e : intsF 13 a b = (ofF (wrap64 (a * b)), true) := by simp [intsF]
  rw [e]; clear e
  go_enter Tryd.func35, Tryd.ntmps35
  go_wp2_with (first | (go_at_call 44; refine (divides_to _ _ q r _ _ HD a0 a1 b0 b1).mono ?_; rintro e w' ⟨rfl, hw'⟩; replace hw' := hw'.symm; subst hw') | (go_at_call 26; refine (rof_any _ _).mono ?_; rintro e w1 ⟨rfl, hb1⟩; obtain ⟨hc1, hf1⟩ := bcell hb1; have hz1 := bsize hb1; try simp only [World.size_alloc, World.size_drew, World.cell?_drew, World.frozen?_drew] at hz1 hc1 hf1))
  exact end_V (by simp [results, Tryd.results35, go_sem, ofF, *]) rfl (by repeat (first | exact Below.refl _ _ | refine bel_alloc ?_ _ | refine bel_set ?_ (by first | exact Nat.le_refl _ | (simp; done) | (simp; omega)) _ | refine Below.drew ?_ | refine bel_trans ?_ (by assumption)))

set_option maxHeartbeats 1000000 in
theorem rints16 (a b q r : Int) (ok : Bool) (w : World) (HD : Hid (dvF a b = (q, r, ok))) (a0 : -9223372036854775808 ≤ a) (a1 : a ≤ 9223372036854775807) (b0 : -9223372036854775808 ≤ b) (b1 : b ≤ 9223372036854775807) : Calls Tryd.prog 35 #[.int .i64 16, .int .i64 a, .int .i64 b] w (retV (intsF 16 a b).1 (intsF 16 a b).2 w) := by
  have e : intsF 16 a b = (ofF (bits .and .i64 a b), true) := by simp [intsF]
  rw [e]; clear e
  go_enter Tryd.func35, Tryd.ntmps35
  go_wp2_with (first | (go_at_call 44; refine (divides_to _ _ q r _ _ HD a0 a1 b0 b1).mono ?_; rintro e w' ⟨rfl, hw'⟩; replace hw' := hw'.symm; subst hw') | (go_at_call 26; refine (rof_any _ _).mono ?_; rintro e w1 ⟨rfl, hb1⟩; obtain ⟨hc1, hf1⟩ := bcell hb1; have hz1 := bsize hb1; try simp only [World.size_alloc, World.size_drew, World.cell?_drew, World.frozen?_drew] at hz1 hc1 hf1))
  exact end_V (by simp [results, Tryd.results35, go_sem, ofF, *]) rfl (by repeat (first | exact Below.refl _ _ | refine bel_alloc ?_ _ | refine bel_set ?_ (by first | exact Nat.le_refl _ | (simp; done) | (simp; omega)) _ | refine Below.drew ?_ | refine bel_trans ?_ (by assumption)))

set_option maxHeartbeats 1000000 in
theorem rints17 (a b q r : Int) (ok : Bool) (w : World) (HD : Hid (dvF a b = (q, r, ok))) (a0 : -9223372036854775808 ≤ a) (a1 : a ≤ 9223372036854775807) (b0 : -9223372036854775808 ≤ b) (b1 : b ≤ 9223372036854775807) : Calls Tryd.prog 35 #[.int .i64 17, .int .i64 a, .int .i64 b] w (retV (intsF 17 a b).1 (intsF 17 a b).2 w) := by
  have e : intsF 17 a b = (ofF (bits .or .i64 a b), true) := by simp [intsF]
  rw [e]; clear e
  go_enter Tryd.func35, Tryd.ntmps35
  go_wp2_with (first | (go_at_call 44; refine (divides_to _ _ q r _ _ HD a0 a1 b0 b1).mono ?_; rintro e w' ⟨rfl, hw'⟩; replace hw' := hw'.symm; subst hw') | (go_at_call 26; refine (rof_any _ _).mono ?_; rintro e w1 ⟨rfl, hb1⟩; obtain ⟨hc1, hf1⟩ := bcell hb1; have hz1 := bsize hb1; try simp only [World.size_alloc, World.size_drew, World.cell?_drew, World.frozen?_drew] at hz1 hc1 hf1))
  exact end_V (by simp [results, Tryd.results35, go_sem, ofF, *]) rfl (by repeat (first | exact Below.refl _ _ | refine bel_alloc ?_ _ | refine bel_set ?_ (by first | exact Nat.le_refl _ | (simp; done) | (simp; omega)) _ | refine Below.drew ?_ | refine bel_trans ?_ (by assumption)))

set_option maxHeartbeats 1000000 in
theorem rints18 (a b q r : Int) (ok : Bool) (w : World) (HD : Hid (dvF a b = (q, r, ok))) (a0 : -9223372036854775808 ≤ a) (a1 : a ≤ 9223372036854775807) (b0 : -9223372036854775808 ≤ b) (b1 : b ≤ 9223372036854775807) : Calls Tryd.prog 35 #[.int .i64 18, .int .i64 a, .int .i64 b] w (retV (intsF 18 a b).1 (intsF 18 a b).2 w) := by
  have e : intsF 18 a b = (ofF (bits .xor .i64 a b), true) := by simp [intsF]
  rw [e]; clear e
  have ex := or_sub_and a b
  go_enter Tryd.func35, Tryd.ntmps35
  go_wp2_with (first | (go_at_call 44; refine (divides_to _ _ q r _ _ HD a0 a1 b0 b1).mono ?_; rintro e w' ⟨rfl, hw'⟩; replace hw' := hw'.symm; subst hw') | (go_at_call 26; refine (rof_any _ _).mono ?_; rintro e w1 ⟨rfl, hb1⟩; obtain ⟨hc1, hf1⟩ := bcell hb1; have hz1 := bsize hb1; try simp only [World.size_alloc, World.size_drew, World.cell?_drew, World.frozen?_drew] at hz1 hc1 hf1))
  exact end_V (by simp [results, Tryd.results35, go_sem, ofF, *]) rfl (by repeat (first | exact Below.refl _ _ | refine bel_alloc ?_ _ | refine bel_set ?_ (by first | exact Nat.le_refl _ | (simp; done) | (simp; omega)) _ | refine Below.drew ?_ | refine bel_trans ?_ (by assumption)))

set_option maxHeartbeats 1000000 in
theorem rints21 (a b q r : Int) (ok : Bool) (w : World) (HD : Hid (dvF a b = (q, r, ok))) (a0 : -9223372036854775808 ≤ a) (a1 : a ≤ 9223372036854775807) (b0 : -9223372036854775808 ≤ b) (b1 : b ≤ 9223372036854775807) : Calls Tryd.prog 35 #[.int .i64 21, .int .i64 a, .int .i64 b] w (retV (intsF 21 a b).1 (intsF 21 a b).2 w) := by
  have e : intsF 21 a b = (bitF (a == b), true) := by simp [intsF, compareF]
  rw [e]; clear e
  go_enter Tryd.func35, Tryd.ntmps35
  go_wp2_with (first | (go_at_call 44; refine (divides_to _ _ q r _ _ HD a0 a1 b0 b1).mono ?_; rintro e w' ⟨rfl, hw'⟩; replace hw' := hw'.symm; subst hw') | (go_at_call 36; refine (rbit_any _ _).mono ?_; rintro e w1 ⟨rfl, hb1⟩; obtain ⟨hc1, hf1⟩ := bcell hb1; have hz1 := bsize hb1; try simp only [World.size_alloc, World.size_drew, World.cell?_drew, World.frozen?_drew] at hz1 hc1 hf1))
  exact end_V (by simp [results, Tryd.results35, go_sem, bitF, ofF, *]) rfl (by repeat (first | exact Below.refl _ _ | refine bel_alloc ?_ _ | refine bel_set ?_ (by first | exact Nat.le_refl _ | (simp; done) | (simp; omega)) _ | refine Below.drew ?_ | refine bel_trans ?_ (by assumption)))

set_option maxHeartbeats 1000000 in
theorem rints22 (a b q r : Int) (ok : Bool) (w : World) (HD : Hid (dvF a b = (q, r, ok))) (a0 : -9223372036854775808 ≤ a) (a1 : a ≤ 9223372036854775807) (b0 : -9223372036854775808 ≤ b) (b1 : b ≤ 9223372036854775807) : Calls Tryd.prog 35 #[.int .i64 22, .int .i64 a, .int .i64 b] w (retV (intsF 22 a b).1 (intsF 22 a b).2 w) := by
  have e : intsF 22 a b = (bitF (a != b), true) := by simp [intsF, compareF]
  rw [e]; clear e
  go_enter Tryd.func35, Tryd.ntmps35
  go_wp2_with (first | (go_at_call 44; refine (divides_to _ _ q r _ _ HD a0 a1 b0 b1).mono ?_; rintro e w' ⟨rfl, hw'⟩; replace hw' := hw'.symm; subst hw') | (go_at_call 36; refine (rbit_any _ _).mono ?_; rintro e w1 ⟨rfl, hb1⟩; obtain ⟨hc1, hf1⟩ := bcell hb1; have hz1 := bsize hb1; try simp only [World.size_alloc, World.size_drew, World.cell?_drew, World.frozen?_drew] at hz1 hc1 hf1))
  exact end_V (by simp [results, Tryd.results35, go_sem, bitF, ofF, *]) rfl (by repeat (first | exact Below.refl _ _ | refine bel_alloc ?_ _ | refine bel_set ?_ (by first | exact Nat.le_refl _ | (simp; done) | (simp; omega)) _ | refine Below.drew ?_ | refine bel_trans ?_ (by assumption)))

set_option maxHeartbeats 1000000 in
theorem rints23 (a b q r : Int) (ok : Bool) (w : World) (HD : Hid (dvF a b = (q, r, ok))) (a0 : -9223372036854775808 ≤ a) (a1 : a ≤ 9223372036854775807) (b0 : -9223372036854775808 ≤ b) (b1 : b ≤ 9223372036854775807) : Calls Tryd.prog 35 #[.int .i64 23, .int .i64 a, .int .i64 b] w (retV (intsF 23 a b).1 (intsF 23 a b).2 w) := by
  have e : intsF 23 a b = (bitF (decide (a < b)), true) := by simp [intsF, compareF]
  rw [e]; clear e
  go_enter Tryd.func35, Tryd.ntmps35
  go_wp2_with (first | (go_at_call 44; refine (divides_to _ _ q r _ _ HD a0 a1 b0 b1).mono ?_; rintro e w' ⟨rfl, hw'⟩; replace hw' := hw'.symm; subst hw') | (go_at_call 36; refine (rbit_any _ _).mono ?_; rintro e w1 ⟨rfl, hb1⟩; obtain ⟨hc1, hf1⟩ := bcell hb1; have hz1 := bsize hb1; try simp only [World.size_alloc, World.size_drew, World.cell?_drew, World.frozen?_drew] at hz1 hc1 hf1))
  exact end_V (by simp [results, Tryd.results35, go_sem, bitF, ofF, *]) rfl (by repeat (first | exact Below.refl _ _ | refine bel_alloc ?_ _ | refine bel_set ?_ (by first | exact Nat.le_refl _ | (simp; done) | (simp; omega)) _ | refine Below.drew ?_ | refine bel_trans ?_ (by assumption)))

set_option maxHeartbeats 1000000 in
theorem rints24 (a b q r : Int) (ok : Bool) (w : World) (HD : Hid (dvF a b = (q, r, ok))) (a0 : -9223372036854775808 ≤ a) (a1 : a ≤ 9223372036854775807) (b0 : -9223372036854775808 ≤ b) (b1 : b ≤ 9223372036854775807) : Calls Tryd.prog 35 #[.int .i64 24, .int .i64 a, .int .i64 b] w (retV (intsF 24 a b).1 (intsF 24 a b).2 w) := by
  have e : intsF 24 a b = (bitF (decide (a ≤ b)), true) := by simp [intsF, compareF]
  rw [e]; clear e
  go_enter Tryd.func35, Tryd.ntmps35
  go_wp2_with (first | (go_at_call 44; refine (divides_to _ _ q r _ _ HD a0 a1 b0 b1).mono ?_; rintro e w' ⟨rfl, hw'⟩; replace hw' := hw'.symm; subst hw') | (go_at_call 36; refine (rbit_any _ _).mono ?_; rintro e w1 ⟨rfl, hb1⟩; obtain ⟨hc1, hf1⟩ := bcell hb1; have hz1 := bsize hb1; try simp only [World.size_alloc, World.size_drew, World.cell?_drew, World.frozen?_drew] at hz1 hc1 hf1))
  exact end_V (by simp [results, Tryd.results35, go_sem, bitF, ofF, *]) rfl (by repeat (first | exact Below.refl _ _ | refine bel_alloc ?_ _ | refine bel_set ?_ (by first | exact Nat.le_refl _ | (simp; done) | (simp; omega)) _ | refine Below.drew ?_ | refine bel_trans ?_ (by assumption)))

set_option maxHeartbeats 1000000 in
theorem rints25 (a b q r : Int) (ok : Bool) (w : World) (HD : Hid (dvF a b = (q, r, ok))) (a0 : -9223372036854775808 ≤ a) (a1 : a ≤ 9223372036854775807) (b0 : -9223372036854775808 ≤ b) (b1 : b ≤ 9223372036854775807) : Calls Tryd.prog 35 #[.int .i64 25, .int .i64 a, .int .i64 b] w (retV (intsF 25 a b).1 (intsF 25 a b).2 w) := by
  have e : intsF 25 a b = (bitF (decide (b < a)), true) := by simp [intsF, compareF]
  rw [e]; clear e
  go_enter Tryd.func35, Tryd.ntmps35
  go_wp2_with (first | (go_at_call 44; refine (divides_to _ _ q r _ _ HD a0 a1 b0 b1).mono ?_; rintro e w' ⟨rfl, hw'⟩; replace hw' := hw'.symm; subst hw') | (go_at_call 36; refine (rbit_any _ _).mono ?_; rintro e w1 ⟨rfl, hb1⟩; obtain ⟨hc1, hf1⟩ := bcell hb1; have hz1 := bsize hb1; try simp only [World.size_alloc, World.size_drew, World.cell?_drew, World.frozen?_drew] at hz1 hc1 hf1))
  exact end_V (by simp [results, Tryd.results35, go_sem, bitF, ofF, *]) rfl (by repeat (first | exact Below.refl _ _ | refine bel_alloc ?_ _ | refine bel_set ?_ (by first | exact Nat.le_refl _ | (simp; done) | (simp; omega)) _ | refine Below.drew ?_ | refine bel_trans ?_ (by assumption)))

set_option maxHeartbeats 1000000 in
theorem rints26 (a b q r : Int) (ok : Bool) (w : World) (HD : Hid (dvF a b = (q, r, ok))) (a0 : -9223372036854775808 ≤ a) (a1 : a ≤ 9223372036854775807) (b0 : -9223372036854775808 ≤ b) (b1 : b ≤ 9223372036854775807) : Calls Tryd.prog 35 #[.int .i64 26, .int .i64 a, .int .i64 b] w (retV (intsF 26 a b).1 (intsF 26 a b).2 w) := by
  have e : intsF 26 a b = (bitF (decide (b ≤ a)), true) := by simp [intsF, compareF]
  rw [e]; clear e
  go_enter Tryd.func35, Tryd.ntmps35
  go_wp2_with (first | (go_at_call 44; refine (divides_to _ _ q r _ _ HD a0 a1 b0 b1).mono ?_; rintro e w' ⟨rfl, hw'⟩; replace hw' := hw'.symm; subst hw') | (go_at_call 36; refine (rbit_any _ _).mono ?_; rintro e w1 ⟨rfl, hb1⟩; obtain ⟨hc1, hf1⟩ := bcell hb1; have hz1 := bsize hb1; try simp only [World.size_alloc, World.size_drew, World.cell?_drew, World.frozen?_drew] at hz1 hc1 hf1))
  exact end_V (by simp [results, Tryd.results35, go_sem, bitF, ofF, *]) rfl (by repeat (first | exact Below.refl _ _ | refine bel_alloc ?_ _ | refine bel_set ?_ (by first | exact Nat.le_refl _ | (simp; done) | (simp; omega)) _ | refine Below.drew ?_ | refine bel_trans ?_ (by assumption)))

set_option maxHeartbeats 1000000 in
theorem rints14 (a b q r : Int) (ok : Bool) (w : World) (HD : Hid (dvF a b = (q, r, ok))) (a0 : -9223372036854775808 ≤ a) (a1 : a ≤ 9223372036854775807) (b0 : -9223372036854775808 ≤ b) (b1 : b ≤ 9223372036854775807) : Calls Tryd.prog 35 #[.int .i64 14, .int .i64 a, .int .i64 b] w (retV (intsF 14 a b).1 (intsF 14 a b).2 w) := by
  have e : intsF 14 a b = if ok = true then (ofF q, true) else (noV, false) := by
    have h := HD.out
    unfold dvF at h
    by_cases hc : b = 0 ∨ (a = -9223372036854775808 ∧ b = -1)
    · rw [if_pos hc] at h
      simp only [Prod.mk.injEq] at h
      obtain ⟨-, -, rfl⟩ := h
      simp [intsF, divideF, hc]
    · rw [if_neg hc] at h
      simp only [Prod.mk.injEq] at h
      obtain ⟨rfl, rfl, rfl⟩ := h
      simp [intsF, divideF, hc]
  rw [e]; clear e
  cases ok
  · simp only [Bool.false_eq_true, if_false]
    go_enter Tryd.func35, Tryd.ntmps35
    go_wp2_with (first | (go_at_call 44; refine (divides_to _ _ q r _ _ HD a0 a1 b0 b1).mono ?_; rintro e w' ⟨rfl, hw'⟩; replace hw' := hw'.symm; subst hw') | (go_at_call 26; refine (rof_any _ _).mono ?_; rintro e w1 ⟨rfl, hb1⟩; obtain ⟨hc1, hf1⟩ := bcell hb1; have hz1 := bsize hb1; try simp only [World.size_alloc, World.size_drew, World.cell?_drew, World.frozen?_drew] at hz1 hc1 hf1))
    exact end_V (by simp [results, Tryd.results35, go_sem, noV, *]) rfl (by repeat (first | exact Below.refl _ _ | refine bel_alloc ?_ _ | refine bel_set ?_ (by first | exact Nat.le_refl _ | (simp; done) | (simp; omega)) _ | refine Below.drew ?_ | refine bel_trans ?_ (by assumption)))
  · simp only [if_true]
    go_enter Tryd.func35, Tryd.ntmps35
    go_wp2_with (first | (go_at_call 44; refine (divides_to _ _ q r _ _ HD a0 a1 b0 b1).mono ?_; rintro e w' ⟨rfl, hw'⟩; replace hw' := hw'.symm; subst hw') | (go_at_call 26; refine (rof_any _ _).mono ?_; rintro e w1 ⟨rfl, hb1⟩; obtain ⟨hc1, hf1⟩ := bcell hb1; have hz1 := bsize hb1; try simp only [World.size_alloc, World.size_drew, World.cell?_drew, World.frozen?_drew] at hz1 hc1 hf1))
    exact end_V (by simp [results, Tryd.results35, go_sem, ofF, *]) rfl (by repeat (first | exact Below.refl _ _ | refine bel_alloc ?_ _ | refine bel_set ?_ (by first | exact Nat.le_refl _ | (simp; done) | (simp; omega)) _ | refine Below.drew ?_ | refine bel_trans ?_ (by assumption)))

set_option maxHeartbeats 1000000 in
theorem rints15 (a b q r : Int) (ok : Bool) (w : World) (HD : Hid (dvF a b = (q, r, ok))) (a0 : -9223372036854775808 ≤ a) (a1 : a ≤ 9223372036854775807) (b0 : -9223372036854775808 ≤ b) (b1 : b ≤ 9223372036854775807) : Calls Tryd.prog 35 #[.int .i64 15, .int .i64 a, .int .i64 b] w (retV (intsF 15 a b).1 (intsF 15 a b).2 w) := by
  have e : intsF 15 a b = if ok = true then (ofF r, true) else (noV, false) := by
    have h := HD.out
    unfold dvF at h
    by_cases hc : b = 0 ∨ (a = -9223372036854775808 ∧ b = -1)
    · rw [if_pos hc] at h
      simp only [Prod.mk.injEq] at h
      obtain ⟨-, -, rfl⟩ := h
      simp [intsF, divideF, hc]
    · rw [if_neg hc] at h
      simp only [Prod.mk.injEq] at h
      obtain ⟨rfl, rfl, rfl⟩ := h
      simp [intsF, divideF, hc]
  rw [e]; clear e
  cases ok
  · simp only [Bool.false_eq_true, if_false]
    go_enter Tryd.func35, Tryd.ntmps35
    go_wp2_with (first | (go_at_call 44; refine (divides_to _ _ q r _ _ HD a0 a1 b0 b1).mono ?_; rintro e w' ⟨rfl, hw'⟩; replace hw' := hw'.symm; subst hw') | (go_at_call 26; refine (rof_any _ _).mono ?_; rintro e w1 ⟨rfl, hb1⟩; obtain ⟨hc1, hf1⟩ := bcell hb1; have hz1 := bsize hb1; try simp only [World.size_alloc, World.size_drew, World.cell?_drew, World.frozen?_drew] at hz1 hc1 hf1))
    exact end_V (by simp [results, Tryd.results35, go_sem, noV, *]) rfl (by repeat (first | exact Below.refl _ _ | refine bel_alloc ?_ _ | refine bel_set ?_ (by first | exact Nat.le_refl _ | (simp; done) | (simp; omega)) _ | refine Below.drew ?_ | refine bel_trans ?_ (by assumption)))
  · simp only [if_true]
    go_enter Tryd.func35, Tryd.ntmps35
    go_wp2_with (first | (go_at_call 44; refine (divides_to _ _ q r _ _ HD a0 a1 b0 b1).mono ?_; rintro e w' ⟨rfl, hw'⟩; replace hw' := hw'.symm; subst hw') | (go_at_call 26; refine (rof_any _ _).mono ?_; rintro e w1 ⟨rfl, hb1⟩; obtain ⟨hc1, hf1⟩ := bcell hb1; have hz1 := bsize hb1; try simp only [World.size_alloc, World.size_drew, World.cell?_drew, World.frozen?_drew] at hz1 hc1 hf1))
    exact end_V (by simp [results, Tryd.results35, go_sem, ofF, *]) rfl (by repeat (first | exact Below.refl _ _ | refine bel_alloc ?_ _ | refine bel_set ?_ (by first | exact Nat.le_refl _ | (simp; done) | (simp; omega)) _ | refine Below.drew ?_ | refine bel_trans ?_ (by assumption)))


def shlA (a : Int) (k : Nat) : Int := wrap64 (a * 2 ^ k)
def shrA (a : Int) (k : Nat) : Int := a / 2 ^ k
theorem shlA_succ (a : Int) (k : Nat) : wrap64 (shlA a k + shlA a k) = shlA a (k + 1) := by
  unfold shlA
  have e : a * 2 ^ (k + 1) = a * 2 ^ k + a * 2 ^ k := by rw [Int.pow_succ, ← Int.mul_assoc]; omega
  rw [e]
  generalize a * 2 ^ k = x
  unfold wrap64; omega
theorem shrA_succ (a : Int) (k : Nat) : shrA a k / 2 = shrA a (k + 1) := by
  unfold shrA
  rw [Int.pow_succ, Int.ediv_ediv_of_nonneg (Int.pow_nonneg (by decide))]
theorem shrA_bd (a : Int) (k : Nat) (a0 : -9223372036854775808 ≤ a) (a1 : a ≤ 9223372036854775807) : -9223372036854775808 ≤ shrA a k ∧ shrA a k ≤ 9223372036854775807 := by
  induction k with
  | zero => unfold shrA; simp; omega
  | succ k ih => rw [← shrA_succ]; omega
theorem even_half (x : Int) : (x - x % 2).tdiv 2 = x / 2 := by
  have h : x - x % 2 = 2 * (x / 2) := by omega
  rw [h, Int.mul_tdiv_cancel_left _ (by decide)]
theorem shlA_zero (a : Int) (a0 : -9223372036854775808 ≤ a) (a1 : a ≤ 9223372036854775807) : shlA a 0 = a := by unfold shlA wrap64; simp; omega
theorem shrA_zero (a : Int) : shrA a 0 = a := by unfold shrA; simp

set_option maxHeartbeats 1000000 in
theorem rints19 (a b q r : Int) (ok : Bool) (w : World) (HD : Hid (dvF a b = (q, r, ok))) (a0 : -9223372036854775808 ≤ a) (a1 : a ≤ 9223372036854775807) (b0 : -9223372036854775808 ≤ b) (b1 : b ≤ 9223372036854775807) : Calls Tryd.prog 35 #[.int .i64 19, .int .i64 a, .int .i64 b] w (retV (intsF 19 a b).1 (intsF 19 a b).2 w) := by
  by_cases h0 : b < 0
  · have e : intsF 19 a b = (noV, false) := by simp [intsF, shiftF, h0]
    rw [e]; clear e
    go_enter Tryd.func35, Tryd.ntmps35
    go_wp2_with (first | (go_at_call 44; refine (divides_to _ _ q r _ _ HD a0 a1 b0 b1).mono ?_; rintro e w' ⟨rfl, hw'⟩; replace hw' := hw'.symm; subst hw') | (go_at_call 26; refine (rof_any _ _).mono ?_; rintro e w1 ⟨rfl, hb1⟩; obtain ⟨hc1, hf1⟩ := bcell hb1; have hz1 := bsize hb1; try simp only [World.size_alloc, World.size_drew, World.cell?_drew, World.frozen?_drew] at hz1 hc1 hf1))
    exact end_V (by simp [results, Tryd.results35, go_sem, noV, *]) rfl (by repeat (first | exact Below.refl _ _ | refine bel_alloc ?_ _ | refine bel_set ?_ (by first | exact Nat.le_refl _ | (simp; done) | (simp; omega)) _ | refine Below.drew ?_ | refine bel_trans ?_ (by assumption)))
  by_cases h1 : 63 < b
  · have e : intsF 19 a b = (noV, false) := by simp [intsF, shiftF, h1]
    rw [e]; clear e
    go_enter Tryd.func35, Tryd.ntmps35
    go_wp2_with (first | (go_at_call 44; refine (divides_to _ _ q r _ _ HD a0 a1 b0 b1).mono ?_; rintro e w' ⟨rfl, hw'⟩; replace hw' := hw'.symm; subst hw') | (go_at_call 26; refine (rof_any _ _).mono ?_; rintro e w1 ⟨rfl, hb1⟩; obtain ⟨hc1, hf1⟩ := bcell hb1; have hz1 := bsize hb1; try simp only [World.size_alloc, World.size_drew, World.cell?_drew, World.frozen?_drew] at hz1 hc1 hf1))
    exact end_V (by simp [results, Tryd.results35, go_sem, noV, *]) rfl (by repeat (first | exact Below.refl _ _ | refine bel_alloc ?_ _ | refine bel_set ?_ (by first | exact Nat.le_refl _ | (simp; done) | (simp; omega)) _ | refine Below.drew ?_ | refine bel_trans ?_ (by assumption)))
  obtain ⟨n, rfl⟩ := Int.eq_ofNat_of_zero_le (show 0 ≤ b by omega)
  have hn : n ≤ 63 := by omega
  have e : intsF 19 a n = (ofF (shlA a n), true) := by simp [intsF, shiftF, h1, shlA]; try omega
  rw [e]; clear e
  go_enter Tryd.func35, Tryd.ntmps35
  go_wp2_with (first | (go_at_call 44; refine (divides_to _ _ q r _ _ HD a0 a1 b0 b1).mono ?_; rintro e w' ⟨rfl, hw'⟩; replace hw' := hw'.symm; subst hw'))
  go_loop [1, 11] (fun s i => ∃ k : Nat, k ≤ n ∧ i = .int .i64 k ∧ s = .int .i64 (shlA a k)) (fun _ i => n - (intOf i).toNat)
  case atStart => exact ⟨0, Nat.zero_le _, rfl, by rw [shlA_zero a a0 a1]⟩
  case round =>
    obtain ⟨k, hk, rfl, rfl⟩ := hrel
    by_cases hlt : k < n
    · skip
      skip
      skip
      go_wp2
      go_round
      case rel => exact ⟨k + 1, by omega, by go_num, by rw [← shlA_succ]⟩
      case measure => simp [intOf]; omega
    · have hkn : k = n := by omega
      subst hkn
      go_wp2_with (first | (go_at_call 26; refine (rof_any _ _).mono ?_; rintro e w1 ⟨rfl, hb1⟩; obtain ⟨hc1, hf1⟩ := bcell hb1; have hz1 := bsize hb1; try simp only [World.size_alloc, World.size_drew, World.cell?_drew, World.frozen?_drew] at hz1 hc1 hf1))
      exact end_V (by simp [results, Tryd.results35, go_sem, ofF, *]) rfl (by repeat (first | exact Below.refl _ _ | refine bel_alloc ?_ _ | refine bel_set ?_ (by first | exact Nat.le_refl _ | (simp; done) | (simp; omega)) _ | refine Below.drew ?_ | refine bel_trans ?_ (by assumption)))

set_option maxHeartbeats 1000000 in
theorem rints20 (a b q r : Int) (ok : Bool) (w : World) (HD : Hid (dvF a b = (q, r, ok))) (a0 : -9223372036854775808 ≤ a) (a1 : a ≤ 9223372036854775807) (b0 : -9223372036854775808 ≤ b) (b1 : b ≤ 9223372036854775807) : Calls Tryd.prog 35 #[.int .i64 20, .int .i64 a, .int .i64 b] w (retV (intsF 20 a b).1 (intsF 20 a b).2 w) := by
  by_cases h0 : b < 0
  · have e : intsF 20 a b = (noV, false) := by simp [intsF, shiftF, h0]
    rw [e]; clear e
    go_enter Tryd.func35, Tryd.ntmps35
    go_wp2_with (first | (go_at_call 44; refine (divides_to _ _ q r _ _ HD a0 a1 b0 b1).mono ?_; rintro e w' ⟨rfl, hw'⟩; replace hw' := hw'.symm; subst hw') | (go_at_call 26; refine (rof_any _ _).mono ?_; rintro e w1 ⟨rfl, hb1⟩; obtain ⟨hc1, hf1⟩ := bcell hb1; have hz1 := bsize hb1; try simp only [World.size_alloc, World.size_drew, World.cell?_drew, World.frozen?_drew] at hz1 hc1 hf1))
    exact end_V (by simp [results, Tryd.results35, go_sem, noV, *]) rfl (by repeat (first | exact Below.refl _ _ | refine bel_alloc ?_ _ | refine bel_set ?_ (by first | exact Nat.le_refl _ | (simp; done) | (simp; omega)) _ | refine Below.drew ?_ | refine bel_trans ?_ (by assumption)))
  by_cases h1 : 63 < b
  · have e : intsF 20 a b = (noV, false) := by simp [intsF, shiftF, h1]
    rw [e]; clear e
    go_enter Tryd.func35, Tryd.ntmps35
    go_wp2_with (first | (go_at_call 44; refine (divides_to _ _ q r _ _ HD a0 a1 b0 b1).mono ?_; rintro e w' ⟨rfl, hw'⟩; replace hw' := hw'.symm; subst hw') | (go_at_call 26; refine (rof_any _ _).mono ?_; rintro e w1 ⟨rfl, hb1⟩; obtain ⟨hc1, hf1⟩ := bcell hb1; have hz1 := bsize hb1; try simp only [World.size_alloc, World.size_drew, World.cell?_drew, World.frozen?_drew] at hz1 hc1 hf1))
    exact end_V (by simp [results, Tryd.results35, go_sem, noV, *]) rfl (by repeat (first | exact Below.refl _ _ | refine bel_alloc ?_ _ | refine bel_set ?_ (by first | exact Nat.le_refl _ | (simp; done) | (simp; omega)) _ | refine Below.drew ?_ | refine bel_trans ?_ (by assumption)))
  obtain ⟨n, rfl⟩ := Int.eq_ofNat_of_zero_le (show 0 ≤ b by omega)
  have hn : n ≤ 63 := by omega
  have e : intsF 20 a n = (ofF (shrA a n), true) := by simp [intsF, shiftF, h1, shrA]; try omega
  rw [e]; clear e
  go_enter Tryd.func35, Tryd.ntmps35
  go_wp2_with (first | (go_at_call 44; refine (divides_to _ _ q r _ _ HD a0 a1 b0 b1).mono ?_; rintro e w' ⟨rfl, hw'⟩; replace hw' := hw'.symm; subst hw'))
  go_loop [1, 11] (fun s i => ∃ k : Nat, k ≤ n ∧ i = .int .i64 k ∧ s = .int .i64 (shrA a k)) (fun _ i => n - (intOf i).toNat)
  case atStart => exact ⟨0, Nat.zero_le _, rfl, by rw [shrA_zero]⟩
  case round =>
    obtain ⟨k, hk, rfl, rfl⟩ := hrel
    by_cases hlt : k < n
    · have bd := shrA_bd a k a0 a1
      obtain ⟨bd0, bd1⟩ := bd
      have e1 := and_1 (shrA a k)
      go_wp2
      go_round
      case rel => exact ⟨k + 1, by omega, by go_num, by rw [← shrA_succ, ← even_half]⟩
      case measure => simp [intOf]; omega
    · have hkn : k = n := by omega
      subst hkn
      go_wp2_with (first | (go_at_call 26; refine (rof_any _ _).mono ?_; rintro e w1 ⟨rfl, hb1⟩; obtain ⟨hc1, hf1⟩ := bcell hb1; have hz1 := bsize hb1; try simp only [World.size_alloc, World.size_drew, World.cell?_drew, World.frozen?_drew] at hz1 hc1 hf1))
      exact end_V (by simp [results, Tryd.results35, go_sem, ofF, *]) rfl (by repeat (first | exact Below.refl _ _ | refine bel_alloc ?_ _ | refine bel_set ?_ (by first | exact Nat.le_refl _ | (simp; done) | (simp; omega)) _ | refine Below.drew ?_ | refine bel_trans ?_ (by assumption)))

theorem rints_any (op a b : Int) (w : World) (a0 : -9223372036854775808 ≤ a) (a1 : a ≤ 9223372036854775807) (b0 : -9223372036854775808 ≤ b) (b1 : b ≤ 9223372036854775807) : Calls Tryd.prog 35 #[.int .i64 op, .int .i64 a, .int .i64 b] w (retV (intsF op a b).1 (intsF op a b).2 w) := by
  rcases h : dvF a b with ⟨q, r, ok⟩
  have HD : Hid (dvF a b = (q, r, ok)) := h
  by_cases h11 : op = 11
  · subst h11; exact rints11 a b q r ok w HD a0 a1 b0 b1
  by_cases h12 : op = 12
  · subst h12; exact rints12 a b q r ok w HD a0 a1 b0 b1
  by_cases h13 : op = 13
  · subst h13; exact rints13 a b q r ok w HD a0 a1 b0 b1
  by_cases h14 : op = 14
  · subst h14; exact rints14 a b q r ok w HD a0 a1 b0 b1
  by_cases h15 : op = 15
  · subst h15; exact rints15 a b q r ok w HD a0 a1 b0 b1
  by_cases h16 : op = 16
  · subst h16; exact rints16 a b q r ok w HD a0 a1 b0 b1
  by_cases h17 : op = 17
  · subst h17; exact rints17 a b q r ok w HD a0 a1 b0 b1
  by_cases h18 : op = 18
  · subst h18; exact rints18 a b q r ok w HD a0 a1 b0 b1
  by_cases h19 : op = 19
  · subst h19; exact rints19 a b q r ok w HD a0 a1 b0 b1
  by_cases h20 : op = 20
  · subst h20; exact rints20 a b q r ok w HD a0 a1 b0 b1
  by_cases h21 : op = 21
  · subst h21; exact rints21 a b q r ok w HD a0 a1 b0 b1
  by_cases h22 : op = 22
  · subst h22; exact rints22 a b q r ok w HD a0 a1 b0 b1
  by_cases h23 : op = 23
  · subst h23; exact rints23 a b q r ok w HD a0 a1 b0 b1
  by_cases h24 : op = 24
  · subst h24; exact rints24 a b q r ok w HD a0 a1 b0 b1
  by_cases h25 : op = 25
  · subst h25; exact rints25 a b q r ok w HD a0 a1 b0 b1
  by_cases h26 : op = 26
  · subst h26; exact rints26 a b q r ok w HD a0 a1 b0 b1
  have e : intsF op a b = (noV, false) := by simp [intsF, compareF, h11, h12, h13, h14, h15, h16, h17, h18, h19, h20, h21, h22, h23, h24, h25, h26]
  rw [e]; clear e h
  go_enter Tryd.func35, Tryd.ntmps35
  go_wp2_with (first | (go_at_call 44; refine (divides_to _ _ q r _ _ HD a0 a1 b0 b1).mono ?_; rintro e w' ⟨rfl, hw'⟩; replace hw' := hw'.symm; subst hw') | (go_at_call 26; refine (rof_any _ _).mono ?_; rintro e w1 ⟨rfl, hb1⟩; obtain ⟨hc1, hf1⟩ := bcell hb1; have hz1 := bsize hb1; try simp only [World.size_alloc, World.size_drew, World.cell?_drew, World.frozen?_drew] at hz1 hc1 hf1))
  exact end_V (by simp [results, Tryd.results35, go_sem, noV, *]) rfl (by repeat (first | exact Below.refl _ _ | refine bel_alloc ?_ _ | refine bel_set ?_ (by first | exact Nat.le_refl _ | (simp; done) | (simp; omega)) _ | refine Below.drew ?_ | refine bel_trans ?_ (by assumption)))

end Go.Proofs.YtfkalcfkbaimgaaDoor
