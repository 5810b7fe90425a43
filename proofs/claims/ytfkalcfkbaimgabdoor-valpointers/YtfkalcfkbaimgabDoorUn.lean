/- Contracts of package val's Un, Flip, Swap, True; and Bin's and Un's with their answers named. -/
import Derived.Test.YtfkalcfkbaimgabDoorBin2
namespace Go.Proofs.YtfkalcfkbaimgabDoor
open Go.ChangeShapes Go.WideShapes Go.ChangeAt Go.RowKit Pl
set_option linter.unusedSimpArgs false
set_option linter.unusedVariables false

set_option maxHeartbeats 1000000 in
theorem un_any (op ak an ab : Int) (w : World) : Calls Tryd.prog 10 #[.int .i64 op, .agg #[.int .i64 ak, .int .i64 an, .int .i64 ab]] w (retV (unF op ⟨ak, an, ab⟩).1 (unF op ⟨ak, an, ab⟩).2 w) := by
  by_cases hA1 : kindF ⟨ak, an, ab⟩ = 1
  · by_cases h1 : op = 1
    · subst h1
      go_enter Tryd.func10, Tryd.ntmps10
      go_wp2_with (first | (go_at_call 15; refine (kind_any _ _ _ _).mono ?_; rintro e w1 ⟨rfl, hb1⟩; have c0 := keep_cell hb1 (p := ⟨w.heap.size, 0, none⟩) (v := .int .i64 ak) (by go_simp); have c1 := keep_cell hb1 (p := ⟨w.heap.size, 1, none⟩) (v := .int .i64 an) (by go_simp); have c2 := keep_cell hb1 (p := ⟨w.heap.size, 2, none⟩) (v := .int .i64 ab) (by go_simp); have c3 := keep_cell hb1 (p := ⟨w.heap.size + 1, 0, none⟩) (v := .int .i64 0) (by go_simp); have c4 := keep_cell hb1 (p := ⟨w.heap.size + 1, 1, none⟩) (v := .int .i64 0) (by go_simp); have c5 := keep_cell hb1 (p := ⟨w.heap.size + 1, 2, none⟩) (v := .int .i64 0) (by go_simp); have z0 := keep_frozen hb1 (p := ⟨w.heap.size + 1, 0, none⟩) (v := .int .i64 0) (by go_simp) (by go_simp); have z1 := keep_frozen hb1 (p := ⟨w.heap.size + 1, 1, none⟩) (v := .int .i64 0) (by go_simp) (by go_simp); have z2 := keep_frozen hb1 (p := ⟨w.heap.size + 1, 2, none⟩) (v := .int .i64 0) (by go_simp) (by go_simp)) | (go_at_call 6; refine (of_any _ _).mono ?_; rintro e w2 ⟨rfl, hb2⟩; replace z0 := keep_frozen hb2 c3 z0; replace z1 := keep_frozen hb2 c4 z1; replace z2 := keep_frozen hb2 c5 z2; replace c3 := keep_cell hb2 c3; replace c4 := keep_cell hb2 c4; replace c5 := keep_cell hb2 c5))
      exact end_V (by simp [results, Tryd.results10, go_sem, unF, ofF, hA1, c3, c4, c5, z0, z1, z2]) rfl (by repeat (first | exact Below.refl _ _ | refine bel_alloc ?_ _ | refine bel_set ?_ (by first | exact Nat.le_refl _ | (simp; done) | (simp; omega)) _ | refine Below.drew ?_ | refine bel_trans ?_ (by assumption)))
    by_cases h2 : op = 2
    · subst h2
      go_enter Tryd.func10, Tryd.ntmps10
      go_wp2_with (first | (go_at_call 15; refine (kind_any _ _ _ _).mono ?_; rintro e w1 ⟨rfl, hb1⟩; have c0 := keep_cell hb1 (p := ⟨w.heap.size, 0, none⟩) (v := .int .i64 ak) (by go_simp); have c1 := keep_cell hb1 (p := ⟨w.heap.size, 1, none⟩) (v := .int .i64 an) (by go_simp); have c2 := keep_cell hb1 (p := ⟨w.heap.size, 2, none⟩) (v := .int .i64 ab) (by go_simp); have c3 := keep_cell hb1 (p := ⟨w.heap.size + 1, 0, none⟩) (v := .int .i64 0) (by go_simp); have c4 := keep_cell hb1 (p := ⟨w.heap.size + 1, 1, none⟩) (v := .int .i64 0) (by go_simp); have c5 := keep_cell hb1 (p := ⟨w.heap.size + 1, 2, none⟩) (v := .int .i64 0) (by go_simp); have z0 := keep_frozen hb1 (p := ⟨w.heap.size + 1, 0, none⟩) (v := .int .i64 0) (by go_simp) (by go_simp); have z1 := keep_frozen hb1 (p := ⟨w.heap.size + 1, 1, none⟩) (v := .int .i64 0) (by go_simp) (by go_simp); have z2 := keep_frozen hb1 (p := ⟨w.heap.size + 1, 2, none⟩) (v := .int .i64 0) (by go_simp) (by go_simp)) | (go_at_call 6; refine (of_any _ _).mono ?_; rintro e w2 ⟨rfl, hb2⟩; replace z0 := keep_frozen hb2 c3 z0; replace z1 := keep_frozen hb2 c4 z1; replace z2 := keep_frozen hb2 c5 z2; replace c3 := keep_cell hb2 c3; replace c4 := keep_cell hb2 c4; replace c5 := keep_cell hb2 c5))
      exact end_V (by simp [results, Tryd.results10, go_sem, unF, ofF, hA1, c3, c4, c5, z0, z1, z2]) rfl (by repeat (first | exact Below.refl _ _ | refine bel_alloc ?_ _ | refine bel_set ?_ (by first | exact Nat.le_refl _ | (simp; done) | (simp; omega)) _ | refine Below.drew ?_ | refine bel_trans ?_ (by assumption)))
    by_cases h3 : op = 3
    · subst h3
      go_enter Tryd.func10, Tryd.ntmps10
      go_wp2_with (first | (go_at_call 15; refine (kind_any _ _ _ _).mono ?_; rintro e w1 ⟨rfl, hb1⟩; have c0 := keep_cell hb1 (p := ⟨w.heap.size, 0, none⟩) (v := .int .i64 ak) (by go_simp); have c1 := keep_cell hb1 (p := ⟨w.heap.size, 1, none⟩) (v := .int .i64 an) (by go_simp); have c2 := keep_cell hb1 (p := ⟨w.heap.size, 2, none⟩) (v := .int .i64 ab) (by go_simp); have c3 := keep_cell hb1 (p := ⟨w.heap.size + 1, 0, none⟩) (v := .int .i64 0) (by go_simp); have c4 := keep_cell hb1 (p := ⟨w.heap.size + 1, 1, none⟩) (v := .int .i64 0) (by go_simp); have c5 := keep_cell hb1 (p := ⟨w.heap.size + 1, 2, none⟩) (v := .int .i64 0) (by go_simp); have z0 := keep_frozen hb1 (p := ⟨w.heap.size + 1, 0, none⟩) (v := .int .i64 0) (by go_simp) (by go_simp); have z1 := keep_frozen hb1 (p := ⟨w.heap.size + 1, 1, none⟩) (v := .int .i64 0) (by go_simp) (by go_simp); have z2 := keep_frozen hb1 (p := ⟨w.heap.size + 1, 2, none⟩) (v := .int .i64 0) (by go_simp) (by go_simp)) | (go_at_call 6; refine (of_any _ _).mono ?_; rintro e w2 ⟨rfl, hb2⟩; replace z0 := keep_frozen hb2 c3 z0; replace z1 := keep_frozen hb2 c4 z1; replace z2 := keep_frozen hb2 c5 z2; replace c3 := keep_cell hb2 c3; replace c4 := keep_cell hb2 c4; replace c5 := keep_cell hb2 c5))
      exact end_V (by simp [results, Tryd.results10, go_sem, unF, ofF, hA1, c3, c4, c5, z0, z1, z2]) rfl (by repeat (first | exact Below.refl _ _ | refine bel_alloc ?_ _ | refine bel_set ?_ (by first | exact Nat.le_refl _ | (simp; done) | (simp; omega)) _ | refine Below.drew ?_ | refine bel_trans ?_ (by assumption)))
    by_cases h4 : op = 4
    · subst h4
      go_enter Tryd.func10, Tryd.ntmps10
      go_wp2_with (first | (go_at_call 15; refine (kind_any _ _ _ _).mono ?_; rintro e w1 ⟨rfl, hb1⟩; have c0 := keep_cell hb1 (p := ⟨w.heap.size, 0, none⟩) (v := .int .i64 ak) (by go_simp); have c1 := keep_cell hb1 (p := ⟨w.heap.size, 1, none⟩) (v := .int .i64 an) (by go_simp); have c2 := keep_cell hb1 (p := ⟨w.heap.size, 2, none⟩) (v := .int .i64 ab) (by go_simp); have c3 := keep_cell hb1 (p := ⟨w.heap.size + 1, 0, none⟩) (v := .int .i64 0) (by go_simp); have c4 := keep_cell hb1 (p := ⟨w.heap.size + 1, 1, none⟩) (v := .int .i64 0) (by go_simp); have c5 := keep_cell hb1 (p := ⟨w.heap.size + 1, 2, none⟩) (v := .int .i64 0) (by go_simp); have z0 := keep_frozen hb1 (p := ⟨w.heap.size + 1, 0, none⟩) (v := .int .i64 0) (by go_simp) (by go_simp); have z1 := keep_frozen hb1 (p := ⟨w.heap.size + 1, 1, none⟩) (v := .int .i64 0) (by go_simp) (by go_simp); have z2 := keep_frozen hb1 (p := ⟨w.heap.size + 1, 2, none⟩) (v := .int .i64 0) (by go_simp) (by go_simp)) | (go_at_call 6; refine (of_any _ _).mono ?_; rintro e w2 ⟨rfl, hb2⟩; replace z0 := keep_frozen hb2 c3 z0; replace z1 := keep_frozen hb2 c4 z1; replace z2 := keep_frozen hb2 c5 z2; replace c3 := keep_cell hb2 c3; replace c4 := keep_cell hb2 c4; replace c5 := keep_cell hb2 c5))
      exact end_V (by simp [results, Tryd.results10, go_sem, unF, ofF, hA1, c3, c4, c5, z0, z1, z2]) rfl (by repeat (first | exact Below.refl _ _ | refine bel_alloc ?_ _ | refine bel_set ?_ (by first | exact Nat.le_refl _ | (simp; done) | (simp; omega)) _ | refine Below.drew ?_ | refine bel_trans ?_ (by assumption)))
    have g1 : (op == 1) = false := by simp [h1]
    have g2 : (op == 2) = false := by simp [h2]
    have g3 : (op == 3) = false := by simp [h3]
    have g4 : (op == 4) = false := by simp [h4]
    go_enter Tryd.func10, Tryd.ntmps10
    go_wp2_with (first | (go_at_call 15; refine (kind_any _ _ _ _).mono ?_; rintro e w1 ⟨rfl, hb1⟩; have c0 := keep_cell hb1 (p := ⟨w.heap.size, 0, none⟩) (v := .int .i64 ak) (by go_simp); have c1 := keep_cell hb1 (p := ⟨w.heap.size, 1, none⟩) (v := .int .i64 an) (by go_simp); have c2 := keep_cell hb1 (p := ⟨w.heap.size, 2, none⟩) (v := .int .i64 ab) (by go_simp); have c3 := keep_cell hb1 (p := ⟨w.heap.size + 1, 0, none⟩) (v := .int .i64 0) (by go_simp); have c4 := keep_cell hb1 (p := ⟨w.heap.size + 1, 1, none⟩) (v := .int .i64 0) (by go_simp); have c5 := keep_cell hb1 (p := ⟨w.heap.size + 1, 2, none⟩) (v := .int .i64 0) (by go_simp); have z0 := keep_frozen hb1 (p := ⟨w.heap.size + 1, 0, none⟩) (v := .int .i64 0) (by go_simp) (by go_simp); have z1 := keep_frozen hb1 (p := ⟨w.heap.size + 1, 1, none⟩) (v := .int .i64 0) (by go_simp) (by go_simp); have z2 := keep_frozen hb1 (p := ⟨w.heap.size + 1, 2, none⟩) (v := .int .i64 0) (by go_simp) (by go_simp)) | (go_at_call 6; refine (of_any _ _).mono ?_; rintro e w2 ⟨rfl, hb2⟩; replace z0 := keep_frozen hb2 c3 z0; replace z1 := keep_frozen hb2 c4 z1; replace z2 := keep_frozen hb2 c5 z2; replace c3 := keep_cell hb2 c3; replace c4 := keep_cell hb2 c4; replace c5 := keep_cell hb2 c5))
    exact end_V (by simp [results, Tryd.results10, go_sem, unF, noV, hA1, h1, h2, h3, h4, c3, c4, c5]) rfl (by repeat (first | exact Below.refl _ _ | refine bel_alloc ?_ _ | refine bel_set ?_ (by first | exact Nat.le_refl _ | (simp; done) | (simp; omega)) _ | refine Below.drew ?_ | refine bel_trans ?_ (by assumption)))
  · have g : (kindF ⟨ak, an, ab⟩ != 1) = true := by simp [hA1]
    go_enter Tryd.func10, Tryd.ntmps10
    go_wp2_with (first | (go_at_call 15; refine (kind_any _ _ _ _).mono ?_; rintro e w1 ⟨rfl, hb1⟩; have c0 := keep_cell hb1 (p := ⟨w.heap.size, 0, none⟩) (v := .int .i64 ak) (by go_simp); have c1 := keep_cell hb1 (p := ⟨w.heap.size, 1, none⟩) (v := .int .i64 an) (by go_simp); have c2 := keep_cell hb1 (p := ⟨w.heap.size, 2, none⟩) (v := .int .i64 ab) (by go_simp); have c3 := keep_cell hb1 (p := ⟨w.heap.size + 1, 0, none⟩) (v := .int .i64 0) (by go_simp); have c4 := keep_cell hb1 (p := ⟨w.heap.size + 1, 1, none⟩) (v := .int .i64 0) (by go_simp); have c5 := keep_cell hb1 (p := ⟨w.heap.size + 1, 2, none⟩) (v := .int .i64 0) (by go_simp); have z0 := keep_frozen hb1 (p := ⟨w.heap.size + 1, 0, none⟩) (v := .int .i64 0) (by go_simp) (by go_simp); have z1 := keep_frozen hb1 (p := ⟨w.heap.size + 1, 1, none⟩) (v := .int .i64 0) (by go_simp) (by go_simp); have z2 := keep_frozen hb1 (p := ⟨w.heap.size + 1, 2, none⟩) (v := .int .i64 0) (by go_simp) (by go_simp)) | (go_at_call 6; refine (of_any _ _).mono ?_; rintro e w2 ⟨rfl, hb2⟩; replace z0 := keep_frozen hb2 c3 z0; replace z1 := keep_frozen hb2 c4 z1; replace z2 := keep_frozen hb2 c5 z2; replace c3 := keep_cell hb2 c3; replace c4 := keep_cell hb2 c4; replace c5 := keep_cell hb2 c5))
    exact end_V (by simp [results, Tryd.results10, go_sem, unF, noV, hA1, c3, c4, c5]) rfl (by repeat (first | exact Below.refl _ _ | refine bel_alloc ?_ _ | refine bel_set ?_ (by first | exact Nat.le_refl _ | (simp; done) | (simp; omega)) _ | refine Below.drew ?_ | refine bel_trans ?_ (by assumption)))

set_option maxHeartbeats 400000 in
theorem flip_any (op : Int) (w : World) : Calls Tryd.prog 11 #[.int .i64 op] w fun e w' => e = .returned (.tuple #[.int .i64 (flipF op).1, .bool (flipF op).2]) ∧ w' = w := by
  by_cases h21 : op = 21
  · subst h21
    go_enter Tryd.func11, Tryd.ntmps11
    go_wp2
    go_ret2
    exact ⟨by simp [flipF], rfl⟩
  by_cases h22 : op = 22
  · subst h22
    go_enter Tryd.func11, Tryd.ntmps11
    go_wp2
    go_ret2
    exact ⟨by simp [flipF], rfl⟩
  by_cases h23 : op = 23
  · subst h23
    go_enter Tryd.func11, Tryd.ntmps11
    go_wp2
    go_ret2
    exact ⟨by simp [flipF], rfl⟩
  by_cases h24 : op = 24
  · subst h24
    go_enter Tryd.func11, Tryd.ntmps11
    go_wp2
    go_ret2
    exact ⟨by simp [flipF], rfl⟩
  by_cases h25 : op = 25
  · subst h25
    go_enter Tryd.func11, Tryd.ntmps11
    go_wp2
    go_ret2
    exact ⟨by simp [flipF], rfl⟩
  by_cases h26 : op = 26
  · subst h26
    go_enter Tryd.func11, Tryd.ntmps11
    go_wp2
    go_ret2
    exact ⟨by simp [flipF], rfl⟩
  go_enter Tryd.func11, Tryd.ntmps11
  go_wp2
  go_ret2
  exact ⟨by simp [flipF, h21, h22, h23, h24, h25, h26], rfl⟩

set_option maxHeartbeats 400000 in
theorem swap_any (op : Int) (w : World) : Calls Tryd.prog 12 #[.int .i64 op] w fun e w' => e = .returned (.tuple #[.int .i64 (swapF op).1, .bool (swapF op).2]) ∧ w' = w := by
  by_cases h11 : op = 11
  · subst h11
    go_enter Tryd.func12, Tryd.ntmps12
    go_wp2
    go_ret2
    exact ⟨by simp [swapF], rfl⟩
  by_cases h13 : op = 13
  · subst h13
    go_enter Tryd.func12, Tryd.ntmps12
    go_wp2
    go_ret2
    exact ⟨by simp [swapF], rfl⟩
  by_cases h16 : op = 16
  · subst h16
    go_enter Tryd.func12, Tryd.ntmps12
    go_wp2
    go_ret2
    exact ⟨by simp [swapF], rfl⟩
  by_cases h17 : op = 17
  · subst h17
    go_enter Tryd.func12, Tryd.ntmps12
    go_wp2
    go_ret2
    exact ⟨by simp [swapF], rfl⟩
  by_cases h18 : op = 18
  · subst h18
    go_enter Tryd.func12, Tryd.ntmps12
    go_wp2
    go_ret2
    exact ⟨by simp [swapF], rfl⟩
  by_cases h21 : op = 21
  · subst h21
    go_enter Tryd.func12, Tryd.ntmps12
    go_wp2
    go_ret2
    exact ⟨by simp [swapF], rfl⟩
  by_cases h22 : op = 22
  · subst h22
    go_enter Tryd.func12, Tryd.ntmps12
    go_wp2
    go_ret2
    exact ⟨by simp [swapF], rfl⟩
  by_cases h23 : op = 23
  · subst h23
    go_enter Tryd.func12, Tryd.ntmps12
    go_wp2
    go_ret2
    exact ⟨by simp [swapF], rfl⟩
  by_cases h24 : op = 24
  · subst h24
    go_enter Tryd.func12, Tryd.ntmps12
    go_wp2
    go_ret2
    exact ⟨by simp [swapF], rfl⟩
  by_cases h25 : op = 25
  · subst h25
    go_enter Tryd.func12, Tryd.ntmps12
    go_wp2
    go_ret2
    exact ⟨by simp [swapF], rfl⟩
  by_cases h26 : op = 26
  · subst h26
    go_enter Tryd.func12, Tryd.ntmps12
    go_wp2
    go_ret2
    exact ⟨by simp [swapF], rfl⟩
  go_enter Tryd.func12, Tryd.ntmps12
  go_wp2
  go_ret2
  exact ⟨by simp [swapF, h11, h13, h16, h17, h18, h21, h22, h23, h24, h25, h26], rfl⟩

def trueF (a : V) : Bool × Bool := if kindF a = 1 then (a.n != 0, true) else if kindF a = 2 then (true, true) else (false, false)
set_option maxHeartbeats 400000 in
theorem true_any (ak an ab : Int) (w : World) : Calls Tryd.prog 9 #[.agg #[.int .i64 ak, .int .i64 an, .int .i64 ab]] w (retP (.tuple #[.bool (trueF ⟨ak, an, ab⟩).1, .bool (trueF ⟨ak, an, ab⟩).2]) w) := by
  by_cases hA1 : kindF ⟨ak, an, ab⟩ = 1
  · go_enter Tryd.func9, Tryd.ntmps9
    go_wp2_with (go_at_call 15; refine (kind_any _ _ _ _).mono ?_; rintro e w1 ⟨rfl, hb1⟩; have c0 := keep_cell hb1 (p := ⟨w.heap.size, 0, none⟩) (v := .int .i64 ak) (by go_simp); have c1 := keep_cell hb1 (p := ⟨w.heap.size, 1, none⟩) (v := .int .i64 an) (by go_simp); have c2 := keep_cell hb1 (p := ⟨w.heap.size, 2, none⟩) (v := .int .i64 ab) (by go_simp))
    go_ret2
    exact ⟨by simp [trueF, hA1], (by repeat (first | exact Below.refl _ _ | refine bel_alloc ?_ _ | refine bel_set ?_ (by first | exact Nat.le_refl _ | (simp; done) | (simp; omega)) _ | refine Below.drew ?_ | refine bel_trans ?_ (by assumption)))⟩
  have g1 : (kindF ⟨ak, an, ab⟩ == 1) = false := by simp [hA1]
  by_cases hA2 : kindF ⟨ak, an, ab⟩ = 2
  · go_enter Tryd.func9, Tryd.ntmps9
    go_wp2_with (go_at_call 15; refine (kind_any _ _ _ _).mono ?_; rintro e w1 ⟨rfl, hb1⟩; have c0 := keep_cell hb1 (p := ⟨w.heap.size, 0, none⟩) (v := .int .i64 ak) (by go_simp); have c1 := keep_cell hb1 (p := ⟨w.heap.size, 1, none⟩) (v := .int .i64 an) (by go_simp); have c2 := keep_cell hb1 (p := ⟨w.heap.size, 2, none⟩) (v := .int .i64 ab) (by go_simp))
    go_ret2
    exact ⟨by simp [trueF, hA2], (by repeat (first | exact Below.refl _ _ | refine bel_alloc ?_ _ | refine bel_set ?_ (by first | exact Nat.le_refl _ | (simp; done) | (simp; omega)) _ | refine Below.drew ?_ | refine bel_trans ?_ (by assumption)))⟩
  · have g2 : (kindF ⟨ak, an, ab⟩ == 2) = false := by simp [hA2]
    go_enter Tryd.func9, Tryd.ntmps9
    go_wp2_with (go_at_call 15; refine (kind_any _ _ _ _).mono ?_; rintro e w1 ⟨rfl, hb1⟩; have c0 := keep_cell hb1 (p := ⟨w.heap.size, 0, none⟩) (v := .int .i64 ak) (by go_simp); have c1 := keep_cell hb1 (p := ⟨w.heap.size, 1, none⟩) (v := .int .i64 an) (by go_simp); have c2 := keep_cell hb1 (p := ⟨w.heap.size, 2, none⟩) (v := .int .i64 ab) (by go_simp))
    go_ret2
    exact ⟨by simp [trueF, hA1, hA2], (by repeat (first | exact Below.refl _ _ | refine bel_alloc ?_ _ | refine bel_set ?_ (by first | exact Nat.le_refl _ | (simp; done) | (simp; omega)) _ | refine Below.drew ?_ | refine bel_trans ?_ (by assumption)))⟩

theorem bin_to (op ak an ab bk bn bb xk xn xb : Int) (ok : Bool) (w : World) (h : binF op ⟨ak, an, ab⟩ ⟨bk, bn, bb⟩ = (⟨xk, xn, xb⟩, ok)) :
    Calls Tryd.prog 7 #[.int .i64 op, .agg #[.int .i64 ak, .int .i64 an, .int .i64 ab], .agg #[.int .i64 bk, .int .i64 bn, .int .i64 bb]] w (retP (.tuple #[.agg #[.int .i64 xk, .int .i64 xn, .int .i64 xb], .bool ok]) w) := by
  have := bin_any op ak an ab bk bn bb w
  rw [h] at this
  exact this
theorem un_to (op ak an ab xk xn xb : Int) (ok : Bool) (w : World) (h : unF op ⟨ak, an, ab⟩ = (⟨xk, xn, xb⟩, ok)) :
    Calls Tryd.prog 10 #[.int .i64 op, .agg #[.int .i64 ak, .int .i64 an, .int .i64 ab]] w (retP (.tuple #[.agg #[.int .i64 xk, .int .i64 xn, .int .i64 xb], .bool ok]) w) := by
  have := un_any op ak an ab w
  rw [h] at this
  exact this
theorem of_to (n : Int) (w : World) : Calls Tryd.prog 6 #[.int .i64 n] w (retP (.agg #[.int .i64 1, .int .i64 n, .int .i64 0]) w) := of_any n w
theorem at_to (b n xk xn xb : Int) (w : World) (h : atF b n = ⟨xk, xn, xb⟩) : Calls Tryd.prog 8 #[.int .i64 b, .int .i64 n] w (retP (.agg #[.int .i64 xk, .int .i64 xn, .int .i64 xb]) w) := by
  have := at_any b n w
  rw [h] at this
  exact this

end Go.Proofs.YtfkalcfkbaimgabDoor
