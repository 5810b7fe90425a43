/- Contracts of package val's operations: pointers, pointerAndInt, Bin, Un, Flip, Swap, True. -/
import Derived.Test.YtfkalcfkbaimgabDoorBin
import Derived.Deep.RegionHeld3
namespace Go.Proofs.YtfkalcfkbaimgabDoor
open Go.ChangeShapes Go.WideShapes Go.ChangeAt Go.RowKit Pl
set_option linter.unusedSimpArgs false
set_option linter.unusedVariables false

set_option maxHeartbeats 400000 in
theorem pointers_any (op pk pn pb qk qn qb : Int) (w : World) : Calls Tryd.prog 17 #[.int .i64 op, .agg #[.int .i64 pk, .int .i64 pn, .int .i64 pb], .agg #[.int .i64 qk, .int .i64 qn, .int .i64 qb]] w (retV (ptrsF op ⟨pk, pn, pb⟩ ⟨qk, qn, qb⟩).1 (ptrsF op ⟨pk, pn, pb⟩ ⟨qk, qn, qb⟩).2 w) := by
  by_cases h21 : op = 21
  · subst h21
    by_cases hk : pk = qk
    · subst hk
      by_cases hn : pn = qn
      · subst hn
        by_cases hb : pb = qb
        · subst hb
          have e : ptrsF 21 ⟨pk, pn, pb⟩ ⟨pk, pn, pb⟩ = (bitF true, true) := by simp [ptrsF]
          rw [e]; clear e
          go_enter Tryd.func17, Tryd.ntmps17
          go_wp2_with (go_at_call 24; refine (bit_any _ _).mono ?_; rintro e w1 ⟨rfl, hb1⟩; obtain ⟨hc1, hf1⟩ := bcell hb1; have hz1 := bsize hb1; try simp only [World.size_alloc, World.size_drew, World.cell?_drew, World.frozen?_drew] at hz1 hc1 hf1)
          exact end_V (by simp [results, Tryd.results17, go_sem, *]) rfl (by repeat (first | exact Below.refl _ _ | refine bel_alloc ?_ _ | refine bel_set ?_ (by first | exact Nat.le_refl _ | (simp; done) | (simp; omega)) _ | refine Below.drew ?_ | refine bel_trans ?_ (by assumption)))
        · have hb2 : (pb == qb) = false := by simp [hb]
          have e : ptrsF 21 ⟨pk, pn, pb⟩ ⟨pk, pn, qb⟩ = (bitF false, true) := by simp [ptrsF, hb2]
          rw [e]; clear e
          go_enter Tryd.func17, Tryd.ntmps17
          go_wp2_with (go_at_call 24; refine (bit_any _ _).mono ?_; rintro e w1 ⟨rfl, hb1⟩; obtain ⟨hc1, hf1⟩ := bcell hb1; have hz1 := bsize hb1; try simp only [World.size_alloc, World.size_drew, World.cell?_drew, World.frozen?_drew] at hz1 hc1 hf1)
          exact end_V (by simp [results, Tryd.results17, go_sem, *]) rfl (by repeat (first | exact Below.refl _ _ | refine bel_alloc ?_ _ | refine bel_set ?_ (by first | exact Nat.le_refl _ | (simp; done) | (simp; omega)) _ | refine Below.drew ?_ | refine bel_trans ?_ (by assumption)))
      · have hn2 : (pn == qn) = false := by simp [hn]
        have e : ptrsF 21 ⟨pk, pn, pb⟩ ⟨pk, qn, qb⟩ = (bitF false, true) := by simp [ptrsF, hn2]
        rw [e]; clear e
        go_enter Tryd.func17, Tryd.ntmps17
        go_wp2_with (go_at_call 24; refine (bit_any _ _).mono ?_; rintro e w1 ⟨rfl, hb1⟩; obtain ⟨hc1, hf1⟩ := bcell hb1; have hz1 := bsize hb1; try simp only [World.size_alloc, World.size_drew, World.cell?_drew, World.frozen?_drew] at hz1 hc1 hf1)
        exact end_V (by simp [results, Tryd.results17, go_sem, *]) rfl (by repeat (first | exact Below.refl _ _ | refine bel_alloc ?_ _ | refine bel_set ?_ (by first | exact Nat.le_refl _ | (simp; done) | (simp; omega)) _ | refine Below.drew ?_ | refine bel_trans ?_ (by assumption)))
    · have hk2 : (pk == qk) = false := by simp [hk]
      have e : ptrsF 21 ⟨pk, pn, pb⟩ ⟨qk, qn, qb⟩ = (bitF false, true) := by simp [ptrsF, hk2]
      rw [e]; clear e
      go_enter Tryd.func17, Tryd.ntmps17
      go_wp2_with (go_at_call 24; refine (bit_any _ _).mono ?_; rintro e w1 ⟨rfl, hb1⟩; obtain ⟨hc1, hf1⟩ := bcell hb1; have hz1 := bsize hb1; try simp only [World.size_alloc, World.size_drew, World.cell?_drew, World.frozen?_drew] at hz1 hc1 hf1)
      exact end_V (by simp [results, Tryd.results17, go_sem, *]) rfl (by repeat (first | exact Below.refl _ _ | refine bel_alloc ?_ _ | refine bel_set ?_ (by first | exact Nat.le_refl _ | (simp; done) | (simp; omega)) _ | refine Below.drew ?_ | refine bel_trans ?_ (by assumption)))
  by_cases h22 : op = 22
  · subst h22
    by_cases hk : pk = qk
    · subst hk
      by_cases hn : pn = qn
      · subst hn
        by_cases hb : pb = qb
        · subst hb
          have e : ptrsF 22 ⟨pk, pn, pb⟩ ⟨pk, pn, pb⟩ = (bitF false, true) := by simp [ptrsF]
          rw [e]; clear e
          go_enter Tryd.func17, Tryd.ntmps17
          go_wp2_with (go_at_call 24; refine (bit_any _ _).mono ?_; rintro e w1 ⟨rfl, hb1⟩; obtain ⟨hc1, hf1⟩ := bcell hb1; have hz1 := bsize hb1; try simp only [World.size_alloc, World.size_drew, World.cell?_drew, World.frozen?_drew] at hz1 hc1 hf1)
          exact end_V (by simp [results, Tryd.results17, go_sem, *]) rfl (by repeat (first | exact Below.refl _ _ | refine bel_alloc ?_ _ | refine bel_set ?_ (by first | exact Nat.le_refl _ | (simp; done) | (simp; omega)) _ | refine Below.drew ?_ | refine bel_trans ?_ (by assumption)))
        · have hb2 : (pb == qb) = false := by simp [hb]
          have e : ptrsF 22 ⟨pk, pn, pb⟩ ⟨pk, pn, qb⟩ = (bitF true, true) := by simp [ptrsF, hb2]
          rw [e]; clear e
          go_enter Tryd.func17, Tryd.ntmps17
          go_wp2_with (go_at_call 24; refine (bit_any _ _).mono ?_; rintro e w1 ⟨rfl, hb1⟩; obtain ⟨hc1, hf1⟩ := bcell hb1; have hz1 := bsize hb1; try simp only [World.size_alloc, World.size_drew, World.cell?_drew, World.frozen?_drew] at hz1 hc1 hf1)
          exact end_V (by simp [results, Tryd.results17, go_sem, *]) rfl (by repeat (first | exact Below.refl _ _ | refine bel_alloc ?_ _ | refine bel_set ?_ (by first | exact Nat.le_refl _ | (simp; done) | (simp; omega)) _ | refine Below.drew ?_ | refine bel_trans ?_ (by assumption)))
      · have hn2 : (pn == qn) = false := by simp [hn]
        have e : ptrsF 22 ⟨pk, pn, pb⟩ ⟨pk, qn, qb⟩ = (bitF true, true) := by simp [ptrsF, hn2]
        rw [e]; clear e
        go_enter Tryd.func17, Tryd.ntmps17
        go_wp2_with (go_at_call 24; refine (bit_any _ _).mono ?_; rintro e w1 ⟨rfl, hb1⟩; obtain ⟨hc1, hf1⟩ := bcell hb1; have hz1 := bsize hb1; try simp only [World.size_alloc, World.size_drew, World.cell?_drew, World.frozen?_drew] at hz1 hc1 hf1)
        exact end_V (by simp [results, Tryd.results17, go_sem, *]) rfl (by repeat (first | exact Below.refl _ _ | refine bel_alloc ?_ _ | refine bel_set ?_ (by first | exact Nat.le_refl _ | (simp; done) | (simp; omega)) _ | refine Below.drew ?_ | refine bel_trans ?_ (by assumption)))
    · have hk2 : (pk == qk) = false := by simp [hk]
      have e : ptrsF 22 ⟨pk, pn, pb⟩ ⟨qk, qn, qb⟩ = (bitF true, true) := by simp [ptrsF, hk2]
      rw [e]; clear e
      go_enter Tryd.func17, Tryd.ntmps17
      go_wp2_with (go_at_call 24; refine (bit_any _ _).mono ?_; rintro e w1 ⟨rfl, hb1⟩; obtain ⟨hc1, hf1⟩ := bcell hb1; have hz1 := bsize hb1; try simp only [World.size_alloc, World.size_drew, World.cell?_drew, World.frozen?_drew] at hz1 hc1 hf1)
      exact end_V (by simp [results, Tryd.results17, go_sem, *]) rfl (by repeat (first | exact Below.refl _ _ | refine bel_alloc ?_ _ | refine bel_set ?_ (by first | exact Nat.le_refl _ | (simp; done) | (simp; omega)) _ | refine Below.drew ?_ | refine bel_trans ?_ (by assumption)))
  · have e : ptrsF op ⟨pk, pn, pb⟩ ⟨qk, qn, qb⟩ = (noV, false) := by simp [ptrsF, h21, h22]
    rw [e]; clear e
    go_enter Tryd.func17, Tryd.ntmps17
    go_wp2
    exact end_V (by simp [results, Tryd.results17, go_sem, noV, *]) rfl (by repeat (first | exact Below.refl _ _ | refine bel_alloc ?_ _ | refine bel_set ?_ (by first | exact Nat.le_refl _ | (simp; done) | (simp; omega)) _ | refine Below.drew ?_ | refine bel_trans ?_ (by assumption)))

set_option maxHeartbeats 400000 in
theorem pint_any (op pk pn pb n : Int) (w : World) : Calls Tryd.prog 18 #[.int .i64 op, .agg #[.int .i64 pk, .int .i64 pn, .int .i64 pb], .int .i64 n] w (retV (pintF op ⟨pk, pn, pb⟩ n).1 (pintF op ⟨pk, pn, pb⟩ n).2 w) := by
  by_cases h11 : op = 11
  · subst h11
    have e : pintF 11 ⟨pk, pn, pb⟩ n = (atF pb (wrap64 (pn + n)), true) := by simp [pintF]
    rw [e]; clear e
    go_enter Tryd.func18, Tryd.ntmps18
    go_wp2_with (go_at_call 8; refine (at_any _ _ _).mono ?_; rintro e w1 ⟨rfl, hb1⟩; obtain ⟨hc1, hf1⟩ := bcell hb1; have hz1 := bsize hb1; try simp only [World.size_alloc, World.size_drew, World.cell?_drew, World.frozen?_drew] at hz1 hc1 hf1)
    exact end_V (by simp [results, Tryd.results18, go_sem, *]) rfl (by repeat (first | exact Below.refl _ _ | refine bel_alloc ?_ _ | refine bel_set ?_ (by first | exact Nat.le_refl _ | (simp; done) | (simp; omega)) _ | refine Below.drew ?_ | refine bel_trans ?_ (by assumption)))
  by_cases h12 : op = 12
  · subst h12
    have e : pintF 12 ⟨pk, pn, pb⟩ n = (atF pb (wrap64 (pn - n)), true) := by simp [pintF]
    rw [e]; clear e
    go_enter Tryd.func18, Tryd.ntmps18
    go_wp2_with (go_at_call 8; refine (at_any _ _ _).mono ?_; rintro e w1 ⟨rfl, hb1⟩; obtain ⟨hc1, hf1⟩ := bcell hb1; have hz1 := bsize hb1; try simp only [World.size_alloc, World.size_drew, World.cell?_drew, World.frozen?_drew] at hz1 hc1 hf1)
    exact end_V (by simp [results, Tryd.results18, go_sem, *]) rfl (by repeat (first | exact Below.refl _ _ | refine bel_alloc ?_ _ | refine bel_set ?_ (by first | exact Nat.le_refl _ | (simp; done) | (simp; omega)) _ | refine Below.drew ?_ | refine bel_trans ?_ (by assumption)))
  by_cases h0 : n = 0
  · subst h0
    by_cases h21 : op = 21
    · subst h21
      have e : pintF 21 ⟨pk, pn, pb⟩ 0 = (ofF 0, true) := by simp [pintF]
      rw [e]; clear e
      go_enter Tryd.func18, Tryd.ntmps18
      go_wp2_with (go_at_call 6; refine (of_any _ _).mono ?_; rintro e w1 ⟨rfl, hb1⟩; obtain ⟨hc1, hf1⟩ := bcell hb1; have hz1 := bsize hb1; try simp only [World.size_alloc, World.size_drew, World.cell?_drew, World.frozen?_drew] at hz1 hc1 hf1)
      exact end_V (by simp [results, Tryd.results18, go_sem, ofF, *]) rfl (by repeat (first | exact Below.refl _ _ | refine bel_alloc ?_ _ | refine bel_set ?_ (by first | exact Nat.le_refl _ | (simp; done) | (simp; omega)) _ | refine Below.drew ?_ | refine bel_trans ?_ (by assumption)))
    by_cases h22 : op = 22
    · subst h22
      have e : pintF 22 ⟨pk, pn, pb⟩ 0 = (ofF 1, true) := by simp [pintF]
      rw [e]; clear e
      go_enter Tryd.func18, Tryd.ntmps18
      go_wp2_with (go_at_call 6; refine (of_any _ _).mono ?_; rintro e w1 ⟨rfl, hb1⟩; obtain ⟨hc1, hf1⟩ := bcell hb1; have hz1 := bsize hb1; try simp only [World.size_alloc, World.size_drew, World.cell?_drew, World.frozen?_drew] at hz1 hc1 hf1)
      exact end_V (by simp [results, Tryd.results18, go_sem, ofF, *]) rfl (by repeat (first | exact Below.refl _ _ | refine bel_alloc ?_ _ | refine bel_set ?_ (by first | exact Nat.le_refl _ | (simp; done) | (simp; omega)) _ | refine Below.drew ?_ | refine bel_trans ?_ (by assumption)))
    · have e : pintF op ⟨pk, pn, pb⟩ 0 = (noV, false) := by simp [pintF, h11, h12, h21, h22]
      rw [e]; clear e
      go_enter Tryd.func18, Tryd.ntmps18
      go_wp2
      exact end_V (by simp [results, Tryd.results18, go_sem, noV, *]) rfl (by repeat (first | exact Below.refl _ _ | refine bel_alloc ?_ _ | refine bel_set ?_ (by first | exact Nat.le_refl _ | (simp; done) | (simp; omega)) _ | refine Below.drew ?_ | refine bel_trans ?_ (by assumption)))
  · have e : pintF op ⟨pk, pn, pb⟩ n = (noV, false) := by simp [pintF, h11, h12, h0]
    rw [e]; clear e
    have h02 : (n == 0) = false := by simp [h0]
    by_cases h21 : op = 21
    · subst h21
      go_enter Tryd.func18, Tryd.ntmps18
      go_wp2
      exact end_V (by simp [results, Tryd.results18, go_sem, noV, *]) rfl (by repeat (first | exact Below.refl _ _ | refine bel_alloc ?_ _ | refine bel_set ?_ (by first | exact Nat.le_refl _ | (simp; done) | (simp; omega)) _ | refine Below.drew ?_ | refine bel_trans ?_ (by assumption)))
    by_cases h22 : op = 22
    · subst h22
      go_enter Tryd.func18, Tryd.ntmps18
      go_wp2
      exact end_V (by simp [results, Tryd.results18, go_sem, noV, *]) rfl (by repeat (first | exact Below.refl _ _ | refine bel_alloc ?_ _ | refine bel_set ?_ (by first | exact Nat.le_refl _ | (simp; done) | (simp; omega)) _ | refine Below.drew ?_ | refine bel_trans ?_ (by assumption)))
    · go_enter Tryd.func18, Tryd.ntmps18
      go_wp2
      exact end_V (by simp [results, Tryd.results18, go_sem, noV, *]) rfl (by repeat (first | exact Below.refl _ _ | refine bel_alloc ?_ _ | refine bel_set ?_ (by first | exact Nat.le_refl _ | (simp; done) | (simp; omega)) _ | refine Below.drew ?_ | refine bel_trans ?_ (by assumption)))

set_option maxHeartbeats 2000000 in
theorem bin_any (op ak an ab bk bn bb : Int) (w : World) : Calls Tryd.prog 7 #[.int .i64 op, .agg #[.int .i64 ak, .int .i64 an, .int .i64 ab], .agg #[.int .i64 bk, .int .i64 bn, .int .i64 bb]] w (retV (binF op ⟨ak, an, ab⟩ ⟨bk, bn, bb⟩).1 (binF op ⟨ak, an, ab⟩ ⟨bk, bn, bb⟩).2 w) := by
  go_enter Tryd.func7, Tryd.ntmps7
  go_wp2_with fail
  go_region_held3 (fun w' => w'.cell? ⟨w.heap.size, 0, none⟩ = some (.int .i64 ak) ∧ w'.cell? ⟨w.heap.size, 1, none⟩ = some (.int .i64 an) ∧ w'.cell? ⟨w.heap.size, 2, none⟩ = some (.int .i64 ab) ∧ w'.cell? ⟨w.heap.size + 1, 0, none⟩ = some (.int .i64 bk) ∧ w'.cell? ⟨w.heap.size + 1, 1, none⟩ = some (.int .i64 bn) ∧ w'.cell? ⟨w.heap.size + 1, 2, none⟩ = some (.int .i64 bb) ∧ w'.cell? ⟨w.heap.size + 1 + 1, 0, none⟩ = some (.int .i64 0) ∧ w'.cell? ⟨w.heap.size + 1 + 1, 1, none⟩ = some (.int .i64 0) ∧ w'.cell? ⟨w.heap.size + 1 + 1, 2, none⟩ = some (.int .i64 0) ∧ w'.frozen? ⟨w.heap.size + 1 + 1, 0, none⟩ = false ∧ w'.frozen? ⟨w.heap.size + 1 + 1, 1, none⟩ = false ∧ w'.frozen? ⟨w.heap.size + 1 + 1, 2, none⟩ = false ∧ Below w.heap.size w w') (refine ⟨?_, ?_, ?_, ?_, ?_, ?_, ?_, ?_, ?_, ?_, ?_, ?_, ?_⟩ <;> first | (exact keep_cell hb1 (by go_simp)) | (exact keep_frozen hb1 (v := .int .i64 0) (by go_simp) (by go_simp)) | (go_simp; done) | exact (by repeat (first | exact Below.refl _ _ | refine bel_alloc ?_ _ | refine bel_set ?_ (by first | exact Nat.le_refl _ | (simp; done) | (simp; omega)) _ | refine Below.drew ?_ | refine bel_trans ?_ (by assumption)))) ((go_at_call 15; refine (kind_any _ _ _ _).mono ?_; rintro e w1 ⟨rfl, hb1⟩; obtain ⟨hc1, hf1⟩ := bcell hb1; have hz1 := bsize hb1; try simp only [World.size_alloc, World.size_drew, World.cell?_drew, World.frozen?_drew] at hz1 hc1 hf1))
  rename_i hH
  obtain ⟨c0, c1, c2, c3, c4, c5, c6, c7, c8, z0, z1, z2, hw⟩ := hH
  clear hb1 hz1
  by_cases hA1 : kindF ⟨ak, an, ab⟩ = 1
  · by_cases hB1 : kindF ⟨bk, bn, bb⟩ = 1
    · go_wp2_with (go_at_call 16; refine (ints_any _ _ _ _).mono ?_; rintro e w2 ⟨rfl, hb2⟩; replace z0 := keep_frozen hb2 c6 z0; replace z1 := keep_frozen hb2 c7 z1; replace z2 := keep_frozen hb2 c8 z2; replace c6 := keep_cell hb2 c6; replace c7 := keep_cell hb2 c7; replace c8 := keep_cell hb2 c8)
      exact end_V (by simp [results, Tryd.results7, go_sem, binF, hA1, hB1, c6, c7, c8, z0, z1, z2]) rfl (by repeat (first | exact Below.refl _ _ | refine bel_alloc ?_ _ | refine bel_set ?_ (by first | exact Nat.le_refl _ | (simp; done) | (simp; omega)) _ | refine Below.drew ?_ | refine bel_trans ?_ (by assumption)))
    have hB1b : (kindF ⟨bk, bn, bb⟩ == 1) = false := by simp [hB1]
    by_cases hB2 : kindF ⟨bk, bn, bb⟩ = 2
    · by_cases h12 : op = 12
      · subst h12
        go_wp2_with fail
        exact end_V (by simp [results, Tryd.results7, go_sem, binF, noV, hA1, hB2, c6, c7, c8]) rfl (by repeat (first | exact Below.refl _ _ | refine bel_alloc ?_ _ | refine bel_set ?_ (by first | exact Nat.le_refl _ | (simp; done) | (simp; omega)) _ | refine Below.drew ?_ | refine bel_trans ?_ (by assumption)))
      · have h12b : (op == 12) = false := by simp [h12]
        go_wp2_with (go_at_call 18; refine (pint_any _ _ _ _ _ _).mono ?_; rintro e w2 ⟨rfl, hb2⟩; replace z0 := keep_frozen hb2 c6 z0; replace z1 := keep_frozen hb2 c7 z1; replace z2 := keep_frozen hb2 c8 z2; replace c6 := keep_cell hb2 c6; replace c7 := keep_cell hb2 c7; replace c8 := keep_cell hb2 c8)
        exact end_V (by simp [results, Tryd.results7, go_sem, binF, hA1, hB2, h12, c6, c7, c8, z0, z1, z2]) rfl (by repeat (first | exact Below.refl _ _ | refine bel_alloc ?_ _ | refine bel_set ?_ (by first | exact Nat.le_refl _ | (simp; done) | (simp; omega)) _ | refine Below.drew ?_ | refine bel_trans ?_ (by assumption)))
    · have hB2b : (kindF ⟨bk, bn, bb⟩ == 2) = false := by simp [hB2]
      go_wp2_with fail
      exact end_V (by simp [results, Tryd.results7, go_sem, binF, noV, hA1, hB1, hB2, c6, c7, c8]) rfl (by repeat (first | exact Below.refl _ _ | refine bel_alloc ?_ _ | refine bel_set ?_ (by first | exact Nat.le_refl _ | (simp; done) | (simp; omega)) _ | refine Below.drew ?_ | refine bel_trans ?_ (by assumption)))
  have hA1b : (kindF ⟨ak, an, ab⟩ == 1) = false := by simp [hA1]
  by_cases hA2 : kindF ⟨ak, an, ab⟩ = 2
  · by_cases hB1 : kindF ⟨bk, bn, bb⟩ = 1
    · go_wp2_with (go_at_call 18; refine (pint_any _ _ _ _ _ _).mono ?_; rintro e w2 ⟨rfl, hb2⟩; replace z0 := keep_frozen hb2 c6 z0; replace z1 := keep_frozen hb2 c7 z1; replace z2 := keep_frozen hb2 c8 z2; replace c6 := keep_cell hb2 c6; replace c7 := keep_cell hb2 c7; replace c8 := keep_cell hb2 c8)
      exact end_V (by simp [results, Tryd.results7, go_sem, binF, hA2, hB1, c6, c7, c8, z0, z1, z2]) rfl (by repeat (first | exact Below.refl _ _ | refine bel_alloc ?_ _ | refine bel_set ?_ (by first | exact Nat.le_refl _ | (simp; done) | (simp; omega)) _ | refine Below.drew ?_ | refine bel_trans ?_ (by assumption)))
    have hB1b : (kindF ⟨bk, bn, bb⟩ == 1) = false := by simp [hB1]
    by_cases hB2 : kindF ⟨bk, bn, bb⟩ = 2
    · go_wp2_with (go_at_call 17; refine (pointers_any _ _ _ _ _ _ _ _).mono ?_; rintro e w2 ⟨rfl, hb2⟩; replace z0 := keep_frozen hb2 c6 z0; replace z1 := keep_frozen hb2 c7 z1; replace z2 := keep_frozen hb2 c8 z2; replace c6 := keep_cell hb2 c6; replace c7 := keep_cell hb2 c7; replace c8 := keep_cell hb2 c8)
      exact end_V (by simp [results, Tryd.results7, go_sem, binF, hA2, hB2, c6, c7, c8, z0, z1, z2]) rfl (by repeat (first | exact Below.refl _ _ | refine bel_alloc ?_ _ | refine bel_set ?_ (by first | exact Nat.le_refl _ | (simp; done) | (simp; omega)) _ | refine Below.drew ?_ | refine bel_trans ?_ (by assumption)))
    · have hB2b : (kindF ⟨bk, bn, bb⟩ == 2) = false := by simp [hB2]
      go_wp2_with fail
      exact end_V (by simp [results, Tryd.results7, go_sem, binF, noV, hA2, hB1, hB2, c6, c7, c8]) rfl (by repeat (first | exact Below.refl _ _ | refine bel_alloc ?_ _ | refine bel_set ?_ (by first | exact Nat.le_refl _ | (simp; done) | (simp; omega)) _ | refine Below.drew ?_ | refine bel_trans ?_ (by assumption)))
  · have hA2b : (kindF ⟨ak, an, ab⟩ == 2) = false := by simp [hA2]
    go_wp2_with fail
    exact end_V (by simp [results, Tryd.results7, go_sem, binF, noV, hA1, hA2, c6, c7, c8]) rfl (by repeat (first | exact Below.refl _ _ | refine bel_alloc ?_ _ | refine bel_set ?_ (by first | exact Nat.le_refl _ | (simp; done) | (simp; omega)) _ | refine Below.drew ?_ | refine bel_trans ?_ (by assumption)))

end Go.Proofs.YtfkalcfkbaimgabDoor
