/- Contracts of the document's own answers: Good, Of, At, bit, Ext, Un, Divides. -/
import Derived.Test.YtfkalcfkbaimgaaDoorUn
import Derived.Test.YtfkalcfkbaimgaaDoorRefM
namespace Go.Proofs.YtfkalcfkbaimgaaDoor
open Go.ChangeShapes Go.WideShapes Go.ChangeAt Go.RowKit Pl
set_option linter.unusedSimpArgs false
set_option linter.unusedVariables false

set_option maxHeartbeats 400000 in
theorem rof_any (n : Int) (w : World) : Calls Tryd.prog 26 #[.int .i64 n] w (retA (ofF n) w) := by
  go_enter Tryd.func26, Tryd.ntmps26
  go_wp2
  exact end_A (by simp [results, Tryd.results26, go_sem, ofF]) rfl (by repeat (first | exact Below.refl _ _ | refine bel_alloc ?_ _ | refine bel_set ?_ (by first | exact Nat.le_refl _ | (simp; done) | (simp; omega)) _ | refine Below.drew ?_ | refine bel_trans ?_ (by assumption)))
set_option maxHeartbeats 400000 in
theorem rat_any (b n : Int) (w : World) : Calls Tryd.prog 27 #[.int .i64 b, .int .i64 n] w (retA (atF b n) w) := by
  by_cases h : b < 1
  · go_enter Tryd.func27, Tryd.ntmps27
    go_wp2
    exact end_A (by simp [results, Tryd.results27, go_sem, atF, h, noV]) rfl (by repeat (first | exact Below.refl _ _ | refine bel_alloc ?_ _ | refine bel_set ?_ (by first | exact Nat.le_refl _ | (simp; done) | (simp; omega)) _ | refine Below.drew ?_ | refine bel_trans ?_ (by assumption)))
  · go_enter Tryd.func27, Tryd.ntmps27
    go_wp2
    exact end_A (by simp [results, Tryd.results27, go_sem, atF, show ¬ b < 1 by omega]) rfl (by repeat (first | exact Below.refl _ _ | refine bel_alloc ?_ _ | refine bel_set ?_ (by first | exact Nat.le_refl _ | (simp; done) | (simp; omega)) _ | refine Below.drew ?_ | refine bel_trans ?_ (by assumption)))
set_option maxHeartbeats 400000 in
theorem rgood_any (k n b : Int) (w : World) : Calls Tryd.prog 24 #[.agg #[.int .i64 k, .int .i64 n, .int .i64 b]] w (retP (.bool (goodF ⟨k, n, b⟩)) w) := by
  by_cases h0 : k = 0
  · subst h0
    by_cases hn : n = 0
    · subst hn
      go_enter Tryd.func24, Tryd.ntmps24
      go_wp2
      go_ret
      exact ⟨by simp [goodF], (by repeat (first | exact Below.refl _ _ | refine bel_alloc ?_ _ | refine bel_set ?_ (by first | exact Nat.le_refl _ | (simp; done) | (simp; omega)) _ | refine Below.drew ?_ | refine bel_trans ?_ (by assumption)))⟩
    · go_enter Tryd.func24, Tryd.ntmps24
      go_wp2
      go_ret
      exact ⟨by simp [goodF, hn], (by repeat (first | exact Below.refl _ _ | refine bel_alloc ?_ _ | refine bel_set ?_ (by first | exact Nat.le_refl _ | (simp; done) | (simp; omega)) _ | refine Below.drew ?_ | refine bel_trans ?_ (by assumption)))⟩
  by_cases h1 : k = 1
  · subst h1
    go_enter Tryd.func24, Tryd.ntmps24
    go_wp2
    go_ret
    exact ⟨by simp [goodF], (by repeat (first | exact Below.refl _ _ | refine bel_alloc ?_ _ | refine bel_set ?_ (by first | exact Nat.le_refl _ | (simp; done) | (simp; omega)) _ | refine Below.drew ?_ | refine bel_trans ?_ (by assumption)))⟩
  by_cases h2 : k = 2
  · subst h2
    go_enter Tryd.func24, Tryd.ntmps24
    go_wp2
    go_ret
    exact ⟨by simp [goodF], (by repeat (first | exact Below.refl _ _ | refine bel_alloc ?_ _ | refine bel_set ?_ (by first | exact Nat.le_refl _ | (simp; done) | (simp; omega)) _ | refine Below.drew ?_ | refine bel_trans ?_ (by assumption)))⟩
  · go_enter Tryd.func24, Tryd.ntmps24
    go_wp2
    go_ret
    exact ⟨by simp [goodF, h0, h1, h2], (by repeat (first | exact Below.refl _ _ | refine bel_alloc ?_ _ | refine bel_set ?_ (by first | exact Nat.le_refl _ | (simp; done) | (simp; omega)) _ | refine Below.drew ?_ | refine bel_trans ?_ (by assumption)))⟩
set_option maxHeartbeats 400000 in
theorem rbit_any (c : Bool) (w : World) : Calls Tryd.prog 36 #[.bool c] w (retA (bitF c) w) := by
  cases c
  all_goals
    go_enter Tryd.func36, Tryd.ntmps36
    go_wp2_with (go_at_call 26; refine (rof_any _ _).mono ?_; rintro e w1 ⟨rfl, hb1⟩; obtain ⟨hc1, hf1⟩ := bcell hb1; have hz1 := bsize hb1; try simp only [World.size_alloc, World.size_drew, World.cell?_drew, World.frozen?_drew] at hz1 hc1 hf1)
    exact end_A (by simp [results, Tryd.results36, go_sem, bitF, bitN, *]) rfl (by repeat (first | exact Below.refl _ _ | refine bel_alloc ?_ _ | refine bel_set ?_ (by first | exact Nat.le_refl _ | (simp; done) | (simp; omega)) _ | refine Below.drew ?_ | refine bel_trans ?_ (by assumption)))

set_option maxHeartbeats 400000 in
theorem ext8_any (n : Int) (w : World) : Calls Tryd.prog 34 #[.int .i64 n, .int .u64 8] w fun e w' => e = .returned (.int .i64 (wrap64 (IntKind.i8.wrap n))) ∧ w' = w := by
  obtain ⟨m, hm⟩ : ∃ m, bits .and .i64 n 255 = m := ⟨_, rfl⟩
  have hv := hm.symm.trans (and_255 n)
  have h0 : 0 ≤ m := by omega
  have h1 : m ≤ 255 := by omega
  have he : wrap64 (IntKind.i8.wrap n) = if 128 ≤ m then m - 256 else m := by
    rw [i8w]; unfold wrap64
    split <;> omega
  rw [he]
  have HV : Hid (m = n % 256) := hv
  clear hv he
  by_cases hc : 128 ≤ m
  · rw [if_pos hc]
    go_enter Tryd.func34, Tryd.ntmps34
    go_wp2
    go_ret
    exact ⟨rfl, rfl⟩
  · rw [if_neg hc]
    go_enter Tryd.func34, Tryd.ntmps34
    go_wp2
    go_ret
    exact ⟨rfl, rfl⟩

set_option maxHeartbeats 400000 in
theorem ext32_any (n : Int) (w : World) : Calls Tryd.prog 34 #[.int .i64 n, .int .u64 32] w fun e w' => e = .returned (.int .i64 (wrap64 (wrap32 n))) ∧ w' = w := by
  obtain ⟨m, hm⟩ : ∃ m, bits .and .i64 n 4294967295 = m := ⟨_, rfl⟩
  have hv := hm.symm.trans (and_32 n)
  have h0 : 0 ≤ m := by omega
  have h1 : m ≤ 4294967295 := by omega
  have he : wrap64 (wrap32 n) = if 2147483648 ≤ m then m - 4294967296 else m := by
    unfold wrap64 wrap32
    split <;> omega
  rw [he]
  have HV : Hid (m = n % 4294967296) := hv
  clear hv he
  by_cases hc : 2147483648 ≤ m
  · rw [if_pos hc]
    go_enter Tryd.func34, Tryd.ntmps34
    go_wp2
    go_ret
    exact ⟨rfl, rfl⟩
  · rw [if_neg hc]
    go_enter Tryd.func34, Tryd.ntmps34
    go_wp2
    go_ret
    exact ⟨rfl, rfl⟩

set_option maxHeartbeats 1000000 in
theorem run_any (op ak an ab : Int) (w : World) : Calls Tryd.prog 16 #[.int .i64 op, .agg #[.int .i64 ak, .int .i64 an, .int .i64 ab]] w (retV (unF op ⟨ak, an, ab⟩).1 (unF op ⟨ak, an, ab⟩).2 w) := by
  by_cases hg : goodF ⟨ak, an, ab⟩ = true
  · have hK : kindF ⟨ak, an, ab⟩ = ak := by simp [kindF, hg]
    by_cases hA1 : ak = 1
    · subst hA1
      by_cases h1 : op = 1
      · subst h1
        have e1 : wrap64 (bits .xor .i64 (-1) an + 1) = wrap64 (-an) := by rw [bits_not]; unfold wrap64; omega
        go_enter Tryd.func16, Tryd.ntmps16
        go_wp2_with (first | (go_at_call 24; refine (rgood_any _ _ _ _).mono ?_; rintro e w1 ⟨rfl, hb1⟩; have c0 := keep_cell hb1 (p := ⟨w.heap.size, 0, none⟩) (v := .int .i64 1) (by go_simp); have c1 := keep_cell hb1 (p := ⟨w.heap.size, 1, none⟩) (v := .int .i64 an) (by go_simp); have c2 := keep_cell hb1 (p := ⟨w.heap.size, 2, none⟩) (v := .int .i64 ab) (by go_simp); have c3 := keep_cell hb1 (p := ⟨w.heap.size + 1, 0, none⟩) (v := .int .i64 0) (by go_simp); have c4 := keep_cell hb1 (p := ⟨w.heap.size + 1, 1, none⟩) (v := .int .i64 0) (by go_simp); have c5 := keep_cell hb1 (p := ⟨w.heap.size + 1, 2, none⟩) (v := .int .i64 0) (by go_simp); have z0 := keep_frozen hb1 (p := ⟨w.heap.size + 1, 0, none⟩) (v := .int .i64 0) (by go_simp) (by go_simp); have z1 := keep_frozen hb1 (p := ⟨w.heap.size + 1, 1, none⟩) (v := .int .i64 0) (by go_simp) (by go_simp); have z2 := keep_frozen hb1 (p := ⟨w.heap.size + 1, 2, none⟩) (v := .int .i64 0) (by go_simp) (by go_simp)) | (go_at_call 26; refine (rof_any _ _).mono ?_; rintro e w2 ⟨rfl, hb2⟩; replace z0 := keep_frozen hb2 c3 z0; replace z1 := keep_frozen hb2 c4 z1; replace z2 := keep_frozen hb2 c5 z2; replace c3 := keep_cell hb2 c3; replace c4 := keep_cell hb2 c4; replace c5 := keep_cell hb2 c5))
        exact end_V (by simp [results, Tryd.results16, go_sem, unF, ofF, hK, c3, c4, c5, z0, z1, z2]) rfl (by repeat (first | exact Below.refl _ _ | refine bel_alloc ?_ _ | refine bel_set ?_ (by first | exact Nat.le_refl _ | (simp; done) | (simp; omega)) _ | refine Below.drew ?_ | refine bel_trans ?_ (by assumption)))
      by_cases h2 : op = 2
      · subst h2
        have e2 : wrap64 (-1 - an) = bits .xor .i64 (-1) an := (bits_not an).symm
        go_enter Tryd.func16, Tryd.ntmps16
        go_wp2_with (first | (go_at_call 24; refine (rgood_any _ _ _ _).mono ?_; rintro e w1 ⟨rfl, hb1⟩; have c0 := keep_cell hb1 (p := ⟨w.heap.size, 0, none⟩) (v := .int .i64 1) (by go_simp); have c1 := keep_cell hb1 (p := ⟨w.heap.size, 1, none⟩) (v := .int .i64 an) (by go_simp); have c2 := keep_cell hb1 (p := ⟨w.heap.size, 2, none⟩) (v := .int .i64 ab) (by go_simp); have c3 := keep_cell hb1 (p := ⟨w.heap.size + 1, 0, none⟩) (v := .int .i64 0) (by go_simp); have c4 := keep_cell hb1 (p := ⟨w.heap.size + 1, 1, none⟩) (v := .int .i64 0) (by go_simp); have c5 := keep_cell hb1 (p := ⟨w.heap.size + 1, 2, none⟩) (v := .int .i64 0) (by go_simp); have z0 := keep_frozen hb1 (p := ⟨w.heap.size + 1, 0, none⟩) (v := .int .i64 0) (by go_simp) (by go_simp); have z1 := keep_frozen hb1 (p := ⟨w.heap.size + 1, 1, none⟩) (v := .int .i64 0) (by go_simp) (by go_simp); have z2 := keep_frozen hb1 (p := ⟨w.heap.size + 1, 2, none⟩) (v := .int .i64 0) (by go_simp) (by go_simp)) | (go_at_call 26; refine (rof_any _ _).mono ?_; rintro e w2 ⟨rfl, hb2⟩; replace z0 := keep_frozen hb2 c3 z0; replace z1 := keep_frozen hb2 c4 z1; replace z2 := keep_frozen hb2 c5 z2; replace c3 := keep_cell hb2 c3; replace c4 := keep_cell hb2 c4; replace c5 := keep_cell hb2 c5))
        exact end_V (by simp [results, Tryd.results16, go_sem, unF, ofF, hK, c3, c4, c5, z0, z1, z2]) rfl (by repeat (first | exact Below.refl _ _ | refine bel_alloc ?_ _ | refine bel_set ?_ (by first | exact Nat.le_refl _ | (simp; done) | (simp; omega)) _ | refine Below.drew ?_ | refine bel_trans ?_ (by assumption)))
      by_cases h3 : op = 3
      · subst h3
        go_enter Tryd.func16, Tryd.ntmps16
        go_wp2_with (first | (go_at_call 24; refine (rgood_any _ _ _ _).mono ?_; rintro e w1 ⟨rfl, hb1⟩; have c0 := keep_cell hb1 (p := ⟨w.heap.size, 0, none⟩) (v := .int .i64 1) (by go_simp); have c1 := keep_cell hb1 (p := ⟨w.heap.size, 1, none⟩) (v := .int .i64 an) (by go_simp); have c2 := keep_cell hb1 (p := ⟨w.heap.size, 2, none⟩) (v := .int .i64 ab) (by go_simp); have c3 := keep_cell hb1 (p := ⟨w.heap.size + 1, 0, none⟩) (v := .int .i64 0) (by go_simp); have c4 := keep_cell hb1 (p := ⟨w.heap.size + 1, 1, none⟩) (v := .int .i64 0) (by go_simp); have c5 := keep_cell hb1 (p := ⟨w.heap.size + 1, 2, none⟩) (v := .int .i64 0) (by go_simp); have z0 := keep_frozen hb1 (p := ⟨w.heap.size + 1, 0, none⟩) (v := .int .i64 0) (by go_simp) (by go_simp); have z1 := keep_frozen hb1 (p := ⟨w.heap.size + 1, 1, none⟩) (v := .int .i64 0) (by go_simp) (by go_simp); have z2 := keep_frozen hb1 (p := ⟨w.heap.size + 1, 2, none⟩) (v := .int .i64 0) (by go_simp) (by go_simp)) | (go_at_call 26; refine (rof_any _ _).mono ?_; rintro e w2 ⟨rfl, hb2⟩; replace z0 := keep_frozen hb2 c3 z0; replace z1 := keep_frozen hb2 c4 z1; replace z2 := keep_frozen hb2 c5 z2; replace c3 := keep_cell hb2 c3; replace c4 := keep_cell hb2 c4; replace c5 := keep_cell hb2 c5) | (go_at_call 34; refine (ext8_any _ _).mono ?_; rintro e w' ⟨rfl, hw'⟩; replace hw' := hw'.symm; subst hw'))
        exact end_V (by simp [results, Tryd.results16, go_sem, unF, ofF, hK, c3, c4, c5, z0, z1, z2]) rfl (by repeat (first | exact Below.refl _ _ | refine bel_alloc ?_ _ | refine bel_set ?_ (by first | exact Nat.le_refl _ | (simp; done) | (simp; omega)) _ | refine Below.drew ?_ | refine bel_trans ?_ (by assumption)))
      by_cases h4 : op = 4
      · subst h4
        go_enter Tryd.func16, Tryd.ntmps16
        go_wp2_with (first | (go_at_call 24; refine (rgood_any _ _ _ _).mono ?_; rintro e w1 ⟨rfl, hb1⟩; have c0 := keep_cell hb1 (p := ⟨w.heap.size, 0, none⟩) (v := .int .i64 1) (by go_simp); have c1 := keep_cell hb1 (p := ⟨w.heap.size, 1, none⟩) (v := .int .i64 an) (by go_simp); have c2 := keep_cell hb1 (p := ⟨w.heap.size, 2, none⟩) (v := .int .i64 ab) (by go_simp); have c3 := keep_cell hb1 (p := ⟨w.heap.size + 1, 0, none⟩) (v := .int .i64 0) (by go_simp); have c4 := keep_cell hb1 (p := ⟨w.heap.size + 1, 1, none⟩) (v := .int .i64 0) (by go_simp); have c5 := keep_cell hb1 (p := ⟨w.heap.size + 1, 2, none⟩) (v := .int .i64 0) (by go_simp); have z0 := keep_frozen hb1 (p := ⟨w.heap.size + 1, 0, none⟩) (v := .int .i64 0) (by go_simp) (by go_simp); have z1 := keep_frozen hb1 (p := ⟨w.heap.size + 1, 1, none⟩) (v := .int .i64 0) (by go_simp) (by go_simp); have z2 := keep_frozen hb1 (p := ⟨w.heap.size + 1, 2, none⟩) (v := .int .i64 0) (by go_simp) (by go_simp)) | (go_at_call 26; refine (rof_any _ _).mono ?_; rintro e w2 ⟨rfl, hb2⟩; replace z0 := keep_frozen hb2 c3 z0; replace z1 := keep_frozen hb2 c4 z1; replace z2 := keep_frozen hb2 c5 z2; replace c3 := keep_cell hb2 c3; replace c4 := keep_cell hb2 c4; replace c5 := keep_cell hb2 c5) | (go_at_call 34; refine (ext32_any _ _).mono ?_; rintro e w' ⟨rfl, hw'⟩; replace hw' := hw'.symm; subst hw'))
        exact end_V (by simp [results, Tryd.results16, go_sem, unF, ofF, hK, c3, c4, c5, z0, z1, z2]) rfl (by repeat (first | exact Below.refl _ _ | refine bel_alloc ?_ _ | refine bel_set ?_ (by first | exact Nat.le_refl _ | (simp; done) | (simp; omega)) _ | refine Below.drew ?_ | refine bel_trans ?_ (by assumption)))
      have g1 : (op == 1) = false := by simp [h1]
      have g2 : (op == 2) = false := by simp [h2]
      have g3 : (op == 3) = false := by simp [h3]
      have g4 : (op == 4) = false := by simp [h4]
      go_enter Tryd.func16, Tryd.ntmps16
      go_wp2_with (first | (go_at_call 24; refine (rgood_any _ _ _ _).mono ?_; rintro e w1 ⟨rfl, hb1⟩; have c0 := keep_cell hb1 (p := ⟨w.heap.size, 0, none⟩) (v := .int .i64 1) (by go_simp); have c1 := keep_cell hb1 (p := ⟨w.heap.size, 1, none⟩) (v := .int .i64 an) (by go_simp); have c2 := keep_cell hb1 (p := ⟨w.heap.size, 2, none⟩) (v := .int .i64 ab) (by go_simp); have c3 := keep_cell hb1 (p := ⟨w.heap.size + 1, 0, none⟩) (v := .int .i64 0) (by go_simp); have c4 := keep_cell hb1 (p := ⟨w.heap.size + 1, 1, none⟩) (v := .int .i64 0) (by go_simp); have c5 := keep_cell hb1 (p := ⟨w.heap.size + 1, 2, none⟩) (v := .int .i64 0) (by go_simp); have z0 := keep_frozen hb1 (p := ⟨w.heap.size + 1, 0, none⟩) (v := .int .i64 0) (by go_simp) (by go_simp); have z1 := keep_frozen hb1 (p := ⟨w.heap.size + 1, 1, none⟩) (v := .int .i64 0) (by go_simp) (by go_simp); have z2 := keep_frozen hb1 (p := ⟨w.heap.size + 1, 2, none⟩) (v := .int .i64 0) (by go_simp) (by go_simp)) | (go_at_call 26; refine (rof_any _ _).mono ?_; rintro e w2 ⟨rfl, hb2⟩; replace z0 := keep_frozen hb2 c3 z0; replace z1 := keep_frozen hb2 c4 z1; replace z2 := keep_frozen hb2 c5 z2; replace c3 := keep_cell hb2 c3; replace c4 := keep_cell hb2 c4; replace c5 := keep_cell hb2 c5))
      exact end_V (by simp [results, Tryd.results16, go_sem, unF, noV, hK, h1, h2, h3, h4, c3, c4, c5]) rfl (by repeat (first | exact Below.refl _ _ | refine bel_alloc ?_ _ | refine bel_set ?_ (by first | exact Nat.le_refl _ | (simp; done) | (simp; omega)) _ | refine Below.drew ?_ | refine bel_trans ?_ (by assumption)))
    · have g : (ak != 1) = true := by simp [hA1]
      go_enter Tryd.func16, Tryd.ntmps16
      go_wp2_with (first | (go_at_call 24; refine (rgood_any _ _ _ _).mono ?_; rintro e w1 ⟨rfl, hb1⟩; have c0 := keep_cell hb1 (p := ⟨w.heap.size, 0, none⟩) (v := .int .i64 ak) (by go_simp); have c1 := keep_cell hb1 (p := ⟨w.heap.size, 1, none⟩) (v := .int .i64 an) (by go_simp); have c2 := keep_cell hb1 (p := ⟨w.heap.size, 2, none⟩) (v := .int .i64 ab) (by go_simp); have c3 := keep_cell hb1 (p := ⟨w.heap.size + 1, 0, none⟩) (v := .int .i64 0) (by go_simp); have c4 := keep_cell hb1 (p := ⟨w.heap.size + 1, 1, none⟩) (v := .int .i64 0) (by go_simp); have c5 := keep_cell hb1 (p := ⟨w.heap.size + 1, 2, none⟩) (v := .int .i64 0) (by go_simp); have z0 := keep_frozen hb1 (p := ⟨w.heap.size + 1, 0, none⟩) (v := .int .i64 0) (by go_simp) (by go_simp); have z1 := keep_frozen hb1 (p := ⟨w.heap.size + 1, 1, none⟩) (v := .int .i64 0) (by go_simp) (by go_simp); have z2 := keep_frozen hb1 (p := ⟨w.heap.size + 1, 2, none⟩) (v := .int .i64 0) (by go_simp) (by go_simp)) | (go_at_call 26; refine (rof_any _ _).mono ?_; rintro e w2 ⟨rfl, hb2⟩; replace z0 := keep_frozen hb2 c3 z0; replace z1 := keep_frozen hb2 c4 z1; replace z2 := keep_frozen hb2 c5 z2; replace c3 := keep_cell hb2 c3; replace c4 := keep_cell hb2 c4; replace c5 := keep_cell hb2 c5))
      exact end_V (by simp [results, Tryd.results16, go_sem, unF, noV, hK, hA1, c3, c4, c5, z0, z1, z2]) rfl (by repeat (first | exact Below.refl _ _ | refine bel_alloc ?_ _ | refine bel_set ?_ (by first | exact Nat.le_refl _ | (simp; done) | (simp; omega)) _ | refine Below.drew ?_ | refine bel_trans ?_ (by assumption)))
  · have hg2 : goodF ⟨ak, an, ab⟩ = false := by simpa using hg
    have hK : kindF ⟨ak, an, ab⟩ = 0 := by simp [kindF, hg2]
    go_enter Tryd.func16, Tryd.ntmps16
    go_wp2_with (first | (go_at_call 24; refine (rgood_any _ _ _ _).mono ?_; rintro e w1 ⟨rfl, hb1⟩; have c0 := keep_cell hb1 (p := ⟨w.heap.size, 0, none⟩) (v := .int .i64 ak) (by go_simp); have c1 := keep_cell hb1 (p := ⟨w.heap.size, 1, none⟩) (v := .int .i64 an) (by go_simp); have c2 := keep_cell hb1 (p := ⟨w.heap.size, 2, none⟩) (v := .int .i64 ab) (by go_simp); have c3 := keep_cell hb1 (p := ⟨w.heap.size + 1, 0, none⟩) (v := .int .i64 0) (by go_simp); have c4 := keep_cell hb1 (p := ⟨w.heap.size + 1, 1, none⟩) (v := .int .i64 0) (by go_simp); have c5 := keep_cell hb1 (p := ⟨w.heap.size + 1, 2, none⟩) (v := .int .i64 0) (by go_simp); have z0 := keep_frozen hb1 (p := ⟨w.heap.size + 1, 0, none⟩) (v := .int .i64 0) (by go_simp) (by go_simp); have z1 := keep_frozen hb1 (p := ⟨w.heap.size + 1, 1, none⟩) (v := .int .i64 0) (by go_simp) (by go_simp); have z2 := keep_frozen hb1 (p := ⟨w.heap.size + 1, 2, none⟩) (v := .int .i64 0) (by go_simp) (by go_simp)) | (go_at_call 26; refine (rof_any _ _).mono ?_; rintro e w2 ⟨rfl, hb2⟩; replace z0 := keep_frozen hb2 c3 z0; replace z1 := keep_frozen hb2 c4 z1; replace z2 := keep_frozen hb2 c5 z2; replace c3 := keep_cell hb2 c3; replace c4 := keep_cell hb2 c4; replace c5 := keep_cell hb2 c5))
    exact end_V (by simp [results, Tryd.results16, go_sem, unF, noV, hK, c3, c4, c5, z0, z1, z2]) rfl (by repeat (first | exact Below.refl _ _ | refine bel_alloc ?_ _ | refine bel_set ?_ (by first | exact Nat.le_refl _ | (simp; done) | (simp; omega)) _ | refine Below.drew ?_ | refine bel_trans ?_ (by assumption)))

set_option maxHeartbeats 400000 in
theorem dv_pp (a b q p : Int) (w : World) (x0 : 0 ≤ a) (x1 : a ≤ 9223372036854775807) (y0 : 0 < b) (y1 : b ≤ 9223372036854775807) (hm : (a == -9223372036854775808) = false) (sa : decide (a < 0) = false) (hb0 : (b == 0) = false) (sb : decide (b < 0) = false) (hq : a / b = q) (hp : IntKind.u64.wrap (q * b) = p) (q0 : 0 ≤ q) (q1 : q ≤ a) (p0 : 0 ≤ p) (p1 : p ≤ a) :
    Calls Tryd.prog 44 #[.int .i64 a, .int .i64 b] w fun e w' => (∃ Q R : Int, e = .returned (.tuple #[.int .i64 Q, .int .i64 R, .bool true]) ∧ wrap64 Q = wrap64 (q) ∧ wrap64 R = wrap64 (a - p) ∧ wrap64 Q = Q ∧ wrap64 R = R) ∧ w' = w := by
  go_enter Tryd.func44, Tryd.ntmps44
  go_wp2
  go_ret3
  refine ⟨⟨_, _, rfl, ?_, ?_, ?_, ?_⟩, rfl⟩ <;> first | rfl | (unfold wrap64; omega) | (simp only [u64w]; done) | (simp only [u64w]; unfold wrap64; omega)

set_option maxHeartbeats 400000 in
theorem dv_pn (a b q p y : Int) (w : World) (x0 : 0 ≤ a) (x1 : a ≤ 9223372036854775807) (hy : IntKind.u64.wrap (-IntKind.u64.wrap b) = y) (y0 : 0 < y) (y1 : y ≤ 9223372036854775808) (bn : b < 0) (hm : (a == -9223372036854775808) = false) (sa : decide (a < 0) = false) (hb0 : (b == 0) = false) (sb : decide (b < 0) = true) (hq : a / y = q) (hp : IntKind.u64.wrap (q * y) = p) (q0 : 0 ≤ q) (q1 : q ≤ a) (p0 : 0 ≤ p) (p1 : p ≤ a) :
    Calls Tryd.prog 44 #[.int .i64 a, .int .i64 b] w fun e w' => (∃ Q R : Int, e = .returned (.tuple #[.int .i64 Q, .int .i64 R, .bool true]) ∧ wrap64 Q = wrap64 (-q) ∧ wrap64 R = wrap64 (a - p) ∧ wrap64 Q = Q ∧ wrap64 R = R) ∧ w' = w := by
  go_enter Tryd.func44, Tryd.ntmps44
  go_wp2
  go_ret3
  refine ⟨⟨_, _, rfl, ?_, ?_, ?_, ?_⟩, rfl⟩ <;> first | rfl | (unfold wrap64; omega) | (simp only [u64w]; done) | (simp only [u64w]; unfold wrap64; omega)

set_option maxHeartbeats 400000 in
theorem dv_np (a b q p x : Int) (w : World) (hx : IntKind.u64.wrap (-IntKind.u64.wrap a) = x) (x0 : 0 ≤ x) (x1 : x ≤ 9223372036854775808) (an : a < 0) (y0 : 0 < b) (y1 : b ≤ 9223372036854775807) (hm : (a == -9223372036854775808) = false) (sa : decide (a < 0) = true) (hb0 : (b == 0) = false) (sb : decide (b < 0) = false) (hq : x / b = q) (hp : IntKind.u64.wrap (q * b) = p) (q0 : 0 ≤ q) (q1 : q ≤ x) (p0 : 0 ≤ p) (p1 : p ≤ x) :
    Calls Tryd.prog 44 #[.int .i64 a, .int .i64 b] w fun e w' => (∃ Q R : Int, e = .returned (.tuple #[.int .i64 Q, .int .i64 R, .bool true]) ∧ wrap64 Q = wrap64 (-q) ∧ wrap64 R = wrap64 (-(x - p)) ∧ wrap64 Q = Q ∧ wrap64 R = R) ∧ w' = w := by
  go_enter Tryd.func44, Tryd.ntmps44
  go_wp2
  go_ret3
  refine ⟨⟨_, _, rfl, ?_, ?_, ?_, ?_⟩, rfl⟩ <;> first | rfl | (unfold wrap64; omega) | (simp only [u64w]; done) | (simp only [u64w]; unfold wrap64; omega)

set_option maxHeartbeats 400000 in
theorem dv_nn (a b q p x y : Int) (w : World) (hx : IntKind.u64.wrap (-IntKind.u64.wrap a) = x) (x0 : 0 ≤ x) (x1 : x ≤ 9223372036854775808) (an : a < 0) (hy : IntKind.u64.wrap (-IntKind.u64.wrap b) = y) (y0 : 0 < y) (y1 : y ≤ 9223372036854775808) (bn : b < 0) (hm : (a == -9223372036854775808) = false) (sa : decide (a < 0) = true) (hb0 : (b == 0) = false) (sb : decide (b < 0) = true) (hq : x / y = q) (hp : IntKind.u64.wrap (q * y) = p) (q0 : 0 ≤ q) (q1 : q ≤ x) (p0 : 0 ≤ p) (p1 : p ≤ x) :
    Calls Tryd.prog 44 #[.int .i64 a, .int .i64 b] w fun e w' => (∃ Q R : Int, e = .returned (.tuple #[.int .i64 Q, .int .i64 R, .bool true]) ∧ wrap64 Q = wrap64 (q) ∧ wrap64 R = wrap64 (-(x - p)) ∧ wrap64 Q = Q ∧ wrap64 R = R) ∧ w' = w := by
  go_enter Tryd.func44, Tryd.ntmps44
  go_wp2
  go_ret3
  refine ⟨⟨_, _, rfl, ?_, ?_, ?_, ?_⟩, rfl⟩ <;> first | rfl | (unfold wrap64; omega) | (simp only [u64w]; done) | (simp only [u64w]; unfold wrap64; omega)

set_option maxHeartbeats 400000 in
theorem dv_mp (b q p x : Int) (w : World) (hx : IntKind.u64.wrap (-IntKind.u64.wrap (-9223372036854775808)) = x) (x0 : 0 ≤ x) (x1 : x ≤ 9223372036854775808) (y0 : 0 < b) (y1 : b ≤ 9223372036854775807) (hb1 : (b == -1) = false) (hb0 : (b == 0) = false) (sb : decide (b < 0) = false) (hq : x / b = q) (hp : IntKind.u64.wrap (q * b) = p) (q0 : 0 ≤ q) (q1 : q ≤ x) (p0 : 0 ≤ p) (p1 : p ≤ x) :
    Calls Tryd.prog 44 #[.int .i64 (-9223372036854775808), .int .i64 b] w fun e w' => (∃ Q R : Int, e = .returned (.tuple #[.int .i64 Q, .int .i64 R, .bool true]) ∧ wrap64 Q = wrap64 (-q) ∧ wrap64 R = wrap64 (-(x - p)) ∧ wrap64 Q = Q ∧ wrap64 R = R) ∧ w' = w := by
  go_enter Tryd.func44, Tryd.ntmps44
  go_wp2
  go_ret3
  refine ⟨⟨_, _, rfl, ?_, ?_, ?_, ?_⟩, rfl⟩ <;> first | rfl | (unfold wrap64; omega) | (simp only [u64w]; done) | (simp only [u64w]; unfold wrap64; omega)

set_option maxHeartbeats 400000 in
theorem dv_mn (b q p x y : Int) (w : World) (hx : IntKind.u64.wrap (-IntKind.u64.wrap (-9223372036854775808)) = x) (x0 : 0 ≤ x) (x1 : x ≤ 9223372036854775808) (hy : IntKind.u64.wrap (-IntKind.u64.wrap b) = y) (y0 : 0 < y) (y1 : y ≤ 9223372036854775808) (bn : b < 0) (hb1 : (b == -1) = false) (hb0 : (b == 0) = false) (sb : decide (b < 0) = true) (hq : x / y = q) (hp : IntKind.u64.wrap (q * y) = p) (q0 : 0 ≤ q) (q1 : q ≤ x) (p0 : 0 ≤ p) (p1 : p ≤ x) :
    Calls Tryd.prog 44 #[.int .i64 (-9223372036854775808), .int .i64 b] w fun e w' => (∃ Q R : Int, e = .returned (.tuple #[.int .i64 Q, .int .i64 R, .bool true]) ∧ wrap64 Q = wrap64 (q) ∧ wrap64 R = wrap64 (-(x - p)) ∧ wrap64 Q = Q ∧ wrap64 R = R) ∧ w' = w := by
  go_enter Tryd.func44, Tryd.ntmps44
  go_wp2
  go_ret3
  refine ⟨⟨_, _, rfl, ?_, ?_, ?_, ?_⟩, rfl⟩ <;> first | rfl | (unfold wrap64; omega) | (simp only [u64w]; done) | (simp only [u64w]; unfold wrap64; omega)

end Go.Proofs.YtfkalcfkbaimgaaDoor
