/- The contract of the document's own Bin. -/
import Derived.Test.YtfkalcfkbaimgaaDoorRef3
import Derived.Test.YtfkalcfkbaimgaaDoorLawsM
namespace Go.Proofs.YtfkalcfkbaimgaaDoor
open Go.ChangeShapes Go.WideShapes Go.ChangeAt Go.RowKit Pl
set_option linter.unusedSimpArgs false
set_option linter.unusedVariables false

set_option maxHeartbeats 2000000 in
theorem rb_ng1 (op an bn ab bb ak bk : Int) (w : World) (ga : goodF ⟨ak, an, ab⟩ = false) : Calls Tryd.prog 17 #[.int .i64 op, .agg #[.int .i64 ak, .int .i64 an, .int .i64 ab], .agg #[.int .i64 bk, .int .i64 bn, .int .i64 bb]] w (retV (binF op ⟨ak, an, ab⟩ ⟨bk, bn, bb⟩).1 (binF op ⟨ak, an, ab⟩ ⟨bk, bn, bb⟩).2 w) := by
  have e : binF op ⟨ak, an, ab⟩ ⟨bk, bn, bb⟩ = (noV, false) := by simp [binF, kindF, ga]
  rw [e]; clear e
  go_enter Tryd.func17, Tryd.ntmps17
  go_wp2_with fail
  refine (rgood_any _ _ _ _).mono ?_
  rintro e w1 ⟨rfl, hb1⟩
  have c0 := keep_cell hb1 (p := ⟨w.heap.size, 0, none⟩) (v := .int .i64 ak) (by go_simp)
  have c1 := keep_cell hb1 (p := ⟨w.heap.size, 1, none⟩) (v := .int .i64 an) (by go_simp)
  have c2 := keep_cell hb1 (p := ⟨w.heap.size, 2, none⟩) (v := .int .i64 ab) (by go_simp)
  have c3 := keep_cell hb1 (p := ⟨w.heap.size + 1, 0, none⟩) (v := .int .i64 bk) (by go_simp)
  have c4 := keep_cell hb1 (p := ⟨w.heap.size + 1, 1, none⟩) (v := .int .i64 bn) (by go_simp)
  have c5 := keep_cell hb1 (p := ⟨w.heap.size + 1, 2, none⟩) (v := .int .i64 bb) (by go_simp)
  have c6 := keep_cell hb1 (p := ⟨w.heap.size + 1 + 1, 0, none⟩) (v := .int .i64 0) (by go_simp)
  have c7 := keep_cell hb1 (p := ⟨w.heap.size + 1 + 1, 1, none⟩) (v := .int .i64 0) (by go_simp)
  have c8 := keep_cell hb1 (p := ⟨w.heap.size + 1 + 1, 2, none⟩) (v := .int .i64 0) (by go_simp)
  have z0 := keep_frozen hb1 (p := ⟨w.heap.size + 1 + 1, 0, none⟩) (v := .int .i64 0) (by go_simp) (by go_simp)
  have z1 := keep_frozen hb1 (p := ⟨w.heap.size + 1 + 1, 1, none⟩) (v := .int .i64 0) (by go_simp) (by go_simp)
  have z2 := keep_frozen hb1 (p := ⟨w.heap.size + 1 + 1, 2, none⟩) (v := .int .i64 0) (by go_simp) (by go_simp)
  go_wp2_with fail
  exact end_V (by simp [results, Tryd.results17, go_sem, noV, c6, c7, c8, z0, z1, z2]) rfl (by repeat (first | exact Below.refl _ _ | refine bel_alloc ?_ _ | refine bel_set ?_ (by first | exact Nat.le_refl _ | (simp; done) | (simp; omega)) _ | refine Below.drew ?_ | refine bel_trans ?_ (by assumption)))

set_option maxHeartbeats 2000000 in
theorem rb_ng2 (op an bn ab bb ak bk : Int) (w : World) (ga : goodF ⟨ak, an, ab⟩ = true) (gb : goodF ⟨bk, bn, bb⟩ = false) : Calls Tryd.prog 17 #[.int .i64 op, .agg #[.int .i64 ak, .int .i64 an, .int .i64 ab], .agg #[.int .i64 bk, .int .i64 bn, .int .i64 bb]] w (retV (binF op ⟨ak, an, ab⟩ ⟨bk, bn, bb⟩).1 (binF op ⟨ak, an, ab⟩ ⟨bk, bn, bb⟩).2 w) := by
  have e : binF op ⟨ak, an, ab⟩ ⟨bk, bn, bb⟩ = (noV, false) := by simp [binF, kindF, ga, gb]
  rw [e]; clear e
  go_enter Tryd.func17, Tryd.ntmps17
  go_wp2_with fail
  refine (rgood_any _ _ _ _).mono ?_
  rintro e w1 ⟨rfl, hb1⟩
  have c0 := keep_cell hb1 (p := ⟨w.heap.size, 0, none⟩) (v := .int .i64 ak) (by go_simp)
  have c1 := keep_cell hb1 (p := ⟨w.heap.size, 1, none⟩) (v := .int .i64 an) (by go_simp)
  have c2 := keep_cell hb1 (p := ⟨w.heap.size, 2, none⟩) (v := .int .i64 ab) (by go_simp)
  have c3 := keep_cell hb1 (p := ⟨w.heap.size + 1, 0, none⟩) (v := .int .i64 bk) (by go_simp)
  have c4 := keep_cell hb1 (p := ⟨w.heap.size + 1, 1, none⟩) (v := .int .i64 bn) (by go_simp)
  have c5 := keep_cell hb1 (p := ⟨w.heap.size + 1, 2, none⟩) (v := .int .i64 bb) (by go_simp)
  have c6 := keep_cell hb1 (p := ⟨w.heap.size + 1 + 1, 0, none⟩) (v := .int .i64 0) (by go_simp)
  have c7 := keep_cell hb1 (p := ⟨w.heap.size + 1 + 1, 1, none⟩) (v := .int .i64 0) (by go_simp)
  have c8 := keep_cell hb1 (p := ⟨w.heap.size + 1 + 1, 2, none⟩) (v := .int .i64 0) (by go_simp)
  have z0 := keep_frozen hb1 (p := ⟨w.heap.size + 1 + 1, 0, none⟩) (v := .int .i64 0) (by go_simp) (by go_simp)
  have z1 := keep_frozen hb1 (p := ⟨w.heap.size + 1 + 1, 1, none⟩) (v := .int .i64 0) (by go_simp) (by go_simp)
  have z2 := keep_frozen hb1 (p := ⟨w.heap.size + 1 + 1, 2, none⟩) (v := .int .i64 0) (by go_simp) (by go_simp)
  go_wp2_with fail
  refine (rgood_any _ _ _ _).mono ?_
  rintro e w2 ⟨rfl, hb2⟩
  replace z0 := keep_frozen hb2 c6 z0
  replace z1 := keep_frozen hb2 c7 z1
  replace z2 := keep_frozen hb2 c8 z2
  replace c0 := keep_cell hb2 c0
  replace c1 := keep_cell hb2 c1
  replace c2 := keep_cell hb2 c2
  replace c3 := keep_cell hb2 c3
  replace c4 := keep_cell hb2 c4
  replace c5 := keep_cell hb2 c5
  replace c6 := keep_cell hb2 c6
  replace c7 := keep_cell hb2 c7
  replace c8 := keep_cell hb2 c8
  go_wp2_with fail
  exact end_V (by simp [results, Tryd.results17, go_sem, noV, c6, c7, c8, z0, z1, z2]) rfl (by repeat (first | exact Below.refl _ _ | refine bel_alloc ?_ _ | refine bel_set ?_ (by first | exact Nat.le_refl _ | (simp; done) | (simp; omega)) _ | refine Below.drew ?_ | refine bel_trans ?_ (by assumption)))

set_option maxHeartbeats 2000000 in
theorem rb_u1 (op an bn ab bb bk : Int) (w : World) (ga : goodF ⟨0, an, ab⟩ = true) (gb : goodF ⟨bk, bn, bb⟩ = true) : Calls Tryd.prog 17 #[.int .i64 op, .agg #[.int .i64 0, .int .i64 an, .int .i64 ab], .agg #[.int .i64 bk, .int .i64 bn, .int .i64 bb]] w (retV (binF op ⟨0, an, ab⟩ ⟨bk, bn, bb⟩).1 (binF op ⟨0, an, ab⟩ ⟨bk, bn, bb⟩).2 w) := by
  have e : binF op ⟨0, an, ab⟩ ⟨bk, bn, bb⟩ = (noV, false) := by simp [binF, kindF, ga, gb]
  rw [e]; clear e
  go_enter Tryd.func17, Tryd.ntmps17
  go_wp2_with fail
  refine (rgood_any _ _ _ _).mono ?_
  rintro e w1 ⟨rfl, hb1⟩
  have c0 := keep_cell hb1 (p := ⟨w.heap.size, 0, none⟩) (v := .int .i64 0) (by go_simp)
  have c1 := keep_cell hb1 (p := ⟨w.heap.size, 1, none⟩) (v := .int .i64 an) (by go_simp)
  have c2 := keep_cell hb1 (p := ⟨w.heap.size, 2, none⟩) (v := .int .i64 ab) (by go_simp)
  have c3 := keep_cell hb1 (p := ⟨w.heap.size + 1, 0, none⟩) (v := .int .i64 bk) (by go_simp)
  have c4 := keep_cell hb1 (p := ⟨w.heap.size + 1, 1, none⟩) (v := .int .i64 bn) (by go_simp)
  have c5 := keep_cell hb1 (p := ⟨w.heap.size + 1, 2, none⟩) (v := .int .i64 bb) (by go_simp)
  have c6 := keep_cell hb1 (p := ⟨w.heap.size + 1 + 1, 0, none⟩) (v := .int .i64 0) (by go_simp)
  have c7 := keep_cell hb1 (p := ⟨w.heap.size + 1 + 1, 1, none⟩) (v := .int .i64 0) (by go_simp)
  have c8 := keep_cell hb1 (p := ⟨w.heap.size + 1 + 1, 2, none⟩) (v := .int .i64 0) (by go_simp)
  have z0 := keep_frozen hb1 (p := ⟨w.heap.size + 1 + 1, 0, none⟩) (v := .int .i64 0) (by go_simp) (by go_simp)
  have z1 := keep_frozen hb1 (p := ⟨w.heap.size + 1 + 1, 1, none⟩) (v := .int .i64 0) (by go_simp) (by go_simp)
  have z2 := keep_frozen hb1 (p := ⟨w.heap.size + 1 + 1, 2, none⟩) (v := .int .i64 0) (by go_simp) (by go_simp)
  go_wp2_with fail
  refine (rgood_any _ _ _ _).mono ?_
  rintro e w2 ⟨rfl, hb2⟩
  replace z0 := keep_frozen hb2 c6 z0
  replace z1 := keep_frozen hb2 c7 z1
  replace z2 := keep_frozen hb2 c8 z2
  replace c0 := keep_cell hb2 c0
  replace c1 := keep_cell hb2 c1
  replace c2 := keep_cell hb2 c2
  replace c3 := keep_cell hb2 c3
  replace c4 := keep_cell hb2 c4
  replace c5 := keep_cell hb2 c5
  replace c6 := keep_cell hb2 c6
  replace c7 := keep_cell hb2 c7
  replace c8 := keep_cell hb2 c8
  go_wp2_with fail
  exact end_V (by simp [results, Tryd.results17, go_sem, noV, c6, c7, c8, z0, z1, z2]) rfl (by repeat (first | exact Below.refl _ _ | refine bel_alloc ?_ _ | refine bel_set ?_ (by first | exact Nat.le_refl _ | (simp; done) | (simp; omega)) _ | refine Below.drew ?_ | refine bel_trans ?_ (by assumption)))

set_option maxHeartbeats 2000000 in
theorem rb_u2 (op an bn ab bb ak : Int) (w : World) (ga : goodF ⟨ak, an, ab⟩ = true) (gb : goodF ⟨0, bn, bb⟩ = true) (g0 : (ak == 0) = false) : Calls Tryd.prog 17 #[.int .i64 op, .agg #[.int .i64 ak, .int .i64 an, .int .i64 ab], .agg #[.int .i64 0, .int .i64 bn, .int .i64 bb]] w (retV (binF op ⟨ak, an, ab⟩ ⟨0, bn, bb⟩).1 (binF op ⟨ak, an, ab⟩ ⟨0, bn, bb⟩).2 w) := by
  have e : binF op ⟨ak, an, ab⟩ ⟨0, bn, bb⟩ = (noV, false) := by simp [binF, kindF, ga, gb]
  rw [e]; clear e
  go_enter Tryd.func17, Tryd.ntmps17
  go_wp2_with fail
  refine (rgood_any _ _ _ _).mono ?_
  rintro e w1 ⟨rfl, hb1⟩
  have c0 := keep_cell hb1 (p := ⟨w.heap.size, 0, none⟩) (v := .int .i64 ak) (by go_simp)
  have c1 := keep_cell hb1 (p := ⟨w.heap.size, 1, none⟩) (v := .int .i64 an) (by go_simp)
  have c2 := keep_cell hb1 (p := ⟨w.heap.size, 2, none⟩) (v := .int .i64 ab) (by go_simp)
  have c3 := keep_cell hb1 (p := ⟨w.heap.size + 1, 0, none⟩) (v := .int .i64 0) (by go_simp)
  have c4 := keep_cell hb1 (p := ⟨w.heap.size + 1, 1, none⟩) (v := .int .i64 bn) (by go_simp)
  have c5 := keep_cell hb1 (p := ⟨w.heap.size + 1, 2, none⟩) (v := .int .i64 bb) (by go_simp)
  have c6 := keep_cell hb1 (p := ⟨w.heap.size + 1 + 1, 0, none⟩) (v := .int .i64 0) (by go_simp)
  have c7 := keep_cell hb1 (p := ⟨w.heap.size + 1 + 1, 1, none⟩) (v := .int .i64 0) (by go_simp)
  have c8 := keep_cell hb1 (p := ⟨w.heap.size + 1 + 1, 2, none⟩) (v := .int .i64 0) (by go_simp)
  have z0 := keep_frozen hb1 (p := ⟨w.heap.size + 1 + 1, 0, none⟩) (v := .int .i64 0) (by go_simp) (by go_simp)
  have z1 := keep_frozen hb1 (p := ⟨w.heap.size + 1 + 1, 1, none⟩) (v := .int .i64 0) (by go_simp) (by go_simp)
  have z2 := keep_frozen hb1 (p := ⟨w.heap.size + 1 + 1, 2, none⟩) (v := .int .i64 0) (by go_simp) (by go_simp)
  go_wp2_with fail
  refine (rgood_any _ _ _ _).mono ?_
  rintro e w2 ⟨rfl, hb2⟩
  replace z0 := keep_frozen hb2 c6 z0
  replace z1 := keep_frozen hb2 c7 z1
  replace z2 := keep_frozen hb2 c8 z2
  replace c0 := keep_cell hb2 c0
  replace c1 := keep_cell hb2 c1
  replace c2 := keep_cell hb2 c2
  replace c3 := keep_cell hb2 c3
  replace c4 := keep_cell hb2 c4
  replace c5 := keep_cell hb2 c5
  replace c6 := keep_cell hb2 c6
  replace c7 := keep_cell hb2 c7
  replace c8 := keep_cell hb2 c8
  go_wp2_with fail
  exact end_V (by simp [results, Tryd.results17, go_sem, noV, c6, c7, c8, z0, z1, z2]) rfl (by repeat (first | exact Below.refl _ _ | refine bel_alloc ?_ _ | refine bel_set ?_ (by first | exact Nat.le_refl _ | (simp; done) | (simp; omega)) _ | refine Below.drew ?_ | refine bel_trans ?_ (by assumption)))

set_option maxHeartbeats 2000000 in
theorem rb_ii (op an bn : Int) (w : World) (ga : goodF ⟨1, an, 0⟩ = true) (gb : goodF ⟨1, bn, 0⟩ = true) (an0 : -9223372036854775808 ≤ an) (an1 : an ≤ 9223372036854775807) (bn0 : -9223372036854775808 ≤ bn) (bn1 : bn ≤ 9223372036854775807) : Calls Tryd.prog 17 #[.int .i64 op, .agg #[.int .i64 1, .int .i64 an, .int .i64 0], .agg #[.int .i64 1, .int .i64 bn, .int .i64 0]] w (retV (binF op ⟨1, an, 0⟩ ⟨1, bn, 0⟩).1 (binF op ⟨1, an, 0⟩ ⟨1, bn, 0⟩).2 w) := by
  have e : binF op ⟨1, an, 0⟩ ⟨1, bn, 0⟩ = intsF op an bn := by simp [binF, kindF, ga, gb]
  rw [e]; clear e
  go_enter Tryd.func17, Tryd.ntmps17
  go_wp2_with fail
  refine (rgood_any _ _ _ _).mono ?_
  rintro e w1 ⟨rfl, hb1⟩
  have c0 := keep_cell hb1 (p := ⟨w.heap.size, 0, none⟩) (v := .int .i64 1) (by go_simp)
  have c1 := keep_cell hb1 (p := ⟨w.heap.size, 1, none⟩) (v := .int .i64 an) (by go_simp)
  have c2 := keep_cell hb1 (p := ⟨w.heap.size, 2, none⟩) (v := .int .i64 0) (by go_simp)
  have c3 := keep_cell hb1 (p := ⟨w.heap.size + 1, 0, none⟩) (v := .int .i64 1) (by go_simp)
  have c4 := keep_cell hb1 (p := ⟨w.heap.size + 1, 1, none⟩) (v := .int .i64 bn) (by go_simp)
  have c5 := keep_cell hb1 (p := ⟨w.heap.size + 1, 2, none⟩) (v := .int .i64 0) (by go_simp)
  have c6 := keep_cell hb1 (p := ⟨w.heap.size + 1 + 1, 0, none⟩) (v := .int .i64 0) (by go_simp)
  have c7 := keep_cell hb1 (p := ⟨w.heap.size + 1 + 1, 1, none⟩) (v := .int .i64 0) (by go_simp)
  have c8 := keep_cell hb1 (p := ⟨w.heap.size + 1 + 1, 2, none⟩) (v := .int .i64 0) (by go_simp)
  have z0 := keep_frozen hb1 (p := ⟨w.heap.size + 1 + 1, 0, none⟩) (v := .int .i64 0) (by go_simp) (by go_simp)
  have z1 := keep_frozen hb1 (p := ⟨w.heap.size + 1 + 1, 1, none⟩) (v := .int .i64 0) (by go_simp) (by go_simp)
  have z2 := keep_frozen hb1 (p := ⟨w.heap.size + 1 + 1, 2, none⟩) (v := .int .i64 0) (by go_simp) (by go_simp)
  go_wp2_with fail
  refine (rgood_any _ _ _ _).mono ?_
  rintro e w2 ⟨rfl, hb2⟩
  replace z0 := keep_frozen hb2 c6 z0
  replace z1 := keep_frozen hb2 c7 z1
  replace z2 := keep_frozen hb2 c8 z2
  replace c0 := keep_cell hb2 c0
  replace c1 := keep_cell hb2 c1
  replace c2 := keep_cell hb2 c2
  replace c3 := keep_cell hb2 c3
  replace c4 := keep_cell hb2 c4
  replace c5 := keep_cell hb2 c5
  replace c6 := keep_cell hb2 c6
  replace c7 := keep_cell hb2 c7
  replace c8 := keep_cell hb2 c8
  go_wp2_with (go_at_call 35; refine (rints_any _ _ _ _ an0 an1 bn0 bn1).mono ?_; rintro e w3 ⟨rfl, hb3⟩; replace z0 := keep_frozen hb3 c6 z0; replace z1 := keep_frozen hb3 c7 z1; replace z2 := keep_frozen hb3 c8 z2; replace c6 := keep_cell hb3 c6; replace c7 := keep_cell hb3 c7; replace c8 := keep_cell hb3 c8)
  exact end_V (by simp [results, Tryd.results17, go_sem, noV, c6, c7, c8, z0, z1, z2]) rfl (by repeat (first | exact Below.refl _ _ | refine bel_alloc ?_ _ | refine bel_set ?_ (by first | exact Nat.le_refl _ | (simp; done) | (simp; omega)) _ | refine Below.drew ?_ | refine bel_trans ?_ (by assumption)))

set_option maxHeartbeats 2000000 in
theorem rb_pi11 (an bn ab : Int) (w : World) (ga : goodF ⟨2, an, ab⟩ = true) (gb : goodF ⟨1, bn, 0⟩ = true) : Calls Tryd.prog 17 #[.int .i64 11, .agg #[.int .i64 2, .int .i64 an, .int .i64 ab], .agg #[.int .i64 1, .int .i64 bn, .int .i64 0]] w (retV (binF 11 ⟨2, an, ab⟩ ⟨1, bn, 0⟩).1 (binF 11 ⟨2, an, ab⟩ ⟨1, bn, 0⟩).2 w) := by
  have e : binF 11 ⟨2, an, ab⟩ ⟨1, bn, 0⟩ = (atF ab (wrap64 (an + bn)), true) := by simp [binF, kindF, ga, gb, pintF]
  rw [e]; clear e
  go_enter Tryd.func17, Tryd.ntmps17
  go_wp2_with fail
  refine (rgood_any _ _ _ _).mono ?_
  rintro e w1 ⟨rfl, hb1⟩
  have c0 := keep_cell hb1 (p := ⟨w.heap.size, 0, none⟩) (v := .int .i64 2) (by go_simp)
  have c1 := keep_cell hb1 (p := ⟨w.heap.size, 1, none⟩) (v := .int .i64 an) (by go_simp)
  have c2 := keep_cell hb1 (p := ⟨w.heap.size, 2, none⟩) (v := .int .i64 ab) (by go_simp)
  have c3 := keep_cell hb1 (p := ⟨w.heap.size + 1, 0, none⟩) (v := .int .i64 1) (by go_simp)
  have c4 := keep_cell hb1 (p := ⟨w.heap.size + 1, 1, none⟩) (v := .int .i64 bn) (by go_simp)
  have c5 := keep_cell hb1 (p := ⟨w.heap.size + 1, 2, none⟩) (v := .int .i64 0) (by go_simp)
  have c6 := keep_cell hb1 (p := ⟨w.heap.size + 1 + 1, 0, none⟩) (v := .int .i64 0) (by go_simp)
  have c7 := keep_cell hb1 (p := ⟨w.heap.size + 1 + 1, 1, none⟩) (v := .int .i64 0) (by go_simp)
  have c8 := keep_cell hb1 (p := ⟨w.heap.size + 1 + 1, 2, none⟩) (v := .int .i64 0) (by go_simp)
  have z0 := keep_frozen hb1 (p := ⟨w.heap.size + 1 + 1, 0, none⟩) (v := .int .i64 0) (by go_simp) (by go_simp)
  have z1 := keep_frozen hb1 (p := ⟨w.heap.size + 1 + 1, 1, none⟩) (v := .int .i64 0) (by go_simp) (by go_simp)
  have z2 := keep_frozen hb1 (p := ⟨w.heap.size + 1 + 1, 2, none⟩) (v := .int .i64 0) (by go_simp) (by go_simp)
  go_wp2_with fail
  refine (rgood_any _ _ _ _).mono ?_
  rintro e w2 ⟨rfl, hb2⟩
  replace z0 := keep_frozen hb2 c6 z0
  replace z1 := keep_frozen hb2 c7 z1
  replace z2 := keep_frozen hb2 c8 z2
  replace c0 := keep_cell hb2 c0
  replace c1 := keep_cell hb2 c1
  replace c2 := keep_cell hb2 c2
  replace c3 := keep_cell hb2 c3
  replace c4 := keep_cell hb2 c4
  replace c5 := keep_cell hb2 c5
  replace c6 := keep_cell hb2 c6
  replace c7 := keep_cell hb2 c7
  replace c8 := keep_cell hb2 c8
  go_wp2_with (go_at_call 27; refine (rat_any _ _ _).mono ?_; rintro e w3 ⟨rfl, hb3⟩; replace z0 := keep_frozen hb3 c6 z0; replace z1 := keep_frozen hb3 c7 z1; replace z2 := keep_frozen hb3 c8 z2; replace c6 := keep_cell hb3 c6; replace c7 := keep_cell hb3 c7; replace c8 := keep_cell hb3 c8)
  exact end_V (by simp [results, Tryd.results17, go_sem, noV, c6, c7, c8, z0, z1, z2]) rfl (by repeat (first | exact Below.refl _ _ | refine bel_alloc ?_ _ | refine bel_set ?_ (by first | exact Nat.le_refl _ | (simp; done) | (simp; omega)) _ | refine Below.drew ?_ | refine bel_trans ?_ (by assumption)))

set_option maxHeartbeats 2000000 in
theorem rb_pi12 (an bn ab : Int) (w : World) (ga : goodF ⟨2, an, ab⟩ = true) (gb : goodF ⟨1, bn, 0⟩ = true) : Calls Tryd.prog 17 #[.int .i64 12, .agg #[.int .i64 2, .int .i64 an, .int .i64 ab], .agg #[.int .i64 1, .int .i64 bn, .int .i64 0]] w (retV (binF 12 ⟨2, an, ab⟩ ⟨1, bn, 0⟩).1 (binF 12 ⟨2, an, ab⟩ ⟨1, bn, 0⟩).2 w) := by
  have e : binF 12 ⟨2, an, ab⟩ ⟨1, bn, 0⟩ = (atF ab (wrap64 (an - bn)), true) := by simp [binF, kindF, ga, gb, pintF]
  rw [e]; clear e
  go_enter Tryd.func17, Tryd.ntmps17
  go_wp2_with fail
  refine (rgood_any _ _ _ _).mono ?_
  rintro e w1 ⟨rfl, hb1⟩
  have c0 := keep_cell hb1 (p := ⟨w.heap.size, 0, none⟩) (v := .int .i64 2) (by go_simp)
  have c1 := keep_cell hb1 (p := ⟨w.heap.size, 1, none⟩) (v := .int .i64 an) (by go_simp)
  have c2 := keep_cell hb1 (p := ⟨w.heap.size, 2, none⟩) (v := .int .i64 ab) (by go_simp)
  have c3 := keep_cell hb1 (p := ⟨w.heap.size + 1, 0, none⟩) (v := .int .i64 1) (by go_simp)
  have c4 := keep_cell hb1 (p := ⟨w.heap.size + 1, 1, none⟩) (v := .int .i64 bn) (by go_simp)
  have c5 := keep_cell hb1 (p := ⟨w.heap.size + 1, 2, none⟩) (v := .int .i64 0) (by go_simp)
  have c6 := keep_cell hb1 (p := ⟨w.heap.size + 1 + 1, 0, none⟩) (v := .int .i64 0) (by go_simp)
  have c7 := keep_cell hb1 (p := ⟨w.heap.size + 1 + 1, 1, none⟩) (v := .int .i64 0) (by go_simp)
  have c8 := keep_cell hb1 (p := ⟨w.heap.size + 1 + 1, 2, none⟩) (v := .int .i64 0) (by go_simp)
  have z0 := keep_frozen hb1 (p := ⟨w.heap.size + 1 + 1, 0, none⟩) (v := .int .i64 0) (by go_simp) (by go_simp)
  have z1 := keep_frozen hb1 (p := ⟨w.heap.size + 1 + 1, 1, none⟩) (v := .int .i64 0) (by go_simp) (by go_simp)
  have z2 := keep_frozen hb1 (p := ⟨w.heap.size + 1 + 1, 2, none⟩) (v := .int .i64 0) (by go_simp) (by go_simp)
  go_wp2_with fail
  refine (rgood_any _ _ _ _).mono ?_
  rintro e w2 ⟨rfl, hb2⟩
  replace z0 := keep_frozen hb2 c6 z0
  replace z1 := keep_frozen hb2 c7 z1
  replace z2 := keep_frozen hb2 c8 z2
  replace c0 := keep_cell hb2 c0
  replace c1 := keep_cell hb2 c1
  replace c2 := keep_cell hb2 c2
  replace c3 := keep_cell hb2 c3
  replace c4 := keep_cell hb2 c4
  replace c5 := keep_cell hb2 c5
  replace c6 := keep_cell hb2 c6
  replace c7 := keep_cell hb2 c7
  replace c8 := keep_cell hb2 c8
  go_wp2_with (go_at_call 27; refine (rat_any _ _ _).mono ?_; rintro e w3 ⟨rfl, hb3⟩; replace z0 := keep_frozen hb3 c6 z0; replace z1 := keep_frozen hb3 c7 z1; replace z2 := keep_frozen hb3 c8 z2; replace c6 := keep_cell hb3 c6; replace c7 := keep_cell hb3 c7; replace c8 := keep_cell hb3 c8)
  exact end_V (by simp [results, Tryd.results17, go_sem, noV, c6, c7, c8, z0, z1, z2]) rfl (by repeat (first | exact Below.refl _ _ | refine bel_alloc ?_ _ | refine bel_set ?_ (by first | exact Nat.le_refl _ | (simp; done) | (simp; omega)) _ | refine Below.drew ?_ | refine bel_trans ?_ (by assumption)))

set_option maxHeartbeats 2000000 in
theorem rb_pi21z (an ab : Int) (w : World) (ga : goodF ⟨2, an, ab⟩ = true) (gb : goodF ⟨1, 0, 0⟩ = true) : Calls Tryd.prog 17 #[.int .i64 21, .agg #[.int .i64 2, .int .i64 an, .int .i64 ab], .agg #[.int .i64 1, .int .i64 0, .int .i64 0]] w (retV (binF 21 ⟨2, an, ab⟩ ⟨1, 0, 0⟩).1 (binF 21 ⟨2, an, ab⟩ ⟨1, 0, 0⟩).2 w) := by
  have e : binF 21 ⟨2, an, ab⟩ ⟨1, 0, 0⟩ = (bitF false, true) := by simp [binF, kindF, ga, gb, pintF, bitF, bitN]
  rw [e]; clear e
  go_enter Tryd.func17, Tryd.ntmps17
  go_wp2_with fail
  refine (rgood_any _ _ _ _).mono ?_
  rintro e w1 ⟨rfl, hb1⟩
  have c0 := keep_cell hb1 (p := ⟨w.heap.size, 0, none⟩) (v := .int .i64 2) (by go_simp)
  have c1 := keep_cell hb1 (p := ⟨w.heap.size, 1, none⟩) (v := .int .i64 an) (by go_simp)
  have c2 := keep_cell hb1 (p := ⟨w.heap.size, 2, none⟩) (v := .int .i64 ab) (by go_simp)
  have c3 := keep_cell hb1 (p := ⟨w.heap.size + 1, 0, none⟩) (v := .int .i64 1) (by go_simp)
  have c4 := keep_cell hb1 (p := ⟨w.heap.size + 1, 1, none⟩) (v := .int .i64 0) (by go_simp)
  have c5 := keep_cell hb1 (p := ⟨w.heap.size + 1, 2, none⟩) (v := .int .i64 0) (by go_simp)
  have c6 := keep_cell hb1 (p := ⟨w.heap.size + 1 + 1, 0, none⟩) (v := .int .i64 0) (by go_simp)
  have c7 := keep_cell hb1 (p := ⟨w.heap.size + 1 + 1, 1, none⟩) (v := .int .i64 0) (by go_simp)
  have c8 := keep_cell hb1 (p := ⟨w.heap.size + 1 + 1, 2, none⟩) (v := .int .i64 0) (by go_simp)
  have z0 := keep_frozen hb1 (p := ⟨w.heap.size + 1 + 1, 0, none⟩) (v := .int .i64 0) (by go_simp) (by go_simp)
  have z1 := keep_frozen hb1 (p := ⟨w.heap.size + 1 + 1, 1, none⟩) (v := .int .i64 0) (by go_simp) (by go_simp)
  have z2 := keep_frozen hb1 (p := ⟨w.heap.size + 1 + 1, 2, none⟩) (v := .int .i64 0) (by go_simp) (by go_simp)
  go_wp2_with fail
  refine (rgood_any _ _ _ _).mono ?_
  rintro e w2 ⟨rfl, hb2⟩
  replace z0 := keep_frozen hb2 c6 z0
  replace z1 := keep_frozen hb2 c7 z1
  replace z2 := keep_frozen hb2 c8 z2
  replace c0 := keep_cell hb2 c0
  replace c1 := keep_cell hb2 c1
  replace c2 := keep_cell hb2 c2
  replace c3 := keep_cell hb2 c3
  replace c4 := keep_cell hb2 c4
  replace c5 := keep_cell hb2 c5
  replace c6 := keep_cell hb2 c6
  replace c7 := keep_cell hb2 c7
  replace c8 := keep_cell hb2 c8
  go_wp2_with (go_at_call 36; refine (rbit_any _ _).mono ?_; rintro e w3 ⟨rfl, hb3⟩; replace z0 := keep_frozen hb3 c6 z0; replace z1 := keep_frozen hb3 c7 z1; replace z2 := keep_frozen hb3 c8 z2; replace c6 := keep_cell hb3 c6; replace c7 := keep_cell hb3 c7; replace c8 := keep_cell hb3 c8)
  exact end_V (by simp [results, Tryd.results17, go_sem, bitF, ofF, c6, c7, c8, z0, z1, z2]) rfl (by repeat (first | exact Below.refl _ _ | refine bel_alloc ?_ _ | refine bel_set ?_ (by first | exact Nat.le_refl _ | (simp; done) | (simp; omega)) _ | refine Below.drew ?_ | refine bel_trans ?_ (by assumption)))

set_option maxHeartbeats 2000000 in
theorem rb_pi21n (an bn ab : Int) (w : World) (ga : goodF ⟨2, an, ab⟩ = true) (gb : goodF ⟨1, bn, 0⟩ = true) (hn : ¬ bn = 0) (hn2 : (bn != 0) = true) : Calls Tryd.prog 17 #[.int .i64 21, .agg #[.int .i64 2, .int .i64 an, .int .i64 ab], .agg #[.int .i64 1, .int .i64 bn, .int .i64 0]] w (retV (binF 21 ⟨2, an, ab⟩ ⟨1, bn, 0⟩).1 (binF 21 ⟨2, an, ab⟩ ⟨1, bn, 0⟩).2 w) := by
  have e : binF 21 ⟨2, an, ab⟩ ⟨1, bn, 0⟩ = (noV, false) := by simp [binF, kindF, ga, gb, pintF, hn]
  rw [e]; clear e
  go_enter Tryd.func17, Tryd.ntmps17
  go_wp2_with fail
  refine (rgood_any _ _ _ _).mono ?_
  rintro e w1 ⟨rfl, hb1⟩
  have c0 := keep_cell hb1 (p := ⟨w.heap.size, 0, none⟩) (v := .int .i64 2) (by go_simp)
  have c1 := keep_cell hb1 (p := ⟨w.heap.size, 1, none⟩) (v := .int .i64 an) (by go_simp)
  have c2 := keep_cell hb1 (p := ⟨w.heap.size, 2, none⟩) (v := .int .i64 ab) (by go_simp)
  have c3 := keep_cell hb1 (p := ⟨w.heap.size + 1, 0, none⟩) (v := .int .i64 1) (by go_simp)
  have c4 := keep_cell hb1 (p := ⟨w.heap.size + 1, 1, none⟩) (v := .int .i64 bn) (by go_simp)
  have c5 := keep_cell hb1 (p := ⟨w.heap.size + 1, 2, none⟩) (v := .int .i64 0) (by go_simp)
  have c6 := keep_cell hb1 (p := ⟨w.heap.size + 1 + 1, 0, none⟩) (v := .int .i64 0) (by go_simp)
  have c7 := keep_cell hb1 (p := ⟨w.heap.size + 1 + 1, 1, none⟩) (v := .int .i64 0) (by go_simp)
  have c8 := keep_cell hb1 (p := ⟨w.heap.size + 1 + 1, 2, none⟩) (v := .int .i64 0) (by go_simp)
  have z0 := keep_frozen hb1 (p := ⟨w.heap.size + 1 + 1, 0, none⟩) (v := .int .i64 0) (by go_simp) (by go_simp)
  have z1 := keep_frozen hb1 (p := ⟨w.heap.size + 1 + 1, 1, none⟩) (v := .int .i64 0) (by go_simp) (by go_simp)
  have z2 := keep_frozen hb1 (p := ⟨w.heap.size + 1 + 1, 2, none⟩) (v := .int .i64 0) (by go_simp) (by go_simp)
  go_wp2_with fail
  refine (rgood_any _ _ _ _).mono ?_
  rintro e w2 ⟨rfl, hb2⟩
  replace z0 := keep_frozen hb2 c6 z0
  replace z1 := keep_frozen hb2 c7 z1
  replace z2 := keep_frozen hb2 c8 z2
  replace c0 := keep_cell hb2 c0
  replace c1 := keep_cell hb2 c1
  replace c2 := keep_cell hb2 c2
  replace c3 := keep_cell hb2 c3
  replace c4 := keep_cell hb2 c4
  replace c5 := keep_cell hb2 c5
  replace c6 := keep_cell hb2 c6
  replace c7 := keep_cell hb2 c7
  replace c8 := keep_cell hb2 c8
  go_wp2_with fail
  exact end_V (by simp [results, Tryd.results17, go_sem, noV, c6, c7, c8, z0, z1, z2]) rfl (by repeat (first | exact Below.refl _ _ | refine bel_alloc ?_ _ | refine bel_set ?_ (by first | exact Nat.le_refl _ | (simp; done) | (simp; omega)) _ | refine Below.drew ?_ | refine bel_trans ?_ (by assumption)))

set_option maxHeartbeats 2000000 in
theorem rb_ip21z (bn bb : Int) (w : World) (ga : goodF ⟨1, 0, 0⟩ = true) (gb : goodF ⟨2, bn, bb⟩ = true) : Calls Tryd.prog 17 #[.int .i64 21, .agg #[.int .i64 1, .int .i64 0, .int .i64 0], .agg #[.int .i64 2, .int .i64 bn, .int .i64 bb]] w (retV (binF 21 ⟨1, 0, 0⟩ ⟨2, bn, bb⟩).1 (binF 21 ⟨1, 0, 0⟩ ⟨2, bn, bb⟩).2 w) := by
  have e : binF 21 ⟨1, 0, 0⟩ ⟨2, bn, bb⟩ = (bitF false, true) := by simp [binF, kindF, ga, gb, pintF, bitF, bitN]
  rw [e]; clear e
  go_enter Tryd.func17, Tryd.ntmps17
  go_wp2_with fail
  refine (rgood_any _ _ _ _).mono ?_
  rintro e w1 ⟨rfl, hb1⟩
  have c0 := keep_cell hb1 (p := ⟨w.heap.size, 0, none⟩) (v := .int .i64 1) (by go_simp)
  have c1 := keep_cell hb1 (p := ⟨w.heap.size, 1, none⟩) (v := .int .i64 0) (by go_simp)
  have c2 := keep_cell hb1 (p := ⟨w.heap.size, 2, none⟩) (v := .int .i64 0) (by go_simp)
  have c3 := keep_cell hb1 (p := ⟨w.heap.size + 1, 0, none⟩) (v := .int .i64 2) (by go_simp)
  have c4 := keep_cell hb1 (p := ⟨w.heap.size + 1, 1, none⟩) (v := .int .i64 bn) (by go_simp)
  have c5 := keep_cell hb1 (p := ⟨w.heap.size + 1, 2, none⟩) (v := .int .i64 bb) (by go_simp)
  have c6 := keep_cell hb1 (p := ⟨w.heap.size + 1 + 1, 0, none⟩) (v := .int .i64 0) (by go_simp)
  have c7 := keep_cell hb1 (p := ⟨w.heap.size + 1 + 1, 1, none⟩) (v := .int .i64 0) (by go_simp)
  have c8 := keep_cell hb1 (p := ⟨w.heap.size + 1 + 1, 2, none⟩) (v := .int .i64 0) (by go_simp)
  have z0 := keep_frozen hb1 (p := ⟨w.heap.size + 1 + 1, 0, none⟩) (v := .int .i64 0) (by go_simp) (by go_simp)
  have z1 := keep_frozen hb1 (p := ⟨w.heap.size + 1 + 1, 1, none⟩) (v := .int .i64 0) (by go_simp) (by go_simp)
  have z2 := keep_frozen hb1 (p := ⟨w.heap.size + 1 + 1, 2, none⟩) (v := .int .i64 0) (by go_simp) (by go_simp)
  go_wp2_with fail
  refine (rgood_any _ _ _ _).mono ?_
  rintro e w2 ⟨rfl, hb2⟩
  replace z0 := keep_frozen hb2 c6 z0
  replace z1 := keep_frozen hb2 c7 z1
  replace z2 := keep_frozen hb2 c8 z2
  replace c0 := keep_cell hb2 c0
  replace c1 := keep_cell hb2 c1
  replace c2 := keep_cell hb2 c2
  replace c3 := keep_cell hb2 c3
  replace c4 := keep_cell hb2 c4
  replace c5 := keep_cell hb2 c5
  replace c6 := keep_cell hb2 c6
  replace c7 := keep_cell hb2 c7
  replace c8 := keep_cell hb2 c8
  go_wp2_with (go_at_call 36; refine (rbit_any _ _).mono ?_; rintro e w3 ⟨rfl, hb3⟩; replace z0 := keep_frozen hb3 c6 z0; replace z1 := keep_frozen hb3 c7 z1; replace z2 := keep_frozen hb3 c8 z2; replace c6 := keep_cell hb3 c6; replace c7 := keep_cell hb3 c7; replace c8 := keep_cell hb3 c8)
  exact end_V (by simp [results, Tryd.results17, go_sem, bitF, ofF, c6, c7, c8, z0, z1, z2]) rfl (by repeat (first | exact Below.refl _ _ | refine bel_alloc ?_ _ | refine bel_set ?_ (by first | exact Nat.le_refl _ | (simp; done) | (simp; omega)) _ | refine Below.drew ?_ | refine bel_trans ?_ (by assumption)))

set_option maxHeartbeats 2000000 in
theorem rb_ip21n (an bn bb : Int) (w : World) (ga : goodF ⟨1, an, 0⟩ = true) (gb : goodF ⟨2, bn, bb⟩ = true) (hn : ¬ an = 0) (hn2 : (an != 0) = true) : Calls Tryd.prog 17 #[.int .i64 21, .agg #[.int .i64 1, .int .i64 an, .int .i64 0], .agg #[.int .i64 2, .int .i64 bn, .int .i64 bb]] w (retV (binF 21 ⟨1, an, 0⟩ ⟨2, bn, bb⟩).1 (binF 21 ⟨1, an, 0⟩ ⟨2, bn, bb⟩).2 w) := by
  have e : binF 21 ⟨1, an, 0⟩ ⟨2, bn, bb⟩ = (noV, false) := by simp [binF, kindF, ga, gb, pintF, hn]
  rw [e]; clear e
  go_enter Tryd.func17, Tryd.ntmps17
  go_wp2_with fail
  refine (rgood_any _ _ _ _).mono ?_
  rintro e w1 ⟨rfl, hb1⟩
  have c0 := keep_cell hb1 (p := ⟨w.heap.size, 0, none⟩) (v := .int .i64 1) (by go_simp)
  have c1 := keep_cell hb1 (p := ⟨w.heap.size, 1, none⟩) (v := .int .i64 an) (by go_simp)
  have c2 := keep_cell hb1 (p := ⟨w.heap.size, 2, none⟩) (v := .int .i64 0) (by go_simp)
  have c3 := keep_cell hb1 (p := ⟨w.heap.size + 1, 0, none⟩) (v := .int .i64 2) (by go_simp)
  have c4 := keep_cell hb1 (p := ⟨w.heap.size + 1, 1, none⟩) (v := .int .i64 bn) (by go_simp)
  have c5 := keep_cell hb1 (p := ⟨w.heap.size + 1, 2, none⟩) (v := .int .i64 bb) (by go_simp)
  have c6 := keep_cell hb1 (p := ⟨w.heap.size + 1 + 1, 0, none⟩) (v := .int .i64 0) (by go_simp)
  have c7 := keep_cell hb1 (p := ⟨w.heap.size + 1 + 1, 1, none⟩) (v := .int .i64 0) (by go_simp)
  have c8 := keep_cell hb1 (p := ⟨w.heap.size + 1 + 1, 2, none⟩) (v := .int .i64 0) (by go_simp)
  have z0 := keep_frozen hb1 (p := ⟨w.heap.size + 1 + 1, 0, none⟩) (v := .int .i64 0) (by go_simp) (by go_simp)
  have z1 := keep_frozen hb1 (p := ⟨w.heap.size + 1 + 1, 1, none⟩) (v := .int .i64 0) (by go_simp) (by go_simp)
  have z2 := keep_frozen hb1 (p := ⟨w.heap.size + 1 + 1, 2, none⟩) (v := .int .i64 0) (by go_simp) (by go_simp)
  go_wp2_with fail
  refine (rgood_any _ _ _ _).mono ?_
  rintro e w2 ⟨rfl, hb2⟩
  replace z0 := keep_frozen hb2 c6 z0
  replace z1 := keep_frozen hb2 c7 z1
  replace z2 := keep_frozen hb2 c8 z2
  replace c0 := keep_cell hb2 c0
  replace c1 := keep_cell hb2 c1
  replace c2 := keep_cell hb2 c2
  replace c3 := keep_cell hb2 c3
  replace c4 := keep_cell hb2 c4
  replace c5 := keep_cell hb2 c5
  replace c6 := keep_cell hb2 c6
  replace c7 := keep_cell hb2 c7
  replace c8 := keep_cell hb2 c8
  go_wp2_with fail
  exact end_V (by simp [results, Tryd.results17, go_sem, noV, c6, c7, c8, z0, z1, z2]) rfl (by repeat (first | exact Below.refl _ _ | refine bel_alloc ?_ _ | refine bel_set ?_ (by first | exact Nat.le_refl _ | (simp; done) | (simp; omega)) _ | refine Below.drew ?_ | refine bel_trans ?_ (by assumption)))

set_option maxHeartbeats 2000000 in
theorem rb_pi22z (an ab : Int) (w : World) (ga : goodF ⟨2, an, ab⟩ = true) (gb : goodF ⟨1, 0, 0⟩ = true) : Calls Tryd.prog 17 #[.int .i64 22, .agg #[.int .i64 2, .int .i64 an, .int .i64 ab], .agg #[.int .i64 1, .int .i64 0, .int .i64 0]] w (retV (binF 22 ⟨2, an, ab⟩ ⟨1, 0, 0⟩).1 (binF 22 ⟨2, an, ab⟩ ⟨1, 0, 0⟩).2 w) := by
  have e : binF 22 ⟨2, an, ab⟩ ⟨1, 0, 0⟩ = (bitF true, true) := by simp [binF, kindF, ga, gb, pintF, bitF, bitN]
  rw [e]; clear e
  go_enter Tryd.func17, Tryd.ntmps17
  go_wp2_with fail
  refine (rgood_any _ _ _ _).mono ?_
  rintro e w1 ⟨rfl, hb1⟩
  have c0 := keep_cell hb1 (p := ⟨w.heap.size, 0, none⟩) (v := .int .i64 2) (by go_simp)
  have c1 := keep_cell hb1 (p := ⟨w.heap.size, 1, none⟩) (v := .int .i64 an) (by go_simp)
  have c2 := keep_cell hb1 (p := ⟨w.heap.size, 2, none⟩) (v := .int .i64 ab) (by go_simp)
  have c3 := keep_cell hb1 (p := ⟨w.heap.size + 1, 0, none⟩) (v := .int .i64 1) (by go_simp)
  have c4 := keep_cell hb1 (p := ⟨w.heap.size + 1, 1, none⟩) (v := .int .i64 0) (by go_simp)
  have c5 := keep_cell hb1 (p := ⟨w.heap.size + 1, 2, none⟩) (v := .int .i64 0) (by go_simp)
  have c6 := keep_cell hb1 (p := ⟨w.heap.size + 1 + 1, 0, none⟩) (v := .int .i64 0) (by go_simp)
  have c7 := keep_cell hb1 (p := ⟨w.heap.size + 1 + 1, 1, none⟩) (v := .int .i64 0) (by go_simp)
  have c8 := keep_cell hb1 (p := ⟨w.heap.size + 1 + 1, 2, none⟩) (v := .int .i64 0) (by go_simp)
  have z0 := keep_frozen hb1 (p := ⟨w.heap.size + 1 + 1, 0, none⟩) (v := .int .i64 0) (by go_simp) (by go_simp)
  have z1 := keep_frozen hb1 (p := ⟨w.heap.size + 1 + 1, 1, none⟩) (v := .int .i64 0) (by go_simp) (by go_simp)
  have z2 := keep_frozen hb1 (p := ⟨w.heap.size + 1 + 1, 2, none⟩) (v := .int .i64 0) (by go_simp) (by go_simp)
  go_wp2_with fail
  refine (rgood_any _ _ _ _).mono ?_
  rintro e w2 ⟨rfl, hb2⟩
  replace z0 := keep_frozen hb2 c6 z0
  replace z1 := keep_frozen hb2 c7 z1
  replace z2 := keep_frozen hb2 c8 z2
  replace c0 := keep_cell hb2 c0
  replace c1 := keep_cell hb2 c1
  replace c2 := keep_cell hb2 c2
  replace c3 := keep_cell hb2 c3
  replace c4 := keep_cell hb2 c4
  replace c5 := keep_cell hb2 c5
  replace c6 := keep_cell hb2 c6
  replace c7 := keep_cell hb2 c7
  replace c8 := keep_cell hb2 c8
  go_wp2_with (go_at_call 36; refine (rbit_any _ _).mono ?_; rintro e w3 ⟨rfl, hb3⟩; replace z0 := keep_frozen hb3 c6 z0; replace z1 := keep_frozen hb3 c7 z1; replace z2 := keep_frozen hb3 c8 z2; replace c6 := keep_cell hb3 c6; replace c7 := keep_cell hb3 c7; replace c8 := keep_cell hb3 c8)
  exact end_V (by simp [results, Tryd.results17, go_sem, bitF, ofF, c6, c7, c8, z0, z1, z2]) rfl (by repeat (first | exact Below.refl _ _ | refine bel_alloc ?_ _ | refine bel_set ?_ (by first | exact Nat.le_refl _ | (simp; done) | (simp; omega)) _ | refine Below.drew ?_ | refine bel_trans ?_ (by assumption)))

set_option maxHeartbeats 2000000 in
theorem rb_pi22n (an bn ab : Int) (w : World) (ga : goodF ⟨2, an, ab⟩ = true) (gb : goodF ⟨1, bn, 0⟩ = true) (hn : ¬ bn = 0) (hn2 : (bn != 0) = true) : Calls Tryd.prog 17 #[.int .i64 22, .agg #[.int .i64 2, .int .i64 an, .int .i64 ab], .agg #[.int .i64 1, .int .i64 bn, .int .i64 0]] w (retV (binF 22 ⟨2, an, ab⟩ ⟨1, bn, 0⟩).1 (binF 22 ⟨2, an, ab⟩ ⟨1, bn, 0⟩).2 w) := by
  have e : binF 22 ⟨2, an, ab⟩ ⟨1, bn, 0⟩ = (noV, false) := by simp [binF, kindF, ga, gb, pintF, hn]
  rw [e]; clear e
  go_enter Tryd.func17, Tryd.ntmps17
  go_wp2_with fail
  refine (rgood_any _ _ _ _).mono ?_
  rintro e w1 ⟨rfl, hb1⟩
  have c0 := keep_cell hb1 (p := ⟨w.heap.size, 0, none⟩) (v := .int .i64 2) (by go_simp)
  have c1 := keep_cell hb1 (p := ⟨w.heap.size, 1, none⟩) (v := .int .i64 an) (by go_simp)
  have c2 := keep_cell hb1 (p := ⟨w.heap.size, 2, none⟩) (v := .int .i64 ab) (by go_simp)
  have c3 := keep_cell hb1 (p := ⟨w.heap.size + 1, 0, none⟩) (v := .int .i64 1) (by go_simp)
  have c4 := keep_cell hb1 (p := ⟨w.heap.size + 1, 1, none⟩) (v := .int .i64 bn) (by go_simp)
  have c5 := keep_cell hb1 (p := ⟨w.heap.size + 1, 2, none⟩) (v := .int .i64 0) (by go_simp)
  have c6 := keep_cell hb1 (p := ⟨w.heap.size + 1 + 1, 0, none⟩) (v := .int .i64 0) (by go_simp)
  have c7 := keep_cell hb1 (p := ⟨w.heap.size + 1 + 1, 1, none⟩) (v := .int .i64 0) (by go_simp)
  have c8 := keep_cell hb1 (p := ⟨w.heap.size + 1 + 1, 2, none⟩) (v := .int .i64 0) (by go_simp)
  have z0 := keep_frozen hb1 (p := ⟨w.heap.size + 1 + 1, 0, none⟩) (v := .int .i64 0) (by go_simp) (by go_simp)
  have z1 := keep_frozen hb1 (p := ⟨w.heap.size + 1 + 1, 1, none⟩) (v := .int .i64 0) (by go_simp) (by go_simp)
  have z2 := keep_frozen hb1 (p := ⟨w.heap.size + 1 + 1, 2, none⟩) (v := .int .i64 0) (by go_simp) (by go_simp)
  go_wp2_with fail
  refine (rgood_any _ _ _ _).mono ?_
  rintro e w2 ⟨rfl, hb2⟩
  replace z0 := keep_frozen hb2 c6 z0
  replace z1 := keep_frozen hb2 c7 z1
  replace z2 := keep_frozen hb2 c8 z2
  replace c0 := keep_cell hb2 c0
  replace c1 := keep_cell hb2 c1
  replace c2 := keep_cell hb2 c2
  replace c3 := keep_cell hb2 c3
  replace c4 := keep_cell hb2 c4
  replace c5 := keep_cell hb2 c5
  replace c6 := keep_cell hb2 c6
  replace c7 := keep_cell hb2 c7
  replace c8 := keep_cell hb2 c8
  go_wp2_with fail
  exact end_V (by simp [results, Tryd.results17, go_sem, noV, c6, c7, c8, z0, z1, z2]) rfl (by repeat (first | exact Below.refl _ _ | refine bel_alloc ?_ _ | refine bel_set ?_ (by first | exact Nat.le_refl _ | (simp; done) | (simp; omega)) _ | refine Below.drew ?_ | refine bel_trans ?_ (by assumption)))

set_option maxHeartbeats 2000000 in
theorem rb_ip22z (bn bb : Int) (w : World) (ga : goodF ⟨1, 0, 0⟩ = true) (gb : goodF ⟨2, bn, bb⟩ = true) : Calls Tryd.prog 17 #[.int .i64 22, .agg #[.int .i64 1, .int .i64 0, .int .i64 0], .agg #[.int .i64 2, .int .i64 bn, .int .i64 bb]] w (retV (binF 22 ⟨1, 0, 0⟩ ⟨2, bn, bb⟩).1 (binF 22 ⟨1, 0, 0⟩ ⟨2, bn, bb⟩).2 w) := by
  have e : binF 22 ⟨1, 0, 0⟩ ⟨2, bn, bb⟩ = (bitF true, true) := by simp [binF, kindF, ga, gb, pintF, bitF, bitN]
  rw [e]; clear e
  go_enter Tryd.func17, Tryd.ntmps17
  go_wp2_with fail
  refine (rgood_any _ _ _ _).mono ?_
  rintro e w1 ⟨rfl, hb1⟩
  have c0 := keep_cell hb1 (p := ⟨w.heap.size, 0, none⟩) (v := .int .i64 1) (by go_simp)
  have c1 := keep_cell hb1 (p := ⟨w.heap.size, 1, none⟩) (v := .int .i64 0) (by go_simp)
  have c2 := keep_cell hb1 (p := ⟨w.heap.size, 2, none⟩) (v := .int .i64 0) (by go_simp)
  have c3 := keep_cell hb1 (p := ⟨w.heap.size + 1, 0, none⟩) (v := .int .i64 2) (by go_simp)
  have c4 := keep_cell hb1 (p := ⟨w.heap.size + 1, 1, none⟩) (v := .int .i64 bn) (by go_simp)
  have c5 := keep_cell hb1 (p := ⟨w.heap.size + 1, 2, none⟩) (v := .int .i64 bb) (by go_simp)
  have c6 := keep_cell hb1 (p := ⟨w.heap.size + 1 + 1, 0, none⟩) (v := .int .i64 0) (by go_simp)
  have c7 := keep_cell hb1 (p := ⟨w.heap.size + 1 + 1, 1, none⟩) (v := .int .i64 0) (by go_simp)
  have c8 := keep_cell hb1 (p := ⟨w.heap.size + 1 + 1, 2, none⟩) (v := .int .i64 0) (by go_simp)
  have z0 := keep_frozen hb1 (p := ⟨w.heap.size + 1 + 1, 0, none⟩) (v := .int .i64 0) (by go_simp) (by go_simp)
  have z1 := keep_frozen hb1 (p := ⟨w.heap.size + 1 + 1, 1, none⟩) (v := .int .i64 0) (by go_simp) (by go_simp)
  have z2 := keep_frozen hb1 (p := ⟨w.heap.size + 1 + 1, 2, none⟩) (v := .int .i64 0) (by go_simp) (by go_simp)
  go_wp2_with fail
  refine (rgood_any _ _ _ _).mono ?_
  rintro e w2 ⟨rfl, hb2⟩
  replace z0 := keep_frozen hb2 c6 z0
  replace z1 := keep_frozen hb2 c7 z1
  replace z2 := keep_frozen hb2 c8 z2
  replace c0 := keep_cell hb2 c0
  replace c1 := keep_cell hb2 c1
  replace c2 := keep_cell hb2 c2
  replace c3 := keep_cell hb2 c3
  replace c4 := keep_cell hb2 c4
  replace c5 := keep_cell hb2 c5
  replace c6 := keep_cell hb2 c6
  replace c7 := keep_cell hb2 c7
  replace c8 := keep_cell hb2 c8
  go_wp2_with (go_at_call 36; refine (rbit_any _ _).mono ?_; rintro e w3 ⟨rfl, hb3⟩; replace z0 := keep_frozen hb3 c6 z0; replace z1 := keep_frozen hb3 c7 z1; replace z2 := keep_frozen hb3 c8 z2; replace c6 := keep_cell hb3 c6; replace c7 := keep_cell hb3 c7; replace c8 := keep_cell hb3 c8)
  exact end_V (by simp [results, Tryd.results17, go_sem, bitF, ofF, c6, c7, c8, z0, z1, z2]) rfl (by repeat (first | exact Below.refl _ _ | refine bel_alloc ?_ _ | refine bel_set ?_ (by first | exact Nat.le_refl _ | (simp; done) | (simp; omega)) _ | refine Below.drew ?_ | refine bel_trans ?_ (by assumption)))

set_option maxHeartbeats 2000000 in
theorem rb_ip22n (an bn bb : Int) (w : World) (ga : goodF ⟨1, an, 0⟩ = true) (gb : goodF ⟨2, bn, bb⟩ = true) (hn : ¬ an = 0) (hn2 : (an != 0) = true) : Calls Tryd.prog 17 #[.int .i64 22, .agg #[.int .i64 1, .int .i64 an, .int .i64 0], .agg #[.int .i64 2, .int .i64 bn, .int .i64 bb]] w (retV (binF 22 ⟨1, an, 0⟩ ⟨2, bn, bb⟩).1 (binF 22 ⟨1, an, 0⟩ ⟨2, bn, bb⟩).2 w) := by
  have e : binF 22 ⟨1, an, 0⟩ ⟨2, bn, bb⟩ = (noV, false) := by simp [binF, kindF, ga, gb, pintF, hn]
  rw [e]; clear e
  go_enter Tryd.func17, Tryd.ntmps17
  go_wp2_with fail
  refine (rgood_any _ _ _ _).mono ?_
  rintro e w1 ⟨rfl, hb1⟩
  have c0 := keep_cell hb1 (p := ⟨w.heap.size, 0, none⟩) (v := .int .i64 1) (by go_simp)
  have c1 := keep_cell hb1 (p := ⟨w.heap.size, 1, none⟩) (v := .int .i64 an) (by go_simp)
  have c2 := keep_cell hb1 (p := ⟨w.heap.size, 2, none⟩) (v := .int .i64 0) (by go_simp)
  have c3 := keep_cell hb1 (p := ⟨w.heap.size + 1, 0, none⟩) (v := .int .i64 2) (by go_simp)
  have c4 := keep_cell hb1 (p := ⟨w.heap.size + 1, 1, none⟩) (v := .int .i64 bn) (by go_simp)
  have c5 := keep_cell hb1 (p := ⟨w.heap.size + 1, 2, none⟩) (v := .int .i64 bb) (by go_simp)
  have c6 := keep_cell hb1 (p := ⟨w.heap.size + 1 + 1, 0, none⟩) (v := .int .i64 0) (by go_simp)
  have c7 := keep_cell hb1 (p := ⟨w.heap.size + 1 + 1, 1, none⟩) (v := .int .i64 0) (by go_simp)
  have c8 := keep_cell hb1 (p := ⟨w.heap.size + 1 + 1, 2, none⟩) (v := .int .i64 0) (by go_simp)
  have z0 := keep_frozen hb1 (p := ⟨w.heap.size + 1 + 1, 0, none⟩) (v := .int .i64 0) (by go_simp) (by go_simp)
  have z1 := keep_frozen hb1 (p := ⟨w.heap.size + 1 + 1, 1, none⟩) (v := .int .i64 0) (by go_simp) (by go_simp)
  have z2 := keep_frozen hb1 (p := ⟨w.heap.size + 1 + 1, 2, none⟩) (v := .int .i64 0) (by go_simp) (by go_simp)
  go_wp2_with fail
  refine (rgood_any _ _ _ _).mono ?_
  rintro e w2 ⟨rfl, hb2⟩
  replace z0 := keep_frozen hb2 c6 z0
  replace z1 := keep_frozen hb2 c7 z1
  replace z2 := keep_frozen hb2 c8 z2
  replace c0 := keep_cell hb2 c0
  replace c1 := keep_cell hb2 c1
  replace c2 := keep_cell hb2 c2
  replace c3 := keep_cell hb2 c3
  replace c4 := keep_cell hb2 c4
  replace c5 := keep_cell hb2 c5
  replace c6 := keep_cell hb2 c6
  replace c7 := keep_cell hb2 c7
  replace c8 := keep_cell hb2 c8
  go_wp2_with fail
  exact end_V (by simp [results, Tryd.results17, go_sem, noV, c6, c7, c8, z0, z1, z2]) rfl (by repeat (first | exact Below.refl _ _ | refine bel_alloc ?_ _ | refine bel_set ?_ (by first | exact Nat.le_refl _ | (simp; done) | (simp; omega)) _ | refine Below.drew ?_ | refine bel_trans ?_ (by assumption)))

set_option maxHeartbeats 2000000 in
theorem rb_pix (op an bn ab : Int) (w : World) (ga : goodF ⟨2, an, ab⟩ = true) (gb : goodF ⟨1, bn, 0⟩ = true) (h11 : ¬ op = 11) (g11 : (op == 11) = false) (m11 : (op != 11) = true) (h12 : ¬ op = 12) (g12 : (op == 12) = false) (m12 : (op != 12) = true) (h21 : ¬ op = 21) (g21 : (op == 21) = false) (m21 : (op != 21) = true) (h22 : ¬ op = 22) (g22 : (op == 22) = false) (m22 : (op != 22) = true) : Calls Tryd.prog 17 #[.int .i64 op, .agg #[.int .i64 2, .int .i64 an, .int .i64 ab], .agg #[.int .i64 1, .int .i64 bn, .int .i64 0]] w (retV (binF op ⟨2, an, ab⟩ ⟨1, bn, 0⟩).1 (binF op ⟨2, an, ab⟩ ⟨1, bn, 0⟩).2 w) := by
  have e : binF op ⟨2, an, ab⟩ ⟨1, bn, 0⟩ = (noV, false) := by simp [binF, kindF, ga, gb, pintF, h11, h12, h21, h22]
  rw [e]; clear e
  go_enter Tryd.func17, Tryd.ntmps17
  go_wp2_with fail
  refine (rgood_any _ _ _ _).mono ?_
  rintro e w1 ⟨rfl, hb1⟩
  have c0 := keep_cell hb1 (p := ⟨w.heap.size, 0, none⟩) (v := .int .i64 2) (by go_simp)
  have c1 := keep_cell hb1 (p := ⟨w.heap.size, 1, none⟩) (v := .int .i64 an) (by go_simp)
  have c2 := keep_cell hb1 (p := ⟨w.heap.size, 2, none⟩) (v := .int .i64 ab) (by go_simp)
  have c3 := keep_cell hb1 (p := ⟨w.heap.size + 1, 0, none⟩) (v := .int .i64 1) (by go_simp)
  have c4 := keep_cell hb1 (p := ⟨w.heap.size + 1, 1, none⟩) (v := .int .i64 bn) (by go_simp)
  have c5 := keep_cell hb1 (p := ⟨w.heap.size + 1, 2, none⟩) (v := .int .i64 0) (by go_simp)
  have c6 := keep_cell hb1 (p := ⟨w.heap.size + 1 + 1, 0, none⟩) (v := .int .i64 0) (by go_simp)
  have c7 := keep_cell hb1 (p := ⟨w.heap.size + 1 + 1, 1, none⟩) (v := .int .i64 0) (by go_simp)
  have c8 := keep_cell hb1 (p := ⟨w.heap.size + 1 + 1, 2, none⟩) (v := .int .i64 0) (by go_simp)
  have z0 := keep_frozen hb1 (p := ⟨w.heap.size + 1 + 1, 0, none⟩) (v := .int .i64 0) (by go_simp) (by go_simp)
  have z1 := keep_frozen hb1 (p := ⟨w.heap.size + 1 + 1, 1, none⟩) (v := .int .i64 0) (by go_simp) (by go_simp)
  have z2 := keep_frozen hb1 (p := ⟨w.heap.size + 1 + 1, 2, none⟩) (v := .int .i64 0) (by go_simp) (by go_simp)
  go_wp2_with fail
  refine (rgood_any _ _ _ _).mono ?_
  rintro e w2 ⟨rfl, hb2⟩
  replace z0 := keep_frozen hb2 c6 z0
  replace z1 := keep_frozen hb2 c7 z1
  replace z2 := keep_frozen hb2 c8 z2
  replace c0 := keep_cell hb2 c0
  replace c1 := keep_cell hb2 c1
  replace c2 := keep_cell hb2 c2
  replace c3 := keep_cell hb2 c3
  replace c4 := keep_cell hb2 c4
  replace c5 := keep_cell hb2 c5
  replace c6 := keep_cell hb2 c6
  replace c7 := keep_cell hb2 c7
  replace c8 := keep_cell hb2 c8
  go_wp2_with fail
  exact end_V (by simp [results, Tryd.results17, go_sem, noV, c6, c7, c8, z0, z1, z2]) rfl (by repeat (first | exact Below.refl _ _ | refine bel_alloc ?_ _ | refine bel_set ?_ (by first | exact Nat.le_refl _ | (simp; done) | (simp; omega)) _ | refine Below.drew ?_ | refine bel_trans ?_ (by assumption)))

set_option maxHeartbeats 2000000 in
theorem rb_ip11 (an bn bb : Int) (w : World) (ga : goodF ⟨1, an, 0⟩ = true) (gb : goodF ⟨2, bn, bb⟩ = true) : Calls Tryd.prog 17 #[.int .i64 11, .agg #[.int .i64 1, .int .i64 an, .int .i64 0], .agg #[.int .i64 2, .int .i64 bn, .int .i64 bb]] w (retV (binF 11 ⟨1, an, 0⟩ ⟨2, bn, bb⟩).1 (binF 11 ⟨1, an, 0⟩ ⟨2, bn, bb⟩).2 w) := by
  have e : binF 11 ⟨1, an, 0⟩ ⟨2, bn, bb⟩ = (atF bb (wrap64 (an + bn)), true) := by simp [binF, kindF, ga, gb, pintF, Int.add_comm]
  rw [e]; clear e
  go_enter Tryd.func17, Tryd.ntmps17
  go_wp2_with fail
  refine (rgood_any _ _ _ _).mono ?_
  rintro e w1 ⟨rfl, hb1⟩
  have c0 := keep_cell hb1 (p := ⟨w.heap.size, 0, none⟩) (v := .int .i64 1) (by go_simp)
  have c1 := keep_cell hb1 (p := ⟨w.heap.size, 1, none⟩) (v := .int .i64 an) (by go_simp)
  have c2 := keep_cell hb1 (p := ⟨w.heap.size, 2, none⟩) (v := .int .i64 0) (by go_simp)
  have c3 := keep_cell hb1 (p := ⟨w.heap.size + 1, 0, none⟩) (v := .int .i64 2) (by go_simp)
  have c4 := keep_cell hb1 (p := ⟨w.heap.size + 1, 1, none⟩) (v := .int .i64 bn) (by go_simp)
  have c5 := keep_cell hb1 (p := ⟨w.heap.size + 1, 2, none⟩) (v := .int .i64 bb) (by go_simp)
  have c6 := keep_cell hb1 (p := ⟨w.heap.size + 1 + 1, 0, none⟩) (v := .int .i64 0) (by go_simp)
  have c7 := keep_cell hb1 (p := ⟨w.heap.size + 1 + 1, 1, none⟩) (v := .int .i64 0) (by go_simp)
  have c8 := keep_cell hb1 (p := ⟨w.heap.size + 1 + 1, 2, none⟩) (v := .int .i64 0) (by go_simp)
  have z0 := keep_frozen hb1 (p := ⟨w.heap.size + 1 + 1, 0, none⟩) (v := .int .i64 0) (by go_simp) (by go_simp)
  have z1 := keep_frozen hb1 (p := ⟨w.heap.size + 1 + 1, 1, none⟩) (v := .int .i64 0) (by go_simp) (by go_simp)
  have z2 := keep_frozen hb1 (p := ⟨w.heap.size + 1 + 1, 2, none⟩) (v := .int .i64 0) (by go_simp) (by go_simp)
  go_wp2_with fail
  refine (rgood_any _ _ _ _).mono ?_
  rintro e w2 ⟨rfl, hb2⟩
  replace z0 := keep_frozen hb2 c6 z0
  replace z1 := keep_frozen hb2 c7 z1
  replace z2 := keep_frozen hb2 c8 z2
  replace c0 := keep_cell hb2 c0
  replace c1 := keep_cell hb2 c1
  replace c2 := keep_cell hb2 c2
  replace c3 := keep_cell hb2 c3
  replace c4 := keep_cell hb2 c4
  replace c5 := keep_cell hb2 c5
  replace c6 := keep_cell hb2 c6
  replace c7 := keep_cell hb2 c7
  replace c8 := keep_cell hb2 c8
  go_wp2_with (go_at_call 27; refine (rat_any _ _ _).mono ?_; rintro e w3 ⟨rfl, hb3⟩; replace z0 := keep_frozen hb3 c6 z0; replace z1 := keep_frozen hb3 c7 z1; replace z2 := keep_frozen hb3 c8 z2; replace c6 := keep_cell hb3 c6; replace c7 := keep_cell hb3 c7; replace c8 := keep_cell hb3 c8)
  exact end_V (by simp [results, Tryd.results17, go_sem, noV, c6, c7, c8, z0, z1, z2]) rfl (by repeat (first | exact Below.refl _ _ | refine bel_alloc ?_ _ | refine bel_set ?_ (by first | exact Nat.le_refl _ | (simp; done) | (simp; omega)) _ | refine Below.drew ?_ | refine bel_trans ?_ (by assumption)))

set_option maxHeartbeats 2000000 in
theorem rb_ip12 (an bn bb : Int) (w : World) (ga : goodF ⟨1, an, 0⟩ = true) (gb : goodF ⟨2, bn, bb⟩ = true) : Calls Tryd.prog 17 #[.int .i64 12, .agg #[.int .i64 1, .int .i64 an, .int .i64 0], .agg #[.int .i64 2, .int .i64 bn, .int .i64 bb]] w (retV (binF 12 ⟨1, an, 0⟩ ⟨2, bn, bb⟩).1 (binF 12 ⟨1, an, 0⟩ ⟨2, bn, bb⟩).2 w) := by
  have e : binF 12 ⟨1, an, 0⟩ ⟨2, bn, bb⟩ = (noV, false) := by simp [binF, kindF, ga, gb]
  rw [e]; clear e
  go_enter Tryd.func17, Tryd.ntmps17
  go_wp2_with fail
  refine (rgood_any _ _ _ _).mono ?_
  rintro e w1 ⟨rfl, hb1⟩
  have c0 := keep_cell hb1 (p := ⟨w.heap.size, 0, none⟩) (v := .int .i64 1) (by go_simp)
  have c1 := keep_cell hb1 (p := ⟨w.heap.size, 1, none⟩) (v := .int .i64 an) (by go_simp)
  have c2 := keep_cell hb1 (p := ⟨w.heap.size, 2, none⟩) (v := .int .i64 0) (by go_simp)
  have c3 := keep_cell hb1 (p := ⟨w.heap.size + 1, 0, none⟩) (v := .int .i64 2) (by go_simp)
  have c4 := keep_cell hb1 (p := ⟨w.heap.size + 1, 1, none⟩) (v := .int .i64 bn) (by go_simp)
  have c5 := keep_cell hb1 (p := ⟨w.heap.size + 1, 2, none⟩) (v := .int .i64 bb) (by go_simp)
  have c6 := keep_cell hb1 (p := ⟨w.heap.size + 1 + 1, 0, none⟩) (v := .int .i64 0) (by go_simp)
  have c7 := keep_cell hb1 (p := ⟨w.heap.size + 1 + 1, 1, none⟩) (v := .int .i64 0) (by go_simp)
  have c8 := keep_cell hb1 (p := ⟨w.heap.size + 1 + 1, 2, none⟩) (v := .int .i64 0) (by go_simp)
  have z0 := keep_frozen hb1 (p := ⟨w.heap.size + 1 + 1, 0, none⟩) (v := .int .i64 0) (by go_simp) (by go_simp)
  have z1 := keep_frozen hb1 (p := ⟨w.heap.size + 1 + 1, 1, none⟩) (v := .int .i64 0) (by go_simp) (by go_simp)
  have z2 := keep_frozen hb1 (p := ⟨w.heap.size + 1 + 1, 2, none⟩) (v := .int .i64 0) (by go_simp) (by go_simp)
  go_wp2_with fail
  refine (rgood_any _ _ _ _).mono ?_
  rintro e w2 ⟨rfl, hb2⟩
  replace z0 := keep_frozen hb2 c6 z0
  replace z1 := keep_frozen hb2 c7 z1
  replace z2 := keep_frozen hb2 c8 z2
  replace c0 := keep_cell hb2 c0
  replace c1 := keep_cell hb2 c1
  replace c2 := keep_cell hb2 c2
  replace c3 := keep_cell hb2 c3
  replace c4 := keep_cell hb2 c4
  replace c5 := keep_cell hb2 c5
  replace c6 := keep_cell hb2 c6
  replace c7 := keep_cell hb2 c7
  replace c8 := keep_cell hb2 c8
  go_wp2_with fail
  exact end_V (by simp [results, Tryd.results17, go_sem, noV, c6, c7, c8, z0, z1, z2]) rfl (by repeat (first | exact Below.refl _ _ | refine bel_alloc ?_ _ | refine bel_set ?_ (by first | exact Nat.le_refl _ | (simp; done) | (simp; omega)) _ | refine Below.drew ?_ | refine bel_trans ?_ (by assumption)))

set_option maxHeartbeats 2000000 in
theorem rb_ipx (op an bn bb : Int) (w : World) (ga : goodF ⟨1, an, 0⟩ = true) (gb : goodF ⟨2, bn, bb⟩ = true) (h11 : ¬ op = 11) (g11 : (op == 11) = false) (m11 : (op != 11) = true) (h12 : ¬ op = 12) (g12 : (op == 12) = false) (m12 : (op != 12) = true) (h21 : ¬ op = 21) (g21 : (op == 21) = false) (m21 : (op != 21) = true) (h22 : ¬ op = 22) (g22 : (op == 22) = false) (m22 : (op != 22) = true) : Calls Tryd.prog 17 #[.int .i64 op, .agg #[.int .i64 1, .int .i64 an, .int .i64 0], .agg #[.int .i64 2, .int .i64 bn, .int .i64 bb]] w (retV (binF op ⟨1, an, 0⟩ ⟨2, bn, bb⟩).1 (binF op ⟨1, an, 0⟩ ⟨2, bn, bb⟩).2 w) := by
  have e : binF op ⟨1, an, 0⟩ ⟨2, bn, bb⟩ = (noV, false) := by simp [binF, kindF, ga, gb, pintF, h11, h12, h21, h22]
  rw [e]; clear e
  go_enter Tryd.func17, Tryd.ntmps17
  go_wp2_with fail
  refine (rgood_any _ _ _ _).mono ?_
  rintro e w1 ⟨rfl, hb1⟩
  have c0 := keep_cell hb1 (p := ⟨w.heap.size, 0, none⟩) (v := .int .i64 1) (by go_simp)
  have c1 := keep_cell hb1 (p := ⟨w.heap.size, 1, none⟩) (v := .int .i64 an) (by go_simp)
  have c2 := keep_cell hb1 (p := ⟨w.heap.size, 2, none⟩) (v := .int .i64 0) (by go_simp)
  have c3 := keep_cell hb1 (p := ⟨w.heap.size + 1, 0, none⟩) (v := .int .i64 2) (by go_simp)
  have c4 := keep_cell hb1 (p := ⟨w.heap.size + 1, 1, none⟩) (v := .int .i64 bn) (by go_simp)
  have c5 := keep_cell hb1 (p := ⟨w.heap.size + 1, 2, none⟩) (v := .int .i64 bb) (by go_simp)
  have c6 := keep_cell hb1 (p := ⟨w.heap.size + 1 + 1, 0, none⟩) (v := .int .i64 0) (by go_simp)
  have c7 := keep_cell hb1 (p := ⟨w.heap.size + 1 + 1, 1, none⟩) (v := .int .i64 0) (by go_simp)
  have c8 := keep_cell hb1 (p := ⟨w.heap.size + 1 + 1, 2, none⟩) (v := .int .i64 0) (by go_simp)
  have z0 := keep_frozen hb1 (p := ⟨w.heap.size + 1 + 1, 0, none⟩) (v := .int .i64 0) (by go_simp) (by go_simp)
  have z1 := keep_frozen hb1 (p := ⟨w.heap.size + 1 + 1, 1, none⟩) (v := .int .i64 0) (by go_simp) (by go_simp)
  have z2 := keep_frozen hb1 (p := ⟨w.heap.size + 1 + 1, 2, none⟩) (v := .int .i64 0) (by go_simp) (by go_simp)
  go_wp2_with fail
  refine (rgood_any _ _ _ _).mono ?_
  rintro e w2 ⟨rfl, hb2⟩
  replace z0 := keep_frozen hb2 c6 z0
  replace z1 := keep_frozen hb2 c7 z1
  replace z2 := keep_frozen hb2 c8 z2
  replace c0 := keep_cell hb2 c0
  replace c1 := keep_cell hb2 c1
  replace c2 := keep_cell hb2 c2
  replace c3 := keep_cell hb2 c3
  replace c4 := keep_cell hb2 c4
  replace c5 := keep_cell hb2 c5
  replace c6 := keep_cell hb2 c6
  replace c7 := keep_cell hb2 c7
  replace c8 := keep_cell hb2 c8
  go_wp2_with fail
  exact end_V (by simp [results, Tryd.results17, go_sem, noV, c6, c7, c8, z0, z1, z2]) rfl (by repeat (first | exact Below.refl _ _ | refine bel_alloc ?_ _ | refine bel_set ?_ (by first | exact Nat.le_refl _ | (simp; done) | (simp; omega)) _ | refine Below.drew ?_ | refine bel_trans ?_ (by assumption)))

set_option maxHeartbeats 2000000 in
theorem rb_pp11 (an bn ab bb : Int) (w : World) (ga : goodF ⟨2, an, ab⟩ = true) (gb : goodF ⟨2, bn, bb⟩ = true) : Calls Tryd.prog 17 #[.int .i64 11, .agg #[.int .i64 2, .int .i64 an, .int .i64 ab], .agg #[.int .i64 2, .int .i64 bn, .int .i64 bb]] w (retV (binF 11 ⟨2, an, ab⟩ ⟨2, bn, bb⟩).1 (binF 11 ⟨2, an, ab⟩ ⟨2, bn, bb⟩).2 w) := by
  have e : binF 11 ⟨2, an, ab⟩ ⟨2, bn, bb⟩ = (noV, false) := by simp [binF, kindF, ga, gb, ptrsF]
  rw [e]; clear e
  go_enter Tryd.func17, Tryd.ntmps17
  go_wp2_with fail
  refine (rgood_any _ _ _ _).mono ?_
  rintro e w1 ⟨rfl, hb1⟩
  have c0 := keep_cell hb1 (p := ⟨w.heap.size, 0, none⟩) (v := .int .i64 2) (by go_simp)
  have c1 := keep_cell hb1 (p := ⟨w.heap.size, 1, none⟩) (v := .int .i64 an) (by go_simp)
  have c2 := keep_cell hb1 (p := ⟨w.heap.size, 2, none⟩) (v := .int .i64 ab) (by go_simp)
  have c3 := keep_cell hb1 (p := ⟨w.heap.size + 1, 0, none⟩) (v := .int .i64 2) (by go_simp)
  have c4 := keep_cell hb1 (p := ⟨w.heap.size + 1, 1, none⟩) (v := .int .i64 bn) (by go_simp)
  have c5 := keep_cell hb1 (p := ⟨w.heap.size + 1, 2, none⟩) (v := .int .i64 bb) (by go_simp)
  have c6 := keep_cell hb1 (p := ⟨w.heap.size + 1 + 1, 0, none⟩) (v := .int .i64 0) (by go_simp)
  have c7 := keep_cell hb1 (p := ⟨w.heap.size + 1 + 1, 1, none⟩) (v := .int .i64 0) (by go_simp)
  have c8 := keep_cell hb1 (p := ⟨w.heap.size + 1 + 1, 2, none⟩) (v := .int .i64 0) (by go_simp)
  have z0 := keep_frozen hb1 (p := ⟨w.heap.size + 1 + 1, 0, none⟩) (v := .int .i64 0) (by go_simp) (by go_simp)
  have z1 := keep_frozen hb1 (p := ⟨w.heap.size + 1 + 1, 1, none⟩) (v := .int .i64 0) (by go_simp) (by go_simp)
  have z2 := keep_frozen hb1 (p := ⟨w.heap.size + 1 + 1, 2, none⟩) (v := .int .i64 0) (by go_simp) (by go_simp)
  go_wp2_with fail
  refine (rgood_any _ _ _ _).mono ?_
  rintro e w2 ⟨rfl, hb2⟩
  replace z0 := keep_frozen hb2 c6 z0
  replace z1 := keep_frozen hb2 c7 z1
  replace z2 := keep_frozen hb2 c8 z2
  replace c0 := keep_cell hb2 c0
  replace c1 := keep_cell hb2 c1
  replace c2 := keep_cell hb2 c2
  replace c3 := keep_cell hb2 c3
  replace c4 := keep_cell hb2 c4
  replace c5 := keep_cell hb2 c5
  replace c6 := keep_cell hb2 c6
  replace c7 := keep_cell hb2 c7
  replace c8 := keep_cell hb2 c8
  go_wp2_with fail
  exact end_V (by simp [results, Tryd.results17, go_sem, noV, c6, c7, c8, z0, z1, z2]) rfl (by repeat (first | exact Below.refl _ _ | refine bel_alloc ?_ _ | refine bel_set ?_ (by first | exact Nat.le_refl _ | (simp; done) | (simp; omega)) _ | refine Below.drew ?_ | refine bel_trans ?_ (by assumption)))

set_option maxHeartbeats 2000000 in
theorem rb_pp12 (an bn ab bb : Int) (w : World) (ga : goodF ⟨2, an, ab⟩ = true) (gb : goodF ⟨2, bn, bb⟩ = true) : Calls Tryd.prog 17 #[.int .i64 12, .agg #[.int .i64 2, .int .i64 an, .int .i64 ab], .agg #[.int .i64 2, .int .i64 bn, .int .i64 bb]] w (retV (binF 12 ⟨2, an, ab⟩ ⟨2, bn, bb⟩).1 (binF 12 ⟨2, an, ab⟩ ⟨2, bn, bb⟩).2 w) := by
  have e : binF 12 ⟨2, an, ab⟩ ⟨2, bn, bb⟩ = (noV, false) := by simp [binF, kindF, ga, gb, ptrsF]
  rw [e]; clear e
  go_enter Tryd.func17, Tryd.ntmps17
  go_wp2_with fail
  refine (rgood_any _ _ _ _).mono ?_
  rintro e w1 ⟨rfl, hb1⟩
  have c0 := keep_cell hb1 (p := ⟨w.heap.size, 0, none⟩) (v := .int .i64 2) (by go_simp)
  have c1 := keep_cell hb1 (p := ⟨w.heap.size, 1, none⟩) (v := .int .i64 an) (by go_simp)
  have c2 := keep_cell hb1 (p := ⟨w.heap.size, 2, none⟩) (v := .int .i64 ab) (by go_simp)
  have c3 := keep_cell hb1 (p := ⟨w.heap.size + 1, 0, none⟩) (v := .int .i64 2) (by go_simp)
  have c4 := keep_cell hb1 (p := ⟨w.heap.size + 1, 1, none⟩) (v := .int .i64 bn) (by go_simp)
  have c5 := keep_cell hb1 (p := ⟨w.heap.size + 1, 2, none⟩) (v := .int .i64 bb) (by go_simp)
  have c6 := keep_cell hb1 (p := ⟨w.heap.size + 1 + 1, 0, none⟩) (v := .int .i64 0) (by go_simp)
  have c7 := keep_cell hb1 (p := ⟨w.heap.size + 1 + 1, 1, none⟩) (v := .int .i64 0) (by go_simp)
  have c8 := keep_cell hb1 (p := ⟨w.heap.size + 1 + 1, 2, none⟩) (v := .int .i64 0) (by go_simp)
  have z0 := keep_frozen hb1 (p := ⟨w.heap.size + 1 + 1, 0, none⟩) (v := .int .i64 0) (by go_simp) (by go_simp)
  have z1 := keep_frozen hb1 (p := ⟨w.heap.size + 1 + 1, 1, none⟩) (v := .int .i64 0) (by go_simp) (by go_simp)
  have z2 := keep_frozen hb1 (p := ⟨w.heap.size + 1 + 1, 2, none⟩) (v := .int .i64 0) (by go_simp) (by go_simp)
  go_wp2_with fail
  refine (rgood_any _ _ _ _).mono ?_
  rintro e w2 ⟨rfl, hb2⟩
  replace z0 := keep_frozen hb2 c6 z0
  replace z1 := keep_frozen hb2 c7 z1
  replace z2 := keep_frozen hb2 c8 z2
  replace c0 := keep_cell hb2 c0
  replace c1 := keep_cell hb2 c1
  replace c2 := keep_cell hb2 c2
  replace c3 := keep_cell hb2 c3
  replace c4 := keep_cell hb2 c4
  replace c5 := keep_cell hb2 c5
  replace c6 := keep_cell hb2 c6
  replace c7 := keep_cell hb2 c7
  replace c8 := keep_cell hb2 c8
  go_wp2_with fail
  exact end_V (by simp [results, Tryd.results17, go_sem, noV, c6, c7, c8, z0, z1, z2]) rfl (by repeat (first | exact Below.refl _ _ | refine bel_alloc ?_ _ | refine bel_set ?_ (by first | exact Nat.le_refl _ | (simp; done) | (simp; omega)) _ | refine Below.drew ?_ | refine bel_trans ?_ (by assumption)))

set_option maxHeartbeats 2000000 in
theorem rb_ppx (op an bn ab bb : Int) (w : World) (ga : goodF ⟨2, an, ab⟩ = true) (gb : goodF ⟨2, bn, bb⟩ = true) (h11 : ¬ op = 11) (g11 : (op == 11) = false) (m11 : (op != 11) = true) (h12 : ¬ op = 12) (g12 : (op == 12) = false) (m12 : (op != 12) = true) (h21 : ¬ op = 21) (g21 : (op == 21) = false) (m21 : (op != 21) = true) (h22 : ¬ op = 22) (g22 : (op == 22) = false) (m22 : (op != 22) = true) : Calls Tryd.prog 17 #[.int .i64 op, .agg #[.int .i64 2, .int .i64 an, .int .i64 ab], .agg #[.int .i64 2, .int .i64 bn, .int .i64 bb]] w (retV (binF op ⟨2, an, ab⟩ ⟨2, bn, bb⟩).1 (binF op ⟨2, an, ab⟩ ⟨2, bn, bb⟩).2 w) := by
  have e : binF op ⟨2, an, ab⟩ ⟨2, bn, bb⟩ = (noV, false) := by simp [binF, kindF, ga, gb, ptrsF, h21, h22]
  rw [e]; clear e
  go_enter Tryd.func17, Tryd.ntmps17
  go_wp2_with fail
  refine (rgood_any _ _ _ _).mono ?_
  rintro e w1 ⟨rfl, hb1⟩
  have c0 := keep_cell hb1 (p := ⟨w.heap.size, 0, none⟩) (v := .int .i64 2) (by go_simp)
  have c1 := keep_cell hb1 (p := ⟨w.heap.size, 1, none⟩) (v := .int .i64 an) (by go_simp)
  have c2 := keep_cell hb1 (p := ⟨w.heap.size, 2, none⟩) (v := .int .i64 ab) (by go_simp)
  have c3 := keep_cell hb1 (p := ⟨w.heap.size + 1, 0, none⟩) (v := .int .i64 2) (by go_simp)
  have c4 := keep_cell hb1 (p := ⟨w.heap.size + 1, 1, none⟩) (v := .int .i64 bn) (by go_simp)
  have c5 := keep_cell hb1 (p := ⟨w.heap.size + 1, 2, none⟩) (v := .int .i64 bb) (by go_simp)
  have c6 := keep_cell hb1 (p := ⟨w.heap.size + 1 + 1, 0, none⟩) (v := .int .i64 0) (by go_simp)
  have c7 := keep_cell hb1 (p := ⟨w.heap.size + 1 + 1, 1, none⟩) (v := .int .i64 0) (by go_simp)
  have c8 := keep_cell hb1 (p := ⟨w.heap.size + 1 + 1, 2, none⟩) (v := .int .i64 0) (by go_simp)
  have z0 := keep_frozen hb1 (p := ⟨w.heap.size + 1 + 1, 0, none⟩) (v := .int .i64 0) (by go_simp) (by go_simp)
  have z1 := keep_frozen hb1 (p := ⟨w.heap.size + 1 + 1, 1, none⟩) (v := .int .i64 0) (by go_simp) (by go_simp)
  have z2 := keep_frozen hb1 (p := ⟨w.heap.size + 1 + 1, 2, none⟩) (v := .int .i64 0) (by go_simp) (by go_simp)
  go_wp2_with fail
  refine (rgood_any _ _ _ _).mono ?_
  rintro e w2 ⟨rfl, hb2⟩
  replace z0 := keep_frozen hb2 c6 z0
  replace z1 := keep_frozen hb2 c7 z1
  replace z2 := keep_frozen hb2 c8 z2
  replace c0 := keep_cell hb2 c0
  replace c1 := keep_cell hb2 c1
  replace c2 := keep_cell hb2 c2
  replace c3 := keep_cell hb2 c3
  replace c4 := keep_cell hb2 c4
  replace c5 := keep_cell hb2 c5
  replace c6 := keep_cell hb2 c6
  replace c7 := keep_cell hb2 c7
  replace c8 := keep_cell hb2 c8
  go_wp2_with fail
  exact end_V (by simp [results, Tryd.results17, go_sem, noV, c6, c7, c8, z0, z1, z2]) rfl (by repeat (first | exact Below.refl _ _ | refine bel_alloc ?_ _ | refine bel_set ?_ (by first | exact Nat.le_refl _ | (simp; done) | (simp; omega)) _ | refine Below.drew ?_ | refine bel_trans ?_ (by assumption)))

set_option maxHeartbeats 2000000 in
theorem rb_pp21e (an ab : Int) (w : World) (ga : goodF ⟨2, an, ab⟩ = true) : Calls Tryd.prog 17 #[.int .i64 21, .agg #[.int .i64 2, .int .i64 an, .int .i64 ab], .agg #[.int .i64 2, .int .i64 an, .int .i64 ab]] w (retV (binF 21 ⟨2, an, ab⟩ ⟨2, an, ab⟩).1 (binF 21 ⟨2, an, ab⟩ ⟨2, an, ab⟩).2 w) := by
  have e : binF 21 ⟨2, an, ab⟩ ⟨2, an, ab⟩ = (bitF true, true) := by simp [binF, kindF, ga, ptrsF]
  rw [e]; clear e
  go_enter Tryd.func17, Tryd.ntmps17
  go_wp2_with fail
  refine (rgood_any _ _ _ _).mono ?_
  rintro e w1 ⟨rfl, hb1⟩
  have c0 := keep_cell hb1 (p := ⟨w.heap.size, 0, none⟩) (v := .int .i64 2) (by go_simp)
  have c1 := keep_cell hb1 (p := ⟨w.heap.size, 1, none⟩) (v := .int .i64 an) (by go_simp)
  have c2 := keep_cell hb1 (p := ⟨w.heap.size, 2, none⟩) (v := .int .i64 ab) (by go_simp)
  have c3 := keep_cell hb1 (p := ⟨w.heap.size + 1, 0, none⟩) (v := .int .i64 2) (by go_simp)
  have c4 := keep_cell hb1 (p := ⟨w.heap.size + 1, 1, none⟩) (v := .int .i64 an) (by go_simp)
  have c5 := keep_cell hb1 (p := ⟨w.heap.size + 1, 2, none⟩) (v := .int .i64 ab) (by go_simp)
  have c6 := keep_cell hb1 (p := ⟨w.heap.size + 1 + 1, 0, none⟩) (v := .int .i64 0) (by go_simp)
  have c7 := keep_cell hb1 (p := ⟨w.heap.size + 1 + 1, 1, none⟩) (v := .int .i64 0) (by go_simp)
  have c8 := keep_cell hb1 (p := ⟨w.heap.size + 1 + 1, 2, none⟩) (v := .int .i64 0) (by go_simp)
  have z0 := keep_frozen hb1 (p := ⟨w.heap.size + 1 + 1, 0, none⟩) (v := .int .i64 0) (by go_simp) (by go_simp)
  have z1 := keep_frozen hb1 (p := ⟨w.heap.size + 1 + 1, 1, none⟩) (v := .int .i64 0) (by go_simp) (by go_simp)
  have z2 := keep_frozen hb1 (p := ⟨w.heap.size + 1 + 1, 2, none⟩) (v := .int .i64 0) (by go_simp) (by go_simp)
  go_wp2_with fail
  refine (rgood_any _ _ _ _).mono ?_
  rintro e w2 ⟨rfl, hb2⟩
  replace z0 := keep_frozen hb2 c6 z0
  replace z1 := keep_frozen hb2 c7 z1
  replace z2 := keep_frozen hb2 c8 z2
  replace c0 := keep_cell hb2 c0
  replace c1 := keep_cell hb2 c1
  replace c2 := keep_cell hb2 c2
  replace c3 := keep_cell hb2 c3
  replace c4 := keep_cell hb2 c4
  replace c5 := keep_cell hb2 c5
  replace c6 := keep_cell hb2 c6
  replace c7 := keep_cell hb2 c7
  replace c8 := keep_cell hb2 c8
  go_wp2_with (go_at_call 36; refine (rbit_any _ _).mono ?_; rintro e w3 ⟨rfl, hb3⟩; replace z0 := keep_frozen hb3 c6 z0; replace z1 := keep_frozen hb3 c7 z1; replace z2 := keep_frozen hb3 c8 z2; replace c6 := keep_cell hb3 c6; replace c7 := keep_cell hb3 c7; replace c8 := keep_cell hb3 c8)
  exact end_V (by simp [results, Tryd.results17, go_sem, bitF, ofF, c6, c7, c8, z0, z1, z2]) rfl (by repeat (first | exact Below.refl _ _ | refine bel_alloc ?_ _ | refine bel_set ?_ (by first | exact Nat.le_refl _ | (simp; done) | (simp; omega)) _ | refine Below.drew ?_ | refine bel_trans ?_ (by assumption)))

set_option maxHeartbeats 2000000 in
theorem rb_pp21n (an bn ab bb : Int) (w : World) (ga : goodF ⟨2, an, ab⟩ = true) (gb : goodF ⟨2, bn, bb⟩ = true) (hn2 : (an == bn) = false) : Calls Tryd.prog 17 #[.int .i64 21, .agg #[.int .i64 2, .int .i64 an, .int .i64 ab], .agg #[.int .i64 2, .int .i64 bn, .int .i64 bb]] w (retV (binF 21 ⟨2, an, ab⟩ ⟨2, bn, bb⟩).1 (binF 21 ⟨2, an, ab⟩ ⟨2, bn, bb⟩).2 w) := by
  have e : binF 21 ⟨2, an, ab⟩ ⟨2, bn, bb⟩ = (bitF false, true) := by simp [binF, kindF, ga, gb, ptrsF, hn2]
  rw [e]; clear e
  go_enter Tryd.func17, Tryd.ntmps17
  go_wp2_with fail
  refine (rgood_any _ _ _ _).mono ?_
  rintro e w1 ⟨rfl, hb1⟩
  have c0 := keep_cell hb1 (p := ⟨w.heap.size, 0, none⟩) (v := .int .i64 2) (by go_simp)
  have c1 := keep_cell hb1 (p := ⟨w.heap.size, 1, none⟩) (v := .int .i64 an) (by go_simp)
  have c2 := keep_cell hb1 (p := ⟨w.heap.size, 2, none⟩) (v := .int .i64 ab) (by go_simp)
  have c3 := keep_cell hb1 (p := ⟨w.heap.size + 1, 0, none⟩) (v := .int .i64 2) (by go_simp)
  have c4 := keep_cell hb1 (p := ⟨w.heap.size + 1, 1, none⟩) (v := .int .i64 bn) (by go_simp)
  have c5 := keep_cell hb1 (p := ⟨w.heap.size + 1, 2, none⟩) (v := .int .i64 bb) (by go_simp)
  have c6 := keep_cell hb1 (p := ⟨w.heap.size + 1 + 1, 0, none⟩) (v := .int .i64 0) (by go_simp)
  have c7 := keep_cell hb1 (p := ⟨w.heap.size + 1 + 1, 1, none⟩) (v := .int .i64 0) (by go_simp)
  have c8 := keep_cell hb1 (p := ⟨w.heap.size + 1 + 1, 2, none⟩) (v := .int .i64 0) (by go_simp)
  have z0 := keep_frozen hb1 (p := ⟨w.heap.size + 1 + 1, 0, none⟩) (v := .int .i64 0) (by go_simp) (by go_simp)
  have z1 := keep_frozen hb1 (p := ⟨w.heap.size + 1 + 1, 1, none⟩) (v := .int .i64 0) (by go_simp) (by go_simp)
  have z2 := keep_frozen hb1 (p := ⟨w.heap.size + 1 + 1, 2, none⟩) (v := .int .i64 0) (by go_simp) (by go_simp)
  go_wp2_with fail
  refine (rgood_any _ _ _ _).mono ?_
  rintro e w2 ⟨rfl, hb2⟩
  replace z0 := keep_frozen hb2 c6 z0
  replace z1 := keep_frozen hb2 c7 z1
  replace z2 := keep_frozen hb2 c8 z2
  replace c0 := keep_cell hb2 c0
  replace c1 := keep_cell hb2 c1
  replace c2 := keep_cell hb2 c2
  replace c3 := keep_cell hb2 c3
  replace c4 := keep_cell hb2 c4
  replace c5 := keep_cell hb2 c5
  replace c6 := keep_cell hb2 c6
  replace c7 := keep_cell hb2 c7
  replace c8 := keep_cell hb2 c8
  go_wp2_with (go_at_call 36; refine (rbit_any _ _).mono ?_; rintro e w3 ⟨rfl, hb3⟩; replace z0 := keep_frozen hb3 c6 z0; replace z1 := keep_frozen hb3 c7 z1; replace z2 := keep_frozen hb3 c8 z2; replace c6 := keep_cell hb3 c6; replace c7 := keep_cell hb3 c7; replace c8 := keep_cell hb3 c8)
  exact end_V (by simp [results, Tryd.results17, go_sem, bitF, ofF, c6, c7, c8, z0, z1, z2]) rfl (by repeat (first | exact Below.refl _ _ | refine bel_alloc ?_ _ | refine bel_set ?_ (by first | exact Nat.le_refl _ | (simp; done) | (simp; omega)) _ | refine Below.drew ?_ | refine bel_trans ?_ (by assumption)))

set_option maxHeartbeats 2000000 in
theorem rb_pp21b (an ab bb : Int) (w : World) (ga : goodF ⟨2, an, ab⟩ = true) (gb : goodF ⟨2, an, bb⟩ = true) (hn2 : (ab == bb) = false) : Calls Tryd.prog 17 #[.int .i64 21, .agg #[.int .i64 2, .int .i64 an, .int .i64 ab], .agg #[.int .i64 2, .int .i64 an, .int .i64 bb]] w (retV (binF 21 ⟨2, an, ab⟩ ⟨2, an, bb⟩).1 (binF 21 ⟨2, an, ab⟩ ⟨2, an, bb⟩).2 w) := by
  have e : binF 21 ⟨2, an, ab⟩ ⟨2, an, bb⟩ = (bitF false, true) := by simp [binF, kindF, ga, gb, ptrsF, hn2]
  rw [e]; clear e
  go_enter Tryd.func17, Tryd.ntmps17
  go_wp2_with fail
  refine (rgood_any _ _ _ _).mono ?_
  rintro e w1 ⟨rfl, hb1⟩
  have c0 := keep_cell hb1 (p := ⟨w.heap.size, 0, none⟩) (v := .int .i64 2) (by go_simp)
  have c1 := keep_cell hb1 (p := ⟨w.heap.size, 1, none⟩) (v := .int .i64 an) (by go_simp)
  have c2 := keep_cell hb1 (p := ⟨w.heap.size, 2, none⟩) (v := .int .i64 ab) (by go_simp)
  have c3 := keep_cell hb1 (p := ⟨w.heap.size + 1, 0, none⟩) (v := .int .i64 2) (by go_simp)
  have c4 := keep_cell hb1 (p := ⟨w.heap.size + 1, 1, none⟩) (v := .int .i64 an) (by go_simp)
  have c5 := keep_cell hb1 (p := ⟨w.heap.size + 1, 2, none⟩) (v := .int .i64 bb) (by go_simp)
  have c6 := keep_cell hb1 (p := ⟨w.heap.size + 1 + 1, 0, none⟩) (v := .int .i64 0) (by go_simp)
  have c7 := keep_cell hb1 (p := ⟨w.heap.size + 1 + 1, 1, none⟩) (v := .int .i64 0) (by go_simp)
  have c8 := keep_cell hb1 (p := ⟨w.heap.size + 1 + 1, 2, none⟩) (v := .int .i64 0) (by go_simp)
  have z0 := keep_frozen hb1 (p := ⟨w.heap.size + 1 + 1, 0, none⟩) (v := .int .i64 0) (by go_simp) (by go_simp)
  have z1 := keep_frozen hb1 (p := ⟨w.heap.size + 1 + 1, 1, none⟩) (v := .int .i64 0) (by go_simp) (by go_simp)
  have z2 := keep_frozen hb1 (p := ⟨w.heap.size + 1 + 1, 2, none⟩) (v := .int .i64 0) (by go_simp) (by go_simp)
  go_wp2_with fail
  refine (rgood_any _ _ _ _).mono ?_
  rintro e w2 ⟨rfl, hb2⟩
  replace z0 := keep_frozen hb2 c6 z0
  replace z1 := keep_frozen hb2 c7 z1
  replace z2 := keep_frozen hb2 c8 z2
  replace c0 := keep_cell hb2 c0
  replace c1 := keep_cell hb2 c1
  replace c2 := keep_cell hb2 c2
  replace c3 := keep_cell hb2 c3
  replace c4 := keep_cell hb2 c4
  replace c5 := keep_cell hb2 c5
  replace c6 := keep_cell hb2 c6
  replace c7 := keep_cell hb2 c7
  replace c8 := keep_cell hb2 c8
  go_wp2_with (go_at_call 36; refine (rbit_any _ _).mono ?_; rintro e w3 ⟨rfl, hb3⟩; replace z0 := keep_frozen hb3 c6 z0; replace z1 := keep_frozen hb3 c7 z1; replace z2 := keep_frozen hb3 c8 z2; replace c6 := keep_cell hb3 c6; replace c7 := keep_cell hb3 c7; replace c8 := keep_cell hb3 c8)
  exact end_V (by simp [results, Tryd.results17, go_sem, bitF, ofF, c6, c7, c8, z0, z1, z2]) rfl (by repeat (first | exact Below.refl _ _ | refine bel_alloc ?_ _ | refine bel_set ?_ (by first | exact Nat.le_refl _ | (simp; done) | (simp; omega)) _ | refine Below.drew ?_ | refine bel_trans ?_ (by assumption)))

set_option maxHeartbeats 2000000 in
theorem rb_pp22e (an ab : Int) (w : World) (ga : goodF ⟨2, an, ab⟩ = true) : Calls Tryd.prog 17 #[.int .i64 22, .agg #[.int .i64 2, .int .i64 an, .int .i64 ab], .agg #[.int .i64 2, .int .i64 an, .int .i64 ab]] w (retV (binF 22 ⟨2, an, ab⟩ ⟨2, an, ab⟩).1 (binF 22 ⟨2, an, ab⟩ ⟨2, an, ab⟩).2 w) := by
  have e : binF 22 ⟨2, an, ab⟩ ⟨2, an, ab⟩ = (bitF false, true) := by simp [binF, kindF, ga, ptrsF]
  rw [e]; clear e
  go_enter Tryd.func17, Tryd.ntmps17
  go_wp2_with fail
  refine (rgood_any _ _ _ _).mono ?_
  rintro e w1 ⟨rfl, hb1⟩
  have c0 := keep_cell hb1 (p := ⟨w.heap.size, 0, none⟩) (v := .int .i64 2) (by go_simp)
  have c1 := keep_cell hb1 (p := ⟨w.heap.size, 1, none⟩) (v := .int .i64 an) (by go_simp)
  have c2 := keep_cell hb1 (p := ⟨w.heap.size, 2, none⟩) (v := .int .i64 ab) (by go_simp)
  have c3 := keep_cell hb1 (p := ⟨w.heap.size + 1, 0, none⟩) (v := .int .i64 2) (by go_simp)
  have c4 := keep_cell hb1 (p := ⟨w.heap.size + 1, 1, none⟩) (v := .int .i64 an) (by go_simp)
  have c5 := keep_cell hb1 (p := ⟨w.heap.size + 1, 2, none⟩) (v := .int .i64 ab) (by go_simp)
  have c6 := keep_cell hb1 (p := ⟨w.heap.size + 1 + 1, 0, none⟩) (v := .int .i64 0) (by go_simp)
  have c7 := keep_cell hb1 (p := ⟨w.heap.size + 1 + 1, 1, none⟩) (v := .int .i64 0) (by go_simp)
  have c8 := keep_cell hb1 (p := ⟨w.heap.size + 1 + 1, 2, none⟩) (v := .int .i64 0) (by go_simp)
  have z0 := keep_frozen hb1 (p := ⟨w.heap.size + 1 + 1, 0, none⟩) (v := .int .i64 0) (by go_simp) (by go_simp)
  have z1 := keep_frozen hb1 (p := ⟨w.heap.size + 1 + 1, 1, none⟩) (v := .int .i64 0) (by go_simp) (by go_simp)
  have z2 := keep_frozen hb1 (p := ⟨w.heap.size + 1 + 1, 2, none⟩) (v := .int .i64 0) (by go_simp) (by go_simp)
  go_wp2_with fail
  refine (rgood_any _ _ _ _).mono ?_
  rintro e w2 ⟨rfl, hb2⟩
  replace z0 := keep_frozen hb2 c6 z0
  replace z1 := keep_frozen hb2 c7 z1
  replace z2 := keep_frozen hb2 c8 z2
  replace c0 := keep_cell hb2 c0
  replace c1 := keep_cell hb2 c1
  replace c2 := keep_cell hb2 c2
  replace c3 := keep_cell hb2 c3
  replace c4 := keep_cell hb2 c4
  replace c5 := keep_cell hb2 c5
  replace c6 := keep_cell hb2 c6
  replace c7 := keep_cell hb2 c7
  replace c8 := keep_cell hb2 c8
  go_wp2_with (go_at_call 36; refine (rbit_any _ _).mono ?_; rintro e w3 ⟨rfl, hb3⟩; replace z0 := keep_frozen hb3 c6 z0; replace z1 := keep_frozen hb3 c7 z1; replace z2 := keep_frozen hb3 c8 z2; replace c6 := keep_cell hb3 c6; replace c7 := keep_cell hb3 c7; replace c8 := keep_cell hb3 c8)
  exact end_V (by simp [results, Tryd.results17, go_sem, bitF, ofF, c6, c7, c8, z0, z1, z2]) rfl (by repeat (first | exact Below.refl _ _ | refine bel_alloc ?_ _ | refine bel_set ?_ (by first | exact Nat.le_refl _ | (simp; done) | (simp; omega)) _ | refine Below.drew ?_ | refine bel_trans ?_ (by assumption)))

set_option maxHeartbeats 2000000 in
theorem rb_pp22n (an bn ab bb : Int) (w : World) (ga : goodF ⟨2, an, ab⟩ = true) (gb : goodF ⟨2, bn, bb⟩ = true) (hn2 : (an == bn) = false) : Calls Tryd.prog 17 #[.int .i64 22, .agg #[.int .i64 2, .int .i64 an, .int .i64 ab], .agg #[.int .i64 2, .int .i64 bn, .int .i64 bb]] w (retV (binF 22 ⟨2, an, ab⟩ ⟨2, bn, bb⟩).1 (binF 22 ⟨2, an, ab⟩ ⟨2, bn, bb⟩).2 w) := by
  have e : binF 22 ⟨2, an, ab⟩ ⟨2, bn, bb⟩ = (bitF true, true) := by simp [binF, kindF, ga, gb, ptrsF, hn2]
  rw [e]; clear e
  go_enter Tryd.func17, Tryd.ntmps17
  go_wp2_with fail
  refine (rgood_any _ _ _ _).mono ?_
  rintro e w1 ⟨rfl, hb1⟩
  have c0 := keep_cell hb1 (p := ⟨w.heap.size, 0, none⟩) (v := .int .i64 2) (by go_simp)
  have c1 := keep_cell hb1 (p := ⟨w.heap.size, 1, none⟩) (v := .int .i64 an) (by go_simp)
  have c2 := keep_cell hb1 (p := ⟨w.heap.size, 2, none⟩) (v := .int .i64 ab) (by go_simp)
  have c3 := keep_cell hb1 (p := ⟨w.heap.size + 1, 0, none⟩) (v := .int .i64 2) (by go_simp)
  have c4 := keep_cell hb1 (p := ⟨w.heap.size + 1, 1, none⟩) (v := .int .i64 bn) (by go_simp)
  have c5 := keep_cell hb1 (p := ⟨w.heap.size + 1, 2, none⟩) (v := .int .i64 bb) (by go_simp)
  have c6 := keep_cell hb1 (p := ⟨w.heap.size + 1 + 1, 0, none⟩) (v := .int .i64 0) (by go_simp)
  have c7 := keep_cell hb1 (p := ⟨w.heap.size + 1 + 1, 1, none⟩) (v := .int .i64 0) (by go_simp)
  have c8 := keep_cell hb1 (p := ⟨w.heap.size + 1 + 1, 2, none⟩) (v := .int .i64 0) (by go_simp)
  have z0 := keep_frozen hb1 (p := ⟨w.heap.size + 1 + 1, 0, none⟩) (v := .int .i64 0) (by go_simp) (by go_simp)
  have z1 := keep_frozen hb1 (p := ⟨w.heap.size + 1 + 1, 1, none⟩) (v := .int .i64 0) (by go_simp) (by go_simp)
  have z2 := keep_frozen hb1 (p := ⟨w.heap.size + 1 + 1, 2, none⟩) (v := .int .i64 0) (by go_simp) (by go_simp)
  go_wp2_with fail
  refine (rgood_any _ _ _ _).mono ?_
  rintro e w2 ⟨rfl, hb2⟩
  replace z0 := keep_frozen hb2 c6 z0
  replace z1 := keep_frozen hb2 c7 z1
  replace z2 := keep_frozen hb2 c8 z2
  replace c0 := keep_cell hb2 c0
  replace c1 := keep_cell hb2 c1
  replace c2 := keep_cell hb2 c2
  replace c3 := keep_cell hb2 c3
  replace c4 := keep_cell hb2 c4
  replace c5 := keep_cell hb2 c5
  replace c6 := keep_cell hb2 c6
  replace c7 := keep_cell hb2 c7
  replace c8 := keep_cell hb2 c8
  go_wp2_with (go_at_call 36; refine (rbit_any _ _).mono ?_; rintro e w3 ⟨rfl, hb3⟩; replace z0 := keep_frozen hb3 c6 z0; replace z1 := keep_frozen hb3 c7 z1; replace z2 := keep_frozen hb3 c8 z2; replace c6 := keep_cell hb3 c6; replace c7 := keep_cell hb3 c7; replace c8 := keep_cell hb3 c8)
  exact end_V (by simp [results, Tryd.results17, go_sem, bitF, ofF, c6, c7, c8, z0, z1, z2]) rfl (by repeat (first | exact Below.refl _ _ | refine bel_alloc ?_ _ | refine bel_set ?_ (by first | exact Nat.le_refl _ | (simp; done) | (simp; omega)) _ | refine Below.drew ?_ | refine bel_trans ?_ (by assumption)))

set_option maxHeartbeats 2000000 in
theorem rb_pp22b (an ab bb : Int) (w : World) (ga : goodF ⟨2, an, ab⟩ = true) (gb : goodF ⟨2, an, bb⟩ = true) (hn2 : (ab == bb) = false) : Calls Tryd.prog 17 #[.int .i64 22, .agg #[.int .i64 2, .int .i64 an, .int .i64 ab], .agg #[.int .i64 2, .int .i64 an, .int .i64 bb]] w (retV (binF 22 ⟨2, an, ab⟩ ⟨2, an, bb⟩).1 (binF 22 ⟨2, an, ab⟩ ⟨2, an, bb⟩).2 w) := by
  have e : binF 22 ⟨2, an, ab⟩ ⟨2, an, bb⟩ = (bitF true, true) := by simp [binF, kindF, ga, gb, ptrsF, hn2]
  rw [e]; clear e
  go_enter Tryd.func17, Tryd.ntmps17
  go_wp2_with fail
  refine (rgood_any _ _ _ _).mono ?_
  rintro e w1 ⟨rfl, hb1⟩
  have c0 := keep_cell hb1 (p := ⟨w.heap.size, 0, none⟩) (v := .int .i64 2) (by go_simp)
  have c1 := keep_cell hb1 (p := ⟨w.heap.size, 1, none⟩) (v := .int .i64 an) (by go_simp)
  have c2 := keep_cell hb1 (p := ⟨w.heap.size, 2, none⟩) (v := .int .i64 ab) (by go_simp)
  have c3 := keep_cell hb1 (p := ⟨w.heap.size + 1, 0, none⟩) (v := .int .i64 2) (by go_simp)
  have c4 := keep_cell hb1 (p := ⟨w.heap.size + 1, 1, none⟩) (v := .int .i64 an) (by go_simp)
  have c5 := keep_cell hb1 (p := ⟨w.heap.size + 1, 2, none⟩) (v := .int .i64 bb) (by go_simp)
  have c6 := keep_cell hb1 (p := ⟨w.heap.size + 1 + 1, 0, none⟩) (v := .int .i64 0) (by go_simp)
  have c7 := keep_cell hb1 (p := ⟨w.heap.size + 1 + 1, 1, none⟩) (v := .int .i64 0) (by go_simp)
  have c8 := keep_cell hb1 (p := ⟨w.heap.size + 1 + 1, 2, none⟩) (v := .int .i64 0) (by go_simp)
  have z0 := keep_frozen hb1 (p := ⟨w.heap.size + 1 + 1, 0, none⟩) (v := .int .i64 0) (by go_simp) (by go_simp)
  have z1 := keep_frozen hb1 (p := ⟨w.heap.size + 1 + 1, 1, none⟩) (v := .int .i64 0) (by go_simp) (by go_simp)
  have z2 := keep_frozen hb1 (p := ⟨w.heap.size + 1 + 1, 2, none⟩) (v := .int .i64 0) (by go_simp) (by go_simp)
  go_wp2_with fail
  refine (rgood_any _ _ _ _).mono ?_
  rintro e w2 ⟨rfl, hb2⟩
  replace z0 := keep_frozen hb2 c6 z0
  replace z1 := keep_frozen hb2 c7 z1
  replace z2 := keep_frozen hb2 c8 z2
  replace c0 := keep_cell hb2 c0
  replace c1 := keep_cell hb2 c1
  replace c2 := keep_cell hb2 c2
  replace c3 := keep_cell hb2 c3
  replace c4 := keep_cell hb2 c4
  replace c5 := keep_cell hb2 c5
  replace c6 := keep_cell hb2 c6
  replace c7 := keep_cell hb2 c7
  replace c8 := keep_cell hb2 c8
  go_wp2_with (go_at_call 36; refine (rbit_any _ _).mono ?_; rintro e w3 ⟨rfl, hb3⟩; replace z0 := keep_frozen hb3 c6 z0; replace z1 := keep_frozen hb3 c7 z1; replace z2 := keep_frozen hb3 c8 z2; replace c6 := keep_cell hb3 c6; replace c7 := keep_cell hb3 c7; replace c8 := keep_cell hb3 c8)
  exact end_V (by simp [results, Tryd.results17, go_sem, bitF, ofF, c6, c7, c8, z0, z1, z2]) rfl (by repeat (first | exact Below.refl _ _ | refine bel_alloc ?_ _ | refine bel_set ?_ (by first | exact Nat.le_refl _ | (simp; done) | (simp; omega)) _ | refine Below.drew ?_ | refine bel_trans ?_ (by assumption)))

end Go.Proofs.YtfkalcfkbaimgaaDoor
