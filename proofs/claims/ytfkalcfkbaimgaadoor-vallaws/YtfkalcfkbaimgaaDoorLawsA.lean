/- Walks of the statement ValLaws, way by way: the answers of its calls are letters, what binds them are premises. -/
import Derived.Test.YtfkalcfkbaimgaaDoorFrame
namespace Go.Proofs.YtfkalcfkbaimgaaDoor
open Go.ChangeShapes Go.WideShapes Go.ChangeAt Go.RowKit Pl
set_option linter.unusedSimpArgs false
set_option linter.unusedVariables false

set_option maxHeartbeats 8000000 in
theorem laws_A1B1 (op ak an ab bk bn bb xk xn xb f yk yn yb s : Int) (w : World) (ht : Tab w) (hsum : wrap64 (xn + yn) = 1) (hbk : (bk != 1) = true) (HB : Hid (binF op ⟨ak, an, ab⟩ ⟨bk, bn, bb⟩ = (⟨xk, xn, xb⟩, true))) (HF : Hid (flipF op = (f, true))) (HG : Hid (binF f ⟨ak, an, ab⟩ ⟨bk, bn, bb⟩ = (⟨yk, yn, yb⟩, true))) (HS : Hid (swapF op = (s, true))) (HT : Hid (binF s ⟨bk, bn, bb⟩ ⟨ak, an, ab⟩ = (⟨xk, xn, xb⟩, true))) :
    Calls Tryd.prog 6 #[.int .i64 op, .agg #[.int .i64 ak, .int .i64 an, .int .i64 ab], .agg #[.int .i64 bk, .int .i64 bn, .int .i64 bb]] w (retP (.bool true) w) := by
  go_enter Tryd.func6, Tryd.ntmps6
  go_wp2_with fail
  refine (awake_any _ (tab_keep ht (by repeat (first | exact Below.refl _ _ | refine bel_alloc ?_ _ | refine bel_set ?_ (by first | exact Nat.le_refl _ | (simp; done) | (simp; omega)) _ | refine Below.drew ?_ | refine bel_trans ?_ (by assumption))))).mono ?_
  rintro e w1 ⟨rfl, hb1⟩
  have a0 : w1.cell? ⟨w.heap.size, 0, none⟩ = some (.int .i64 ak) := keep_cell hb1 (by go_simp)
  have a1 : w1.cell? ⟨w.heap.size, 1, none⟩ = some (.int .i64 an) := keep_cell hb1 (by go_simp)
  have a2 : w1.cell? ⟨w.heap.size, 2, none⟩ = some (.int .i64 ab) := keep_cell hb1 (by go_simp)
  have aL : w.heap.size < w1.heap.size := block_lt_of_cell a0
  have b0 : w1.cell? ⟨w.heap.size + 1, 0, none⟩ = some (.int .i64 bk) := keep_cell hb1 (by go_simp)
  have b1 : w1.cell? ⟨w.heap.size + 1, 1, none⟩ = some (.int .i64 bn) := keep_cell hb1 (by go_simp)
  have b2 : w1.cell? ⟨w.heap.size + 1, 2, none⟩ = some (.int .i64 bb) := keep_cell hb1 (by go_simp)
  have bL : w.heap.size + 1 < w1.heap.size := block_lt_of_cell b0
  go_wp2_with fail
  refine (bin_to op ak an ab bk bn bb xk xn xb true _ HB.out).mono ?_
  rintro e w2 ⟨rfl, hb2⟩
  replace a0 : w2.cell? ⟨w.heap.size, 0, none⟩ = some (.int .i64 ak) := keep_cell hb2 (by go_simp)
  replace a1 : w2.cell? ⟨w.heap.size, 1, none⟩ = some (.int .i64 an) := keep_cell hb2 (by go_simp)
  replace a2 : w2.cell? ⟨w.heap.size, 2, none⟩ = some (.int .i64 ab) := keep_cell hb2 (by go_simp)
  replace aL : w.heap.size < w2.heap.size := block_lt_of_cell a0
  replace b0 : w2.cell? ⟨w.heap.size + 1, 0, none⟩ = some (.int .i64 bk) := keep_cell hb2 (by go_simp)
  replace b1 : w2.cell? ⟨w.heap.size + 1, 1, none⟩ = some (.int .i64 bn) := keep_cell hb2 (by go_simp)
  replace b2 : w2.cell? ⟨w.heap.size + 1, 2, none⟩ = some (.int .i64 bb) := keep_cell hb2 (by go_simp)
  replace bL : w.heap.size + 1 < w2.heap.size := block_lt_of_cell b0
  go_wp2_with fail
  refine (flip_to op f true _ HF.out).mono ?_
  rintro e w' ⟨rfl, hw'⟩
  replace hw' := hw'.symm
  subst hw'
  go_wp2_with fail
  refine (bin_to f ak an ab bk bn bb yk yn yb true _ HG.out).mono ?_
  rintro e w3 ⟨rfl, hb3⟩
  replace a0 : w3.cell? ⟨w.heap.size, 0, none⟩ = some (.int .i64 ak) := keep_cell hb3 (by go_simp)
  replace a1 : w3.cell? ⟨w.heap.size, 1, none⟩ = some (.int .i64 an) := keep_cell hb3 (by go_simp)
  replace a2 : w3.cell? ⟨w.heap.size, 2, none⟩ = some (.int .i64 ab) := keep_cell hb3 (by go_simp)
  replace aL : w.heap.size < w3.heap.size := block_lt_of_cell a0
  replace b0 : w3.cell? ⟨w.heap.size + 1, 0, none⟩ = some (.int .i64 bk) := keep_cell hb3 (by go_simp)
  replace b1 : w3.cell? ⟨w.heap.size + 1, 1, none⟩ = some (.int .i64 bn) := keep_cell hb3 (by go_simp)
  replace b2 : w3.cell? ⟨w.heap.size + 1, 2, none⟩ = some (.int .i64 bb) := keep_cell hb3 (by go_simp)
  replace bL : w.heap.size + 1 < w3.heap.size := block_lt_of_cell b0
  have x0 : w3.cell? ⟨w2.heap.size, 0, none⟩ = some (.int .i64 xk) := keep_cell hb3 (by go_simp)
  have x1 : w3.cell? ⟨w2.heap.size, 1, none⟩ = some (.int .i64 xn) := keep_cell hb3 (by go_simp)
  have x2 : w3.cell? ⟨w2.heap.size, 2, none⟩ = some (.int .i64 xb) := keep_cell hb3 (by go_simp)
  have xL : w2.heap.size < w3.heap.size := block_lt_of_cell x0
  go_wp2_with fail
  refine (swap_to op s true _ HS.out).mono ?_
  rintro e w' ⟨rfl, hw'⟩
  replace hw' := hw'.symm
  subst hw'
  go_wp2_with fail
  refine (bin_to s bk bn bb ak an ab xk xn xb true _ HT.out).mono ?_
  rintro e w4 ⟨rfl, hb4⟩
  replace a0 : w4.cell? ⟨w.heap.size, 0, none⟩ = some (.int .i64 ak) := keep_cell hb4 (by go_simp)
  replace a1 : w4.cell? ⟨w.heap.size, 1, none⟩ = some (.int .i64 an) := keep_cell hb4 (by go_simp)
  replace a2 : w4.cell? ⟨w.heap.size, 2, none⟩ = some (.int .i64 ab) := keep_cell hb4 (by go_simp)
  replace aL : w.heap.size < w4.heap.size := block_lt_of_cell a0
  replace b0 : w4.cell? ⟨w.heap.size + 1, 0, none⟩ = some (.int .i64 bk) := keep_cell hb4 (by go_simp)
  replace b1 : w4.cell? ⟨w.heap.size + 1, 1, none⟩ = some (.int .i64 bn) := keep_cell hb4 (by go_simp)
  replace b2 : w4.cell? ⟨w.heap.size + 1, 2, none⟩ = some (.int .i64 bb) := keep_cell hb4 (by go_simp)
  replace bL : w.heap.size + 1 < w4.heap.size := block_lt_of_cell b0
  replace x0 : w4.cell? ⟨w2.heap.size, 0, none⟩ = some (.int .i64 xk) := keep_cell hb4 (by go_simp)
  replace x1 : w4.cell? ⟨w2.heap.size, 1, none⟩ = some (.int .i64 xn) := keep_cell hb4 (by go_simp)
  replace x2 : w4.cell? ⟨w2.heap.size, 2, none⟩ = some (.int .i64 xb) := keep_cell hb4 (by go_simp)
  replace xL : w2.heap.size < w4.heap.size := block_lt_of_cell x0
  have y0 : w4.cell? ⟨w3.heap.size, 0, none⟩ = some (.int .i64 yk) := keep_cell hb4 (by go_simp)
  have y1 : w4.cell? ⟨w3.heap.size, 1, none⟩ = some (.int .i64 yn) := keep_cell hb4 (by go_simp)
  have y2 : w4.cell? ⟨w3.heap.size, 2, none⟩ = some (.int .i64 yb) := keep_cell hb4 (by go_simp)
  have yL : w3.heap.size < w4.heap.size := block_lt_of_cell y0
  go_wp2
  go_ret
  exact ⟨rfl, (by repeat (first | exact Below.refl _ _ | refine bel_alloc ?_ _ | refine bel_set ?_ (by first | exact Nat.le_refl _ | (simp; done) | (simp; omega)) _ | refine Below.drew ?_ | refine bel_trans ?_ (by assumption)))⟩

set_option maxHeartbeats 8000000 in
theorem laws_A1B2 (op ak an ab bn bb xk xn xb f yk yn yb s : Int) (w : World) (ht : Tab w) (hsum : wrap64 (xn + yn) = 1) (hbb : (bb != 0) = true) (HB : Hid (binF op ⟨ak, an, ab⟩ ⟨1, bn, bb⟩ = (⟨xk, xn, xb⟩, true))) (HF : Hid (flipF op = (f, true))) (HG : Hid (binF f ⟨ak, an, ab⟩ ⟨1, bn, bb⟩ = (⟨yk, yn, yb⟩, true))) (HS : Hid (swapF op = (s, true))) (HT : Hid (binF s ⟨1, bn, bb⟩ ⟨ak, an, ab⟩ = (⟨xk, xn, xb⟩, true))) :
    Calls Tryd.prog 6 #[.int .i64 op, .agg #[.int .i64 ak, .int .i64 an, .int .i64 ab], .agg #[.int .i64 1, .int .i64 bn, .int .i64 bb]] w (retP (.bool true) w) := by
  go_enter Tryd.func6, Tryd.ntmps6
  go_wp2_with fail
  refine (awake_any _ (tab_keep ht (by repeat (first | exact Below.refl _ _ | refine bel_alloc ?_ _ | refine bel_set ?_ (by first | exact Nat.le_refl _ | (simp; done) | (simp; omega)) _ | refine Below.drew ?_ | refine bel_trans ?_ (by assumption))))).mono ?_
  rintro e w1 ⟨rfl, hb1⟩
  have a0 : w1.cell? ⟨w.heap.size, 0, none⟩ = some (.int .i64 ak) := keep_cell hb1 (by go_simp)
  have a1 : w1.cell? ⟨w.heap.size, 1, none⟩ = some (.int .i64 an) := keep_cell hb1 (by go_simp)
  have a2 : w1.cell? ⟨w.heap.size, 2, none⟩ = some (.int .i64 ab) := keep_cell hb1 (by go_simp)
  have aL : w.heap.size < w1.heap.size := block_lt_of_cell a0
  have b0 : w1.cell? ⟨w.heap.size + 1, 0, none⟩ = some (.int .i64 1) := keep_cell hb1 (by go_simp)
  have b1 : w1.cell? ⟨w.heap.size + 1, 1, none⟩ = some (.int .i64 bn) := keep_cell hb1 (by go_simp)
  have b2 : w1.cell? ⟨w.heap.size + 1, 2, none⟩ = some (.int .i64 bb) := keep_cell hb1 (by go_simp)
  have bL : w.heap.size + 1 < w1.heap.size := block_lt_of_cell b0
  go_wp2_with fail
  refine (bin_to op ak an ab 1 bn bb xk xn xb true _ HB.out).mono ?_
  rintro e w2 ⟨rfl, hb2⟩
  replace a0 : w2.cell? ⟨w.heap.size, 0, none⟩ = some (.int .i64 ak) := keep_cell hb2 (by go_simp)
  replace a1 : w2.cell? ⟨w.heap.size, 1, none⟩ = some (.int .i64 an) := keep_cell hb2 (by go_simp)
  replace a2 : w2.cell? ⟨w.heap.size, 2, none⟩ = some (.int .i64 ab) := keep_cell hb2 (by go_simp)
  replace aL : w.heap.size < w2.heap.size := block_lt_of_cell a0
  replace b0 : w2.cell? ⟨w.heap.size + 1, 0, none⟩ = some (.int .i64 1) := keep_cell hb2 (by go_simp)
  replace b1 : w2.cell? ⟨w.heap.size + 1, 1, none⟩ = some (.int .i64 bn) := keep_cell hb2 (by go_simp)
  replace b2 : w2.cell? ⟨w.heap.size + 1, 2, none⟩ = some (.int .i64 bb) := keep_cell hb2 (by go_simp)
  replace bL : w.heap.size + 1 < w2.heap.size := block_lt_of_cell b0
  go_wp2_with fail
  refine (flip_to op f true _ HF.out).mono ?_
  rintro e w' ⟨rfl, hw'⟩
  replace hw' := hw'.symm
  subst hw'
  go_wp2_with fail
  refine (bin_to f ak an ab 1 bn bb yk yn yb true _ HG.out).mono ?_
  rintro e w3 ⟨rfl, hb3⟩
  replace a0 : w3.cell? ⟨w.heap.size, 0, none⟩ = some (.int .i64 ak) := keep_cell hb3 (by go_simp)
  replace a1 : w3.cell? ⟨w.heap.size, 1, none⟩ = some (.int .i64 an) := keep_cell hb3 (by go_simp)
  replace a2 : w3.cell? ⟨w.heap.size, 2, none⟩ = some (.int .i64 ab) := keep_cell hb3 (by go_simp)
  replace aL : w.heap.size < w3.heap.size := block_lt_of_cell a0
  replace b0 : w3.cell? ⟨w.heap.size + 1, 0, none⟩ = some (.int .i64 1) := keep_cell hb3 (by go_simp)
  replace b1 : w3.cell? ⟨w.heap.size + 1, 1, none⟩ = some (.int .i64 bn) := keep_cell hb3 (by go_simp)
  replace b2 : w3.cell? ⟨w.heap.size + 1, 2, none⟩ = some (.int .i64 bb) := keep_cell hb3 (by go_simp)
  replace bL : w.heap.size + 1 < w3.heap.size := block_lt_of_cell b0
  have x0 : w3.cell? ⟨w2.heap.size, 0, none⟩ = some (.int .i64 xk) := keep_cell hb3 (by go_simp)
  have x1 : w3.cell? ⟨w2.heap.size, 1, none⟩ = some (.int .i64 xn) := keep_cell hb3 (by go_simp)
  have x2 : w3.cell? ⟨w2.heap.size, 2, none⟩ = some (.int .i64 xb) := keep_cell hb3 (by go_simp)
  have xL : w2.heap.size < w3.heap.size := block_lt_of_cell x0
  go_wp2_with fail
  refine (swap_to op s true _ HS.out).mono ?_
  rintro e w' ⟨rfl, hw'⟩
  replace hw' := hw'.symm
  subst hw'
  go_wp2_with fail
  refine (bin_to s 1 bn bb ak an ab xk xn xb true _ HT.out).mono ?_
  rintro e w4 ⟨rfl, hb4⟩
  replace a0 : w4.cell? ⟨w.heap.size, 0, none⟩ = some (.int .i64 ak) := keep_cell hb4 (by go_simp)
  replace a1 : w4.cell? ⟨w.heap.size, 1, none⟩ = some (.int .i64 an) := keep_cell hb4 (by go_simp)
  replace a2 : w4.cell? ⟨w.heap.size, 2, none⟩ = some (.int .i64 ab) := keep_cell hb4 (by go_simp)
  replace aL : w.heap.size < w4.heap.size := block_lt_of_cell a0
  replace b0 : w4.cell? ⟨w.heap.size + 1, 0, none⟩ = some (.int .i64 1) := keep_cell hb4 (by go_simp)
  replace b1 : w4.cell? ⟨w.heap.size + 1, 1, none⟩ = some (.int .i64 bn) := keep_cell hb4 (by go_simp)
  replace b2 : w4.cell? ⟨w.heap.size + 1, 2, none⟩ = some (.int .i64 bb) := keep_cell hb4 (by go_simp)
  replace bL : w.heap.size + 1 < w4.heap.size := block_lt_of_cell b0
  replace x0 : w4.cell? ⟨w2.heap.size, 0, none⟩ = some (.int .i64 xk) := keep_cell hb4 (by go_simp)
  replace x1 : w4.cell? ⟨w2.heap.size, 1, none⟩ = some (.int .i64 xn) := keep_cell hb4 (by go_simp)
  replace x2 : w4.cell? ⟨w2.heap.size, 2, none⟩ = some (.int .i64 xb) := keep_cell hb4 (by go_simp)
  replace xL : w2.heap.size < w4.heap.size := block_lt_of_cell x0
  have y0 : w4.cell? ⟨w3.heap.size, 0, none⟩ = some (.int .i64 yk) := keep_cell hb4 (by go_simp)
  have y1 : w4.cell? ⟨w3.heap.size, 1, none⟩ = some (.int .i64 yn) := keep_cell hb4 (by go_simp)
  have y2 : w4.cell? ⟨w3.heap.size, 2, none⟩ = some (.int .i64 yb) := keep_cell hb4 (by go_simp)
  have yL : w3.heap.size < w4.heap.size := block_lt_of_cell y0
  go_wp2
  go_ret
  exact ⟨rfl, (by repeat (first | exact Below.refl _ _ | refine bel_alloc ?_ _ | refine bel_set ?_ (by first | exact Nat.le_refl _ | (simp; done) | (simp; omega)) _ | refine Below.drew ?_ | refine bel_trans ?_ (by assumption)))⟩

set_option maxHeartbeats 8000000 in
theorem laws_A1C1 (op ak an ab bn xk xn xb f yk yn yb s pk pn pb qk qn qb rk rn rb mk mn mb : Int) (o1 o2 : Bool) (w : World) (ht : Tab w) (hsum : wrap64 (xn + yn) = 1) (HB : Hid (binF op ⟨ak, an, ab⟩ ⟨1, bn, 0⟩ = (⟨xk, xn, xb⟩, true))) (HF : Hid (flipF op = (f, true))) (HG : Hid (binF f ⟨ak, an, ab⟩ ⟨1, bn, 0⟩ = (⟨yk, yn, yb⟩, true))) (HS : Hid (swapF op = (s, true))) (HT : Hid (binF s ⟨1, bn, 0⟩ ⟨ak, an, ab⟩ = (⟨xk, xn, xb⟩, true))) (HP : Hid (binF 11 ⟨ak, an, ab⟩ ⟨1, bn, 0⟩ = (⟨pk, pn, pb⟩, true))) (HQ : Hid (binF 12 ⟨pk, pn, pb⟩ ⟨1, bn, 0⟩ = (⟨ak, an, ab⟩, true))) (HD : Hid (binF 14 ⟨ak, an, ab⟩ ⟨1, bn, 0⟩ = (⟨qk, qn, qb⟩, true))) (HE : Hid (binF 15 ⟨ak, an, ab⟩ ⟨1, bn, 0⟩ = (⟨rk, rn, rb⟩, true))) (HU : Hid (binF 13 ⟨qk, qn, qb⟩ ⟨1, bn, 0⟩ = (⟨mk, mn, mb⟩, o1))) (HV : Hid (binF 11 ⟨mk, mn, mb⟩ ⟨rk, rn, rb⟩ = (⟨ak, an, ab⟩, o2))) :
    Calls Tryd.prog 6 #[.int .i64 op, .agg #[.int .i64 ak, .int .i64 an, .int .i64 ab], .agg #[.int .i64 1, .int .i64 bn, .int .i64 0]] w (retP (.bool true) w) := by
  go_enter Tryd.func6, Tryd.ntmps6
  go_wp2_with fail
  refine (awake_any _ (tab_keep ht (by repeat (first | exact Below.refl _ _ | refine bel_alloc ?_ _ | refine bel_set ?_ (by first | exact Nat.le_refl _ | (simp; done) | (simp; omega)) _ | refine Below.drew ?_ | refine bel_trans ?_ (by assumption))))).mono ?_
  rintro e w1 ⟨rfl, hb1⟩
  have a0 : w1.cell? ⟨w.heap.size, 0, none⟩ = some (.int .i64 ak) := keep_cell hb1 (by go_simp)
  have a1 : w1.cell? ⟨w.heap.size, 1, none⟩ = some (.int .i64 an) := keep_cell hb1 (by go_simp)
  have a2 : w1.cell? ⟨w.heap.size, 2, none⟩ = some (.int .i64 ab) := keep_cell hb1 (by go_simp)
  have aL : w.heap.size < w1.heap.size := block_lt_of_cell a0
  have b0 : w1.cell? ⟨w.heap.size + 1, 0, none⟩ = some (.int .i64 1) := keep_cell hb1 (by go_simp)
  have b1 : w1.cell? ⟨w.heap.size + 1, 1, none⟩ = some (.int .i64 bn) := keep_cell hb1 (by go_simp)
  have b2 : w1.cell? ⟨w.heap.size + 1, 2, none⟩ = some (.int .i64 0) := keep_cell hb1 (by go_simp)
  have bL : w.heap.size + 1 < w1.heap.size := block_lt_of_cell b0
  go_wp2_with fail
  refine (bin_to op ak an ab 1 bn 0 xk xn xb true _ HB.out).mono ?_
  rintro e w2 ⟨rfl, hb2⟩
  replace a0 : w2.cell? ⟨w.heap.size, 0, none⟩ = some (.int .i64 ak) := keep_cell hb2 (by go_simp)
  replace a1 : w2.cell? ⟨w.heap.size, 1, none⟩ = some (.int .i64 an) := keep_cell hb2 (by go_simp)
  replace a2 : w2.cell? ⟨w.heap.size, 2, none⟩ = some (.int .i64 ab) := keep_cell hb2 (by go_simp)
  replace aL : w.heap.size < w2.heap.size := block_lt_of_cell a0
  replace b0 : w2.cell? ⟨w.heap.size + 1, 0, none⟩ = some (.int .i64 1) := keep_cell hb2 (by go_simp)
  replace b1 : w2.cell? ⟨w.heap.size + 1, 1, none⟩ = some (.int .i64 bn) := keep_cell hb2 (by go_simp)
  replace b2 : w2.cell? ⟨w.heap.size + 1, 2, none⟩ = some (.int .i64 0) := keep_cell hb2 (by go_simp)
  replace bL : w.heap.size + 1 < w2.heap.size := block_lt_of_cell b0
  go_wp2_with fail
  refine (flip_to op f true _ HF.out).mono ?_
  rintro e w' ⟨rfl, hw'⟩
  replace hw' := hw'.symm
  subst hw'
  go_wp2_with fail
  refine (bin_to f ak an ab 1 bn 0 yk yn yb true _ HG.out).mono ?_
  rintro e w3 ⟨rfl, hb3⟩
  replace a0 : w3.cell? ⟨w.heap.size, 0, none⟩ = some (.int .i64 ak) := keep_cell hb3 (by go_simp)
  replace a1 : w3.cell? ⟨w.heap.size, 1, none⟩ = some (.int .i64 an) := keep_cell hb3 (by go_simp)
  replace a2 : w3.cell? ⟨w.heap.size, 2, none⟩ = some (.int .i64 ab) := keep_cell hb3 (by go_simp)
  replace aL : w.heap.size < w3.heap.size := block_lt_of_cell a0
  replace b0 : w3.cell? ⟨w.heap.size + 1, 0, none⟩ = some (.int .i64 1) := keep_cell hb3 (by go_simp)
  replace b1 : w3.cell? ⟨w.heap.size + 1, 1, none⟩ = some (.int .i64 bn) := keep_cell hb3 (by go_simp)
  replace b2 : w3.cell? ⟨w.heap.size + 1, 2, none⟩ = some (.int .i64 0) := keep_cell hb3 (by go_simp)
  replace bL : w.heap.size + 1 < w3.heap.size := block_lt_of_cell b0
  have x0 : w3.cell? ⟨w2.heap.size, 0, none⟩ = some (.int .i64 xk) := keep_cell hb3 (by go_simp)
  have x1 : w3.cell? ⟨w2.heap.size, 1, none⟩ = some (.int .i64 xn) := keep_cell hb3 (by go_simp)
  have x2 : w3.cell? ⟨w2.heap.size, 2, none⟩ = some (.int .i64 xb) := keep_cell hb3 (by go_simp)
  have xL : w2.heap.size < w3.heap.size := block_lt_of_cell x0
  go_wp2_with fail
  refine (swap_to op s true _ HS.out).mono ?_
  rintro e w' ⟨rfl, hw'⟩
  replace hw' := hw'.symm
  subst hw'
  go_wp2_with fail
  refine (bin_to s 1 bn 0 ak an ab xk xn xb true _ HT.out).mono ?_
  rintro e w4 ⟨rfl, hb4⟩
  replace a0 : w4.cell? ⟨w.heap.size, 0, none⟩ = some (.int .i64 ak) := keep_cell hb4 (by go_simp)
  replace a1 : w4.cell? ⟨w.heap.size, 1, none⟩ = some (.int .i64 an) := keep_cell hb4 (by go_simp)
  replace a2 : w4.cell? ⟨w.heap.size, 2, none⟩ = some (.int .i64 ab) := keep_cell hb4 (by go_simp)
  replace aL : w.heap.size < w4.heap.size := block_lt_of_cell a0
  replace b0 : w4.cell? ⟨w.heap.size + 1, 0, none⟩ = some (.int .i64 1) := keep_cell hb4 (by go_simp)
  replace b1 : w4.cell? ⟨w.heap.size + 1, 1, none⟩ = some (.int .i64 bn) := keep_cell hb4 (by go_simp)
  replace b2 : w4.cell? ⟨w.heap.size + 1, 2, none⟩ = some (.int .i64 0) := keep_cell hb4 (by go_simp)
  replace bL : w.heap.size + 1 < w4.heap.size := block_lt_of_cell b0
  replace x0 : w4.cell? ⟨w2.heap.size, 0, none⟩ = some (.int .i64 xk) := keep_cell hb4 (by go_simp)
  replace x1 : w4.cell? ⟨w2.heap.size, 1, none⟩ = some (.int .i64 xn) := keep_cell hb4 (by go_simp)
  replace x2 : w4.cell? ⟨w2.heap.size, 2, none⟩ = some (.int .i64 xb) := keep_cell hb4 (by go_simp)
  replace xL : w2.heap.size < w4.heap.size := block_lt_of_cell x0
  have y0 : w4.cell? ⟨w3.heap.size, 0, none⟩ = some (.int .i64 yk) := keep_cell hb4 (by go_simp)
  have y1 : w4.cell? ⟨w3.heap.size, 1, none⟩ = some (.int .i64 yn) := keep_cell hb4 (by go_simp)
  have y2 : w4.cell? ⟨w3.heap.size, 2, none⟩ = some (.int .i64 yb) := keep_cell hb4 (by go_simp)
  have yL : w3.heap.size < w4.heap.size := block_lt_of_cell y0
  go_wp2_with fail
  refine (bin_to 11 ak an ab 1 bn 0 pk pn pb true _ HP.out).mono ?_
  rintro e w5 ⟨rfl, hb5⟩
  replace a0 : w5.cell? ⟨w.heap.size, 0, none⟩ = some (.int .i64 ak) := keep_cell hb5 (by go_simp)
  replace a1 : w5.cell? ⟨w.heap.size, 1, none⟩ = some (.int .i64 an) := keep_cell hb5 (by go_simp)
  replace a2 : w5.cell? ⟨w.heap.size, 2, none⟩ = some (.int .i64 ab) := keep_cell hb5 (by go_simp)
  replace aL : w.heap.size < w5.heap.size := block_lt_of_cell a0
  replace b0 : w5.cell? ⟨w.heap.size + 1, 0, none⟩ = some (.int .i64 1) := keep_cell hb5 (by go_simp)
  replace b1 : w5.cell? ⟨w.heap.size + 1, 1, none⟩ = some (.int .i64 bn) := keep_cell hb5 (by go_simp)
  replace b2 : w5.cell? ⟨w.heap.size + 1, 2, none⟩ = some (.int .i64 0) := keep_cell hb5 (by go_simp)
  replace bL : w.heap.size + 1 < w5.heap.size := block_lt_of_cell b0
  replace x0 : w5.cell? ⟨w2.heap.size, 0, none⟩ = some (.int .i64 xk) := keep_cell hb5 (by go_simp)
  replace x1 : w5.cell? ⟨w2.heap.size, 1, none⟩ = some (.int .i64 xn) := keep_cell hb5 (by go_simp)
  replace x2 : w5.cell? ⟨w2.heap.size, 2, none⟩ = some (.int .i64 xb) := keep_cell hb5 (by go_simp)
  replace xL : w2.heap.size < w5.heap.size := block_lt_of_cell x0
  have z0 : w5.cell? ⟨w4.heap.size, 0, none⟩ = some (.int .i64 xk) := keep_cell hb5 (by go_simp)
  have z1 : w5.cell? ⟨w4.heap.size, 1, none⟩ = some (.int .i64 xn) := keep_cell hb5 (by go_simp)
  have z2 : w5.cell? ⟨w4.heap.size, 2, none⟩ = some (.int .i64 xb) := keep_cell hb5 (by go_simp)
  have zL : w4.heap.size < w5.heap.size := block_lt_of_cell z0
  go_wp2_with fail
  refine (bin_to 12 pk pn pb 1 bn 0 ak an ab true _ HQ.out).mono ?_
  rintro e w6 ⟨rfl, hb6⟩
  replace a0 : w6.cell? ⟨w.heap.size, 0, none⟩ = some (.int .i64 ak) := keep_cell hb6 (by go_simp)
  replace a1 : w6.cell? ⟨w.heap.size, 1, none⟩ = some (.int .i64 an) := keep_cell hb6 (by go_simp)
  replace a2 : w6.cell? ⟨w.heap.size, 2, none⟩ = some (.int .i64 ab) := keep_cell hb6 (by go_simp)
  replace aL : w.heap.size < w6.heap.size := block_lt_of_cell a0
  replace b0 : w6.cell? ⟨w.heap.size + 1, 0, none⟩ = some (.int .i64 1) := keep_cell hb6 (by go_simp)
  replace b1 : w6.cell? ⟨w.heap.size + 1, 1, none⟩ = some (.int .i64 bn) := keep_cell hb6 (by go_simp)
  replace b2 : w6.cell? ⟨w.heap.size + 1, 2, none⟩ = some (.int .i64 0) := keep_cell hb6 (by go_simp)
  replace bL : w.heap.size + 1 < w6.heap.size := block_lt_of_cell b0
  have p0 : w6.cell? ⟨w5.heap.size, 0, none⟩ = some (.int .i64 pk) := keep_cell hb6 (by go_simp)
  have p1 : w6.cell? ⟨w5.heap.size, 1, none⟩ = some (.int .i64 pn) := keep_cell hb6 (by go_simp)
  have p2 : w6.cell? ⟨w5.heap.size, 2, none⟩ = some (.int .i64 pb) := keep_cell hb6 (by go_simp)
  have pL : w5.heap.size < w6.heap.size := block_lt_of_cell p0
  go_wp2_with fail
  refine (bin_to 14 ak an ab 1 bn 0 qk qn qb true _ HD.out).mono ?_
  rintro e w7 ⟨rfl, hb7⟩
  replace a0 : w7.cell? ⟨w.heap.size, 0, none⟩ = some (.int .i64 ak) := keep_cell hb7 (by go_simp)
  replace a1 : w7.cell? ⟨w.heap.size, 1, none⟩ = some (.int .i64 an) := keep_cell hb7 (by go_simp)
  replace a2 : w7.cell? ⟨w.heap.size, 2, none⟩ = some (.int .i64 ab) := keep_cell hb7 (by go_simp)
  replace aL : w.heap.size < w7.heap.size := block_lt_of_cell a0
  replace b0 : w7.cell? ⟨w.heap.size + 1, 0, none⟩ = some (.int .i64 1) := keep_cell hb7 (by go_simp)
  replace b1 : w7.cell? ⟨w.heap.size + 1, 1, none⟩ = some (.int .i64 bn) := keep_cell hb7 (by go_simp)
  replace b2 : w7.cell? ⟨w.heap.size + 1, 2, none⟩ = some (.int .i64 0) := keep_cell hb7 (by go_simp)
  replace bL : w.heap.size + 1 < w7.heap.size := block_lt_of_cell b0
  have g0 : w7.cell? ⟨w6.heap.size, 0, none⟩ = some (.int .i64 ak) := keep_cell hb7 (by go_simp)
  have g1 : w7.cell? ⟨w6.heap.size, 1, none⟩ = some (.int .i64 an) := keep_cell hb7 (by go_simp)
  have g2 : w7.cell? ⟨w6.heap.size, 2, none⟩ = some (.int .i64 ab) := keep_cell hb7 (by go_simp)
  have gL : w6.heap.size < w7.heap.size := block_lt_of_cell g0
  go_wp2_with fail
  refine (bin_to 15 ak an ab 1 bn 0 rk rn rb true _ HE.out).mono ?_
  rintro e w8 ⟨rfl, hb8⟩
  replace a0 : w8.cell? ⟨w.heap.size, 0, none⟩ = some (.int .i64 ak) := keep_cell hb8 (by go_simp)
  replace a1 : w8.cell? ⟨w.heap.size, 1, none⟩ = some (.int .i64 an) := keep_cell hb8 (by go_simp)
  replace a2 : w8.cell? ⟨w.heap.size, 2, none⟩ = some (.int .i64 ab) := keep_cell hb8 (by go_simp)
  replace aL : w.heap.size < w8.heap.size := block_lt_of_cell a0
  replace b0 : w8.cell? ⟨w.heap.size + 1, 0, none⟩ = some (.int .i64 1) := keep_cell hb8 (by go_simp)
  replace b1 : w8.cell? ⟨w.heap.size + 1, 1, none⟩ = some (.int .i64 bn) := keep_cell hb8 (by go_simp)
  replace b2 : w8.cell? ⟨w.heap.size + 1, 2, none⟩ = some (.int .i64 0) := keep_cell hb8 (by go_simp)
  replace bL : w.heap.size + 1 < w8.heap.size := block_lt_of_cell b0
  have q0 : w8.cell? ⟨w7.heap.size, 0, none⟩ = some (.int .i64 qk) := keep_cell hb8 (by go_simp)
  have q1 : w8.cell? ⟨w7.heap.size, 1, none⟩ = some (.int .i64 qn) := keep_cell hb8 (by go_simp)
  have q2 : w8.cell? ⟨w7.heap.size, 2, none⟩ = some (.int .i64 qb) := keep_cell hb8 (by go_simp)
  have qL : w7.heap.size < w8.heap.size := block_lt_of_cell q0
  go_wp2_with fail
  refine (bin_to 13 qk qn qb 1 bn 0 mk mn mb o1 _ HU.out).mono ?_
  rintro e w9 ⟨rfl, hb9⟩
  replace a0 : w9.cell? ⟨w.heap.size, 0, none⟩ = some (.int .i64 ak) := keep_cell hb9 (by go_simp)
  replace a1 : w9.cell? ⟨w.heap.size, 1, none⟩ = some (.int .i64 an) := keep_cell hb9 (by go_simp)
  replace a2 : w9.cell? ⟨w.heap.size, 2, none⟩ = some (.int .i64 ab) := keep_cell hb9 (by go_simp)
  replace aL : w.heap.size < w9.heap.size := block_lt_of_cell a0
  replace b0 : w9.cell? ⟨w.heap.size + 1, 0, none⟩ = some (.int .i64 1) := keep_cell hb9 (by go_simp)
  replace b1 : w9.cell? ⟨w.heap.size + 1, 1, none⟩ = some (.int .i64 bn) := keep_cell hb9 (by go_simp)
  replace b2 : w9.cell? ⟨w.heap.size + 1, 2, none⟩ = some (.int .i64 0) := keep_cell hb9 (by go_simp)
  replace bL : w.heap.size + 1 < w9.heap.size := block_lt_of_cell b0
  replace q0 : w9.cell? ⟨w7.heap.size, 0, none⟩ = some (.int .i64 qk) := keep_cell hb9 (by go_simp)
  replace q1 : w9.cell? ⟨w7.heap.size, 1, none⟩ = some (.int .i64 qn) := keep_cell hb9 (by go_simp)
  replace q2 : w9.cell? ⟨w7.heap.size, 2, none⟩ = some (.int .i64 qb) := keep_cell hb9 (by go_simp)
  replace qL : w7.heap.size < w9.heap.size := block_lt_of_cell q0
  have r0 : w9.cell? ⟨w8.heap.size, 0, none⟩ = some (.int .i64 rk) := keep_cell hb9 (by go_simp)
  have r1 : w9.cell? ⟨w8.heap.size, 1, none⟩ = some (.int .i64 rn) := keep_cell hb9 (by go_simp)
  have r2 : w9.cell? ⟨w8.heap.size, 2, none⟩ = some (.int .i64 rb) := keep_cell hb9 (by go_simp)
  have rL : w8.heap.size < w9.heap.size := block_lt_of_cell r0
  go_wp2_with fail
  refine (bin_to 11 mk mn mb rk rn rb ak an ab o2 _ HV.out).mono ?_
  rintro e w10 ⟨rfl, hb10⟩
  replace a0 : w10.cell? ⟨w.heap.size, 0, none⟩ = some (.int .i64 ak) := keep_cell hb10 (by go_simp)
  replace a1 : w10.cell? ⟨w.heap.size, 1, none⟩ = some (.int .i64 an) := keep_cell hb10 (by go_simp)
  replace a2 : w10.cell? ⟨w.heap.size, 2, none⟩ = some (.int .i64 ab) := keep_cell hb10 (by go_simp)
  replace aL : w.heap.size < w10.heap.size := block_lt_of_cell a0
  replace b0 : w10.cell? ⟨w.heap.size + 1, 0, none⟩ = some (.int .i64 1) := keep_cell hb10 (by go_simp)
  replace b1 : w10.cell? ⟨w.heap.size + 1, 1, none⟩ = some (.int .i64 bn) := keep_cell hb10 (by go_simp)
  replace b2 : w10.cell? ⟨w.heap.size + 1, 2, none⟩ = some (.int .i64 0) := keep_cell hb10 (by go_simp)
  replace bL : w.heap.size + 1 < w10.heap.size := block_lt_of_cell b0
  replace r0 : w10.cell? ⟨w8.heap.size, 0, none⟩ = some (.int .i64 rk) := keep_cell hb10 (by go_simp)
  replace r1 : w10.cell? ⟨w8.heap.size, 1, none⟩ = some (.int .i64 rn) := keep_cell hb10 (by go_simp)
  replace r2 : w10.cell? ⟨w8.heap.size, 2, none⟩ = some (.int .i64 rb) := keep_cell hb10 (by go_simp)
  replace rL : w8.heap.size < w10.heap.size := block_lt_of_cell r0
  have m0 : w10.cell? ⟨w9.heap.size, 0, none⟩ = some (.int .i64 mk) := keep_cell hb10 (by go_simp)
  have m1 : w10.cell? ⟨w9.heap.size, 1, none⟩ = some (.int .i64 mn) := keep_cell hb10 (by go_simp)
  have m2 : w10.cell? ⟨w9.heap.size, 2, none⟩ = some (.int .i64 mb) := keep_cell hb10 (by go_simp)
  have mL : w9.heap.size < w10.heap.size := block_lt_of_cell m0
  go_wp2
  go_ret
  exact ⟨rfl, (by repeat (first | exact Below.refl _ _ | refine bel_alloc ?_ _ | refine bel_set ?_ (by first | exact Nat.le_refl _ | (simp; done) | (simp; omega)) _ | refine Below.drew ?_ | refine bel_trans ?_ (by assumption)))⟩

set_option maxHeartbeats 8000000 in
theorem laws_A1C2 (op ak an ab bn xk xn xb f yk yn yb s pk pn pb qk qn qb rk rn rb : Int) (w : World) (ht : Tab w) (hsum : wrap64 (xn + yn) = 1) (HB : Hid (binF op ⟨ak, an, ab⟩ ⟨1, bn, 0⟩ = (⟨xk, xn, xb⟩, true))) (HF : Hid (flipF op = (f, true))) (HG : Hid (binF f ⟨ak, an, ab⟩ ⟨1, bn, 0⟩ = (⟨yk, yn, yb⟩, true))) (HS : Hid (swapF op = (s, true))) (HT : Hid (binF s ⟨1, bn, 0⟩ ⟨ak, an, ab⟩ = (⟨xk, xn, xb⟩, true))) (HP : Hid (binF 11 ⟨ak, an, ab⟩ ⟨1, bn, 0⟩ = (⟨pk, pn, pb⟩, true))) (HQ : Hid (binF 12 ⟨pk, pn, pb⟩ ⟨1, bn, 0⟩ = (⟨ak, an, ab⟩, true))) (HD : Hid (binF 14 ⟨ak, an, ab⟩ ⟨1, bn, 0⟩ = (⟨qk, qn, qb⟩, false))) (HE : Hid (binF 15 ⟨ak, an, ab⟩ ⟨1, bn, 0⟩ = (⟨rk, rn, rb⟩, false))) :
    Calls Tryd.prog 6 #[.int .i64 op, .agg #[.int .i64 ak, .int .i64 an, .int .i64 ab], .agg #[.int .i64 1, .int .i64 bn, .int .i64 0]] w (retP (.bool true) w) := by
  go_enter Tryd.func6, Tryd.ntmps6
  go_wp2_with fail
  refine (awake_any _ (tab_keep ht (by repeat (first | exact Below.refl _ _ | refine bel_alloc ?_ _ | refine bel_set ?_ (by first | exact Nat.le_refl _ | (simp; done) | (simp; omega)) _ | refine Below.drew ?_ | refine bel_trans ?_ (by assumption))))).mono ?_
  rintro e w1 ⟨rfl, hb1⟩
  have a0 : w1.cell? ⟨w.heap.size, 0, none⟩ = some (.int .i64 ak) := keep_cell hb1 (by go_simp)
  have a1 : w1.cell? ⟨w.heap.size, 1, none⟩ = some (.int .i64 an) := keep_cell hb1 (by go_simp)
  have a2 : w1.cell? ⟨w.heap.size, 2, none⟩ = some (.int .i64 ab) := keep_cell hb1 (by go_simp)
  have aL : w.heap.size < w1.heap.size := block_lt_of_cell a0
  have b0 : w1.cell? ⟨w.heap.size + 1, 0, none⟩ = some (.int .i64 1) := keep_cell hb1 (by go_simp)
  have b1 : w1.cell? ⟨w.heap.size + 1, 1, none⟩ = some (.int .i64 bn) := keep_cell hb1 (by go_simp)
  have b2 : w1.cell? ⟨w.heap.size + 1, 2, none⟩ = some (.int .i64 0) := keep_cell hb1 (by go_simp)
  have bL : w.heap.size + 1 < w1.heap.size := block_lt_of_cell b0
  go_wp2_with fail
  refine (bin_to op ak an ab 1 bn 0 xk xn xb true _ HB.out).mono ?_
  rintro e w2 ⟨rfl, hb2⟩
  replace a0 : w2.cell? ⟨w.heap.size, 0, none⟩ = some (.int .i64 ak) := keep_cell hb2 (by go_simp)
  replace a1 : w2.cell? ⟨w.heap.size, 1, none⟩ = some (.int .i64 an) := keep_cell hb2 (by go_simp)
  replace a2 : w2.cell? ⟨w.heap.size, 2, none⟩ = some (.int .i64 ab) := keep_cell hb2 (by go_simp)
  replace aL : w.heap.size < w2.heap.size := block_lt_of_cell a0
  replace b0 : w2.cell? ⟨w.heap.size + 1, 0, none⟩ = some (.int .i64 1) := keep_cell hb2 (by go_simp)
  replace b1 : w2.cell? ⟨w.heap.size + 1, 1, none⟩ = some (.int .i64 bn) := keep_cell hb2 (by go_simp)
  replace b2 : w2.cell? ⟨w.heap.size + 1, 2, none⟩ = some (.int .i64 0) := keep_cell hb2 (by go_simp)
  replace bL : w.heap.size + 1 < w2.heap.size := block_lt_of_cell b0
  go_wp2_with fail
  refine (flip_to op f true _ HF.out).mono ?_
  rintro e w' ⟨rfl, hw'⟩
  replace hw' := hw'.symm
  subst hw'
  go_wp2_with fail
  refine (bin_to f ak an ab 1 bn 0 yk yn yb true _ HG.out).mono ?_
  rintro e w3 ⟨rfl, hb3⟩
  replace a0 : w3.cell? ⟨w.heap.size, 0, none⟩ = some (.int .i64 ak) := keep_cell hb3 (by go_simp)
  replace a1 : w3.cell? ⟨w.heap.size, 1, none⟩ = some (.int .i64 an) := keep_cell hb3 (by go_simp)
  replace a2 : w3.cell? ⟨w.heap.size, 2, none⟩ = some (.int .i64 ab) := keep_cell hb3 (by go_simp)
  replace aL : w.heap.size < w3.heap.size := block_lt_of_cell a0
  replace b0 : w3.cell? ⟨w.heap.size + 1, 0, none⟩ = some (.int .i64 1) := keep_cell hb3 (by go_simp)
  replace b1 : w3.cell? ⟨w.heap.size + 1, 1, none⟩ = some (.int .i64 bn) := keep_cell hb3 (by go_simp)
  replace b2 : w3.cell? ⟨w.heap.size + 1, 2, none⟩ = some (.int .i64 0) := keep_cell hb3 (by go_simp)
  replace bL : w.heap.size + 1 < w3.heap.size := block_lt_of_cell b0
  have x0 : w3.cell? ⟨w2.heap.size, 0, none⟩ = some (.int .i64 xk) := keep_cell hb3 (by go_simp)
  have x1 : w3.cell? ⟨w2.heap.size, 1, none⟩ = some (.int .i64 xn) := keep_cell hb3 (by go_simp)
  have x2 : w3.cell? ⟨w2.heap.size, 2, none⟩ = some (.int .i64 xb) := keep_cell hb3 (by go_simp)
  have xL : w2.heap.size < w3.heap.size := block_lt_of_cell x0
  go_wp2_with fail
  refine (swap_to op s true _ HS.out).mono ?_
  rintro e w' ⟨rfl, hw'⟩
  replace hw' := hw'.symm
  subst hw'
  go_wp2_with fail
  refine (bin_to s 1 bn 0 ak an ab xk xn xb true _ HT.out).mono ?_
  rintro e w4 ⟨rfl, hb4⟩
  replace a0 : w4.cell? ⟨w.heap.size, 0, none⟩ = some (.int .i64 ak) := keep_cell hb4 (by go_simp)
  replace a1 : w4.cell? ⟨w.heap.size, 1, none⟩ = some (.int .i64 an) := keep_cell hb4 (by go_simp)
  replace a2 : w4.cell? ⟨w.heap.size, 2, none⟩ = some (.int .i64 ab) := keep_cell hb4 (by go_simp)
  replace aL : w.heap.size < w4.heap.size := block_lt_of_cell a0
  replace b0 : w4.cell? ⟨w.heap.size + 1, 0, none⟩ = some (.int .i64 1) := keep_cell hb4 (by go_simp)
  replace b1 : w4.cell? ⟨w.heap.size + 1, 1, none⟩ = some (.int .i64 bn) := keep_cell hb4 (by go_simp)
  replace b2 : w4.cell? ⟨w.heap.size + 1, 2, none⟩ = some (.int .i64 0) := keep_cell hb4 (by go_simp)
  replace bL : w.heap.size + 1 < w4.heap.size := block_lt_of_cell b0
  replace x0 : w4.cell? ⟨w2.heap.size, 0, none⟩ = some (.int .i64 xk) := keep_cell hb4 (by go_simp)
  replace x1 : w4.cell? ⟨w2.heap.size, 1, none⟩ = some (.int .i64 xn) := keep_cell hb4 (by go_simp)
  replace x2 : w4.cell? ⟨w2.heap.size, 2, none⟩ = some (.int .i64 xb) := keep_cell hb4 (by go_simp)
  replace xL : w2.heap.size < w4.heap.size := block_lt_of_cell x0
  have y0 : w4.cell? ⟨w3.heap.size, 0, none⟩ = some (.int .i64 yk) := keep_cell hb4 (by go_simp)
  have y1 : w4.cell? ⟨w3.heap.size, 1, none⟩ = some (.int .i64 yn) := keep_cell hb4 (by go_simp)
  have y2 : w4.cell? ⟨w3.heap.size, 2, none⟩ = some (.int .i64 yb) := keep_cell hb4 (by go_simp)
  have yL : w3.heap.size < w4.heap.size := block_lt_of_cell y0
  go_wp2_with fail
  refine (bin_to 11 ak an ab 1 bn 0 pk pn pb true _ HP.out).mono ?_
  rintro e w5 ⟨rfl, hb5⟩
  replace a0 : w5.cell? ⟨w.heap.size, 0, none⟩ = some (.int .i64 ak) := keep_cell hb5 (by go_simp)
  replace a1 : w5.cell? ⟨w.heap.size, 1, none⟩ = some (.int .i64 an) := keep_cell hb5 (by go_simp)
  replace a2 : w5.cell? ⟨w.heap.size, 2, none⟩ = some (.int .i64 ab) := keep_cell hb5 (by go_simp)
  replace aL : w.heap.size < w5.heap.size := block_lt_of_cell a0
  replace b0 : w5.cell? ⟨w.heap.size + 1, 0, none⟩ = some (.int .i64 1) := keep_cell hb5 (by go_simp)
  replace b1 : w5.cell? ⟨w.heap.size + 1, 1, none⟩ = some (.int .i64 bn) := keep_cell hb5 (by go_simp)
  replace b2 : w5.cell? ⟨w.heap.size + 1, 2, none⟩ = some (.int .i64 0) := keep_cell hb5 (by go_simp)
  replace bL : w.heap.size + 1 < w5.heap.size := block_lt_of_cell b0
  replace x0 : w5.cell? ⟨w2.heap.size, 0, none⟩ = some (.int .i64 xk) := keep_cell hb5 (by go_simp)
  replace x1 : w5.cell? ⟨w2.heap.size, 1, none⟩ = some (.int .i64 xn) := keep_cell hb5 (by go_simp)
  replace x2 : w5.cell? ⟨w2.heap.size, 2, none⟩ = some (.int .i64 xb) := keep_cell hb5 (by go_simp)
  replace xL : w2.heap.size < w5.heap.size := block_lt_of_cell x0
  have z0 : w5.cell? ⟨w4.heap.size, 0, none⟩ = some (.int .i64 xk) := keep_cell hb5 (by go_simp)
  have z1 : w5.cell? ⟨w4.heap.size, 1, none⟩ = some (.int .i64 xn) := keep_cell hb5 (by go_simp)
  have z2 : w5.cell? ⟨w4.heap.size, 2, none⟩ = some (.int .i64 xb) := keep_cell hb5 (by go_simp)
  have zL : w4.heap.size < w5.heap.size := block_lt_of_cell z0
  go_wp2_with fail
  refine (bin_to 12 pk pn pb 1 bn 0 ak an ab true _ HQ.out).mono ?_
  rintro e w6 ⟨rfl, hb6⟩
  replace a0 : w6.cell? ⟨w.heap.size, 0, none⟩ = some (.int .i64 ak) := keep_cell hb6 (by go_simp)
  replace a1 : w6.cell? ⟨w.heap.size, 1, none⟩ = some (.int .i64 an) := keep_cell hb6 (by go_simp)
  replace a2 : w6.cell? ⟨w.heap.size, 2, none⟩ = some (.int .i64 ab) := keep_cell hb6 (by go_simp)
  replace aL : w.heap.size < w6.heap.size := block_lt_of_cell a0
  replace b0 : w6.cell? ⟨w.heap.size + 1, 0, none⟩ = some (.int .i64 1) := keep_cell hb6 (by go_simp)
  replace b1 : w6.cell? ⟨w.heap.size + 1, 1, none⟩ = some (.int .i64 bn) := keep_cell hb6 (by go_simp)
  replace b2 : w6.cell? ⟨w.heap.size + 1, 2, none⟩ = some (.int .i64 0) := keep_cell hb6 (by go_simp)
  replace bL : w.heap.size + 1 < w6.heap.size := block_lt_of_cell b0
  have p0 : w6.cell? ⟨w5.heap.size, 0, none⟩ = some (.int .i64 pk) := keep_cell hb6 (by go_simp)
  have p1 : w6.cell? ⟨w5.heap.size, 1, none⟩ = some (.int .i64 pn) := keep_cell hb6 (by go_simp)
  have p2 : w6.cell? ⟨w5.heap.size, 2, none⟩ = some (.int .i64 pb) := keep_cell hb6 (by go_simp)
  have pL : w5.heap.size < w6.heap.size := block_lt_of_cell p0
  go_wp2_with fail
  refine (bin_to 14 ak an ab 1 bn 0 qk qn qb false _ HD.out).mono ?_
  rintro e w7 ⟨rfl, hb7⟩
  replace a0 : w7.cell? ⟨w.heap.size, 0, none⟩ = some (.int .i64 ak) := keep_cell hb7 (by go_simp)
  replace a1 : w7.cell? ⟨w.heap.size, 1, none⟩ = some (.int .i64 an) := keep_cell hb7 (by go_simp)
  replace a2 : w7.cell? ⟨w.heap.size, 2, none⟩ = some (.int .i64 ab) := keep_cell hb7 (by go_simp)
  replace aL : w.heap.size < w7.heap.size := block_lt_of_cell a0
  replace b0 : w7.cell? ⟨w.heap.size + 1, 0, none⟩ = some (.int .i64 1) := keep_cell hb7 (by go_simp)
  replace b1 : w7.cell? ⟨w.heap.size + 1, 1, none⟩ = some (.int .i64 bn) := keep_cell hb7 (by go_simp)
  replace b2 : w7.cell? ⟨w.heap.size + 1, 2, none⟩ = some (.int .i64 0) := keep_cell hb7 (by go_simp)
  replace bL : w.heap.size + 1 < w7.heap.size := block_lt_of_cell b0
  have g0 : w7.cell? ⟨w6.heap.size, 0, none⟩ = some (.int .i64 ak) := keep_cell hb7 (by go_simp)
  have g1 : w7.cell? ⟨w6.heap.size, 1, none⟩ = some (.int .i64 an) := keep_cell hb7 (by go_simp)
  have g2 : w7.cell? ⟨w6.heap.size, 2, none⟩ = some (.int .i64 ab) := keep_cell hb7 (by go_simp)
  have gL : w6.heap.size < w7.heap.size := block_lt_of_cell g0
  go_wp2_with fail
  refine (bin_to 15 ak an ab 1 bn 0 rk rn rb false _ HE.out).mono ?_
  rintro e w8 ⟨rfl, hb8⟩
  replace a0 : w8.cell? ⟨w.heap.size, 0, none⟩ = some (.int .i64 ak) := keep_cell hb8 (by go_simp)
  replace a1 : w8.cell? ⟨w.heap.size, 1, none⟩ = some (.int .i64 an) := keep_cell hb8 (by go_simp)
  replace a2 : w8.cell? ⟨w.heap.size, 2, none⟩ = some (.int .i64 ab) := keep_cell hb8 (by go_simp)
  replace aL : w.heap.size < w8.heap.size := block_lt_of_cell a0
  replace b0 : w8.cell? ⟨w.heap.size + 1, 0, none⟩ = some (.int .i64 1) := keep_cell hb8 (by go_simp)
  replace b1 : w8.cell? ⟨w.heap.size + 1, 1, none⟩ = some (.int .i64 bn) := keep_cell hb8 (by go_simp)
  replace b2 : w8.cell? ⟨w.heap.size + 1, 2, none⟩ = some (.int .i64 0) := keep_cell hb8 (by go_simp)
  replace bL : w.heap.size + 1 < w8.heap.size := block_lt_of_cell b0
  have q0 : w8.cell? ⟨w7.heap.size, 0, none⟩ = some (.int .i64 qk) := keep_cell hb8 (by go_simp)
  have q1 : w8.cell? ⟨w7.heap.size, 1, none⟩ = some (.int .i64 qn) := keep_cell hb8 (by go_simp)
  have q2 : w8.cell? ⟨w7.heap.size, 2, none⟩ = some (.int .i64 qb) := keep_cell hb8 (by go_simp)
  have qL : w7.heap.size < w8.heap.size := block_lt_of_cell q0
  go_wp2
  go_ret
  exact ⟨rfl, (by repeat (first | exact Below.refl _ _ | refine bel_alloc ?_ _ | refine bel_set ?_ (by first | exact Nat.le_refl _ | (simp; done) | (simp; omega)) _ | refine Below.drew ?_ | refine bel_trans ?_ (by assumption)))⟩

set_option maxHeartbeats 8000000 in
theorem laws_A1C3 (op ak an ab bn xk xn xb f yk yn yb s pk pn pb qk qn qb rk rn rb : Int) (w : World) (ht : Tab w) (hsum : wrap64 (xn + yn) = 1) (HB : Hid (binF op ⟨ak, an, ab⟩ ⟨1, bn, 0⟩ = (⟨xk, xn, xb⟩, true))) (HF : Hid (flipF op = (f, true))) (HG : Hid (binF f ⟨ak, an, ab⟩ ⟨1, bn, 0⟩ = (⟨yk, yn, yb⟩, true))) (HS : Hid (swapF op = (s, true))) (HT : Hid (binF s ⟨1, bn, 0⟩ ⟨ak, an, ab⟩ = (⟨xk, xn, xb⟩, true))) (HP : Hid (binF 11 ⟨ak, an, ab⟩ ⟨1, bn, 0⟩ = (⟨pk, pn, pb⟩, false))) (HD : Hid (binF 14 ⟨ak, an, ab⟩ ⟨1, bn, 0⟩ = (⟨qk, qn, qb⟩, false))) (HE : Hid (binF 15 ⟨ak, an, ab⟩ ⟨1, bn, 0⟩ = (⟨rk, rn, rb⟩, false))) :
    Calls Tryd.prog 6 #[.int .i64 op, .agg #[.int .i64 ak, .int .i64 an, .int .i64 ab], .agg #[.int .i64 1, .int .i64 bn, .int .i64 0]] w (retP (.bool true) w) := by
  go_enter Tryd.func6, Tryd.ntmps6
  go_wp2_with fail
  refine (awake_any _ (tab_keep ht (by repeat (first | exact Below.refl _ _ | refine bel_alloc ?_ _ | refine bel_set ?_ (by first | exact Nat.le_refl _ | (simp; done) | (simp; omega)) _ | refine Below.drew ?_ | refine bel_trans ?_ (by assumption))))).mono ?_
  rintro e w1 ⟨rfl, hb1⟩
  have a0 : w1.cell? ⟨w.heap.size, 0, none⟩ = some (.int .i64 ak) := keep_cell hb1 (by go_simp)
  have a1 : w1.cell? ⟨w.heap.size, 1, none⟩ = some (.int .i64 an) := keep_cell hb1 (by go_simp)
  have a2 : w1.cell? ⟨w.heap.size, 2, none⟩ = some (.int .i64 ab) := keep_cell hb1 (by go_simp)
  have aL : w.heap.size < w1.heap.size := block_lt_of_cell a0
  have b0 : w1.cell? ⟨w.heap.size + 1, 0, none⟩ = some (.int .i64 1) := keep_cell hb1 (by go_simp)
  have b1 : w1.cell? ⟨w.heap.size + 1, 1, none⟩ = some (.int .i64 bn) := keep_cell hb1 (by go_simp)
  have b2 : w1.cell? ⟨w.heap.size + 1, 2, none⟩ = some (.int .i64 0) := keep_cell hb1 (by go_simp)
  have bL : w.heap.size + 1 < w1.heap.size := block_lt_of_cell b0
  go_wp2_with fail
  refine (bin_to op ak an ab 1 bn 0 xk xn xb true _ HB.out).mono ?_
  rintro e w2 ⟨rfl, hb2⟩
  replace a0 : w2.cell? ⟨w.heap.size, 0, none⟩ = some (.int .i64 ak) := keep_cell hb2 (by go_simp)
  replace a1 : w2.cell? ⟨w.heap.size, 1, none⟩ = some (.int .i64 an) := keep_cell hb2 (by go_simp)
  replace a2 : w2.cell? ⟨w.heap.size, 2, none⟩ = some (.int .i64 ab) := keep_cell hb2 (by go_simp)
  replace aL : w.heap.size < w2.heap.size := block_lt_of_cell a0
  replace b0 : w2.cell? ⟨w.heap.size + 1, 0, none⟩ = some (.int .i64 1) := keep_cell hb2 (by go_simp)
  replace b1 : w2.cell? ⟨w.heap.size + 1, 1, none⟩ = some (.int .i64 bn) := keep_cell hb2 (by go_simp)
  replace b2 : w2.cell? ⟨w.heap.size + 1, 2, none⟩ = some (.int .i64 0) := keep_cell hb2 (by go_simp)
  replace bL : w.heap.size + 1 < w2.heap.size := block_lt_of_cell b0
  go_wp2_with fail
  refine (flip_to op f true _ HF.out).mono ?_
  rintro e w' ⟨rfl, hw'⟩
  replace hw' := hw'.symm
  subst hw'
  go_wp2_with fail
  refine (bin_to f ak an ab 1 bn 0 yk yn yb true _ HG.out).mono ?_
  rintro e w3 ⟨rfl, hb3⟩
  replace a0 : w3.cell? ⟨w.heap.size, 0, none⟩ = some (.int .i64 ak) := keep_cell hb3 (by go_simp)
  replace a1 : w3.cell? ⟨w.heap.size, 1, none⟩ = some (.int .i64 an) := keep_cell hb3 (by go_simp)
  replace a2 : w3.cell? ⟨w.heap.size, 2, none⟩ = some (.int .i64 ab) := keep_cell hb3 (by go_simp)
  replace aL : w.heap.size < w3.heap.size := block_lt_of_cell a0
  replace b0 : w3.cell? ⟨w.heap.size + 1, 0, none⟩ = some (.int .i64 1) := keep_cell hb3 (by go_simp)
  replace b1 : w3.cell? ⟨w.heap.size + 1, 1, none⟩ = some (.int .i64 bn) := keep_cell hb3 (by go_simp)
  replace b2 : w3.cell? ⟨w.heap.size + 1, 2, none⟩ = some (.int .i64 0) := keep_cell hb3 (by go_simp)
  replace bL : w.heap.size + 1 < w3.heap.size := block_lt_of_cell b0
  have x0 : w3.cell? ⟨w2.heap.size, 0, none⟩ = some (.int .i64 xk) := keep_cell hb3 (by go_simp)
  have x1 : w3.cell? ⟨w2.heap.size, 1, none⟩ = some (.int .i64 xn) := keep_cell hb3 (by go_simp)
  have x2 : w3.cell? ⟨w2.heap.size, 2, none⟩ = some (.int .i64 xb) := keep_cell hb3 (by go_simp)
  have xL : w2.heap.size < w3.heap.size := block_lt_of_cell x0
  go_wp2_with fail
  refine (swap_to op s true _ HS.out).mono ?_
  rintro e w' ⟨rfl, hw'⟩
  replace hw' := hw'.symm
  subst hw'
  go_wp2_with fail
  refine (bin_to s 1 bn 0 ak an ab xk xn xb true _ HT.out).mono ?_
  rintro e w4 ⟨rfl, hb4⟩
  replace a0 : w4.cell? ⟨w.heap.size, 0, none⟩ = some (.int .i64 ak) := keep_cell hb4 (by go_simp)
  replace a1 : w4.cell? ⟨w.heap.size, 1, none⟩ = some (.int .i64 an) := keep_cell hb4 (by go_simp)
  replace a2 : w4.cell? ⟨w.heap.size, 2, none⟩ = some (.int .i64 ab) := keep_cell hb4 (by go_simp)
  replace aL : w.heap.size < w4.heap.size := block_lt_of_cell a0
  replace b0 : w4.cell? ⟨w.heap.size + 1, 0, none⟩ = some (.int .i64 1) := keep_cell hb4 (by go_simp)
  replace b1 : w4.cell? ⟨w.heap.size + 1, 1, none⟩ = some (.int .i64 bn) := keep_cell hb4 (by go_simp)
  replace b2 : w4.cell? ⟨w.heap.size + 1, 2, none⟩ = some (.int .i64 0) := keep_cell hb4 (by go_simp)
  replace bL : w.heap.size + 1 < w4.heap.size := block_lt_of_cell b0
  replace x0 : w4.cell? ⟨w2.heap.size, 0, none⟩ = some (.int .i64 xk) := keep_cell hb4 (by go_simp)
  replace x1 : w4.cell? ⟨w2.heap.size, 1, none⟩ = some (.int .i64 xn) := keep_cell hb4 (by go_simp)
  replace x2 : w4.cell? ⟨w2.heap.size, 2, none⟩ = some (.int .i64 xb) := keep_cell hb4 (by go_simp)
  replace xL : w2.heap.size < w4.heap.size := block_lt_of_cell x0
  have y0 : w4.cell? ⟨w3.heap.size, 0, none⟩ = some (.int .i64 yk) := keep_cell hb4 (by go_simp)
  have y1 : w4.cell? ⟨w3.heap.size, 1, none⟩ = some (.int .i64 yn) := keep_cell hb4 (by go_simp)
  have y2 : w4.cell? ⟨w3.heap.size, 2, none⟩ = some (.int .i64 yb) := keep_cell hb4 (by go_simp)
  have yL : w3.heap.size < w4.heap.size := block_lt_of_cell y0
  go_wp2_with fail
  refine (bin_to 11 ak an ab 1 bn 0 pk pn pb false _ HP.out).mono ?_
  rintro e w5 ⟨rfl, hb5⟩
  replace a0 : w5.cell? ⟨w.heap.size, 0, none⟩ = some (.int .i64 ak) := keep_cell hb5 (by go_simp)
  replace a1 : w5.cell? ⟨w.heap.size, 1, none⟩ = some (.int .i64 an) := keep_cell hb5 (by go_simp)
  replace a2 : w5.cell? ⟨w.heap.size, 2, none⟩ = some (.int .i64 ab) := keep_cell hb5 (by go_simp)
  replace aL : w.heap.size < w5.heap.size := block_lt_of_cell a0
  replace b0 : w5.cell? ⟨w.heap.size + 1, 0, none⟩ = some (.int .i64 1) := keep_cell hb5 (by go_simp)
  replace b1 : w5.cell? ⟨w.heap.size + 1, 1, none⟩ = some (.int .i64 bn) := keep_cell hb5 (by go_simp)
  replace b2 : w5.cell? ⟨w.heap.size + 1, 2, none⟩ = some (.int .i64 0) := keep_cell hb5 (by go_simp)
  replace bL : w.heap.size + 1 < w5.heap.size := block_lt_of_cell b0
  replace x0 : w5.cell? ⟨w2.heap.size, 0, none⟩ = some (.int .i64 xk) := keep_cell hb5 (by go_simp)
  replace x1 : w5.cell? ⟨w2.heap.size, 1, none⟩ = some (.int .i64 xn) := keep_cell hb5 (by go_simp)
  replace x2 : w5.cell? ⟨w2.heap.size, 2, none⟩ = some (.int .i64 xb) := keep_cell hb5 (by go_simp)
  replace xL : w2.heap.size < w5.heap.size := block_lt_of_cell x0
  have z0 : w5.cell? ⟨w4.heap.size, 0, none⟩ = some (.int .i64 xk) := keep_cell hb5 (by go_simp)
  have z1 : w5.cell? ⟨w4.heap.size, 1, none⟩ = some (.int .i64 xn) := keep_cell hb5 (by go_simp)
  have z2 : w5.cell? ⟨w4.heap.size, 2, none⟩ = some (.int .i64 xb) := keep_cell hb5 (by go_simp)
  have zL : w4.heap.size < w5.heap.size := block_lt_of_cell z0
  go_wp2_with fail
  refine (bin_to 14 ak an ab 1 bn 0 qk qn qb false _ HD.out).mono ?_
  rintro e w6 ⟨rfl, hb6⟩
  replace a0 : w6.cell? ⟨w.heap.size, 0, none⟩ = some (.int .i64 ak) := keep_cell hb6 (by go_simp)
  replace a1 : w6.cell? ⟨w.heap.size, 1, none⟩ = some (.int .i64 an) := keep_cell hb6 (by go_simp)
  replace a2 : w6.cell? ⟨w.heap.size, 2, none⟩ = some (.int .i64 ab) := keep_cell hb6 (by go_simp)
  replace aL : w.heap.size < w6.heap.size := block_lt_of_cell a0
  replace b0 : w6.cell? ⟨w.heap.size + 1, 0, none⟩ = some (.int .i64 1) := keep_cell hb6 (by go_simp)
  replace b1 : w6.cell? ⟨w.heap.size + 1, 1, none⟩ = some (.int .i64 bn) := keep_cell hb6 (by go_simp)
  replace b2 : w6.cell? ⟨w.heap.size + 1, 2, none⟩ = some (.int .i64 0) := keep_cell hb6 (by go_simp)
  replace bL : w.heap.size + 1 < w6.heap.size := block_lt_of_cell b0
  have p0 : w6.cell? ⟨w5.heap.size, 0, none⟩ = some (.int .i64 pk) := keep_cell hb6 (by go_simp)
  have p1 : w6.cell? ⟨w5.heap.size, 1, none⟩ = some (.int .i64 pn) := keep_cell hb6 (by go_simp)
  have p2 : w6.cell? ⟨w5.heap.size, 2, none⟩ = some (.int .i64 pb) := keep_cell hb6 (by go_simp)
  have pL : w5.heap.size < w6.heap.size := block_lt_of_cell p0
  go_wp2_with fail
  refine (bin_to 15 ak an ab 1 bn 0 rk rn rb false _ HE.out).mono ?_
  rintro e w7 ⟨rfl, hb7⟩
  replace a0 : w7.cell? ⟨w.heap.size, 0, none⟩ = some (.int .i64 ak) := keep_cell hb7 (by go_simp)
  replace a1 : w7.cell? ⟨w.heap.size, 1, none⟩ = some (.int .i64 an) := keep_cell hb7 (by go_simp)
  replace a2 : w7.cell? ⟨w.heap.size, 2, none⟩ = some (.int .i64 ab) := keep_cell hb7 (by go_simp)
  replace aL : w.heap.size < w7.heap.size := block_lt_of_cell a0
  replace b0 : w7.cell? ⟨w.heap.size + 1, 0, none⟩ = some (.int .i64 1) := keep_cell hb7 (by go_simp)
  replace b1 : w7.cell? ⟨w.heap.size + 1, 1, none⟩ = some (.int .i64 bn) := keep_cell hb7 (by go_simp)
  replace b2 : w7.cell? ⟨w.heap.size + 1, 2, none⟩ = some (.int .i64 0) := keep_cell hb7 (by go_simp)
  replace bL : w.heap.size + 1 < w7.heap.size := block_lt_of_cell b0
  have q0 : w7.cell? ⟨w6.heap.size, 0, none⟩ = some (.int .i64 qk) := keep_cell hb7 (by go_simp)
  have q1 : w7.cell? ⟨w6.heap.size, 1, none⟩ = some (.int .i64 qn) := keep_cell hb7 (by go_simp)
  have q2 : w7.cell? ⟨w6.heap.size, 2, none⟩ = some (.int .i64 qb) := keep_cell hb7 (by go_simp)
  have qL : w6.heap.size < w7.heap.size := block_lt_of_cell q0
  go_wp2
  go_ret
  exact ⟨rfl, (by repeat (first | exact Below.refl _ _ | refine bel_alloc ?_ _ | refine bel_set ?_ (by first | exact Nat.le_refl _ | (simp; done) | (simp; omega)) _ | refine Below.drew ?_ | refine bel_trans ?_ (by assumption)))⟩

set_option maxHeartbeats 8000000 in
theorem laws_A2B1 (op ak an ab bk bn bb xk xn xb f yk yn yb s : Int) (w : World) (ht : Tab w) (hbk : (bk != 1) = true) (HB : Hid (binF op ⟨ak, an, ab⟩ ⟨bk, bn, bb⟩ = (⟨xk, xn, xb⟩, false))) (HF : Hid (flipF op = (f, true))) (HG : Hid (binF f ⟨ak, an, ab⟩ ⟨bk, bn, bb⟩ = (⟨yk, yn, yb⟩, false))) (HS : Hid (swapF op = (s, true))) (HT : Hid (binF s ⟨bk, bn, bb⟩ ⟨ak, an, ab⟩ = (⟨xk, xn, xb⟩, false))) :
    Calls Tryd.prog 6 #[.int .i64 op, .agg #[.int .i64 ak, .int .i64 an, .int .i64 ab], .agg #[.int .i64 bk, .int .i64 bn, .int .i64 bb]] w (retP (.bool true) w) := by
  go_enter Tryd.func6, Tryd.ntmps6
  go_wp2_with fail
  refine (awake_any _ (tab_keep ht (by repeat (first | exact Below.refl _ _ | refine bel_alloc ?_ _ | refine bel_set ?_ (by first | exact Nat.le_refl _ | (simp; done) | (simp; omega)) _ | refine Below.drew ?_ | refine bel_trans ?_ (by assumption))))).mono ?_
  rintro e w1 ⟨rfl, hb1⟩
  have a0 : w1.cell? ⟨w.heap.size, 0, none⟩ = some (.int .i64 ak) := keep_cell hb1 (by go_simp)
  have a1 : w1.cell? ⟨w.heap.size, 1, none⟩ = some (.int .i64 an) := keep_cell hb1 (by go_simp)
  have a2 : w1.cell? ⟨w.heap.size, 2, none⟩ = some (.int .i64 ab) := keep_cell hb1 (by go_simp)
  have aL : w.heap.size < w1.heap.size := block_lt_of_cell a0
  have b0 : w1.cell? ⟨w.heap.size + 1, 0, none⟩ = some (.int .i64 bk) := keep_cell hb1 (by go_simp)
  have b1 : w1.cell? ⟨w.heap.size + 1, 1, none⟩ = some (.int .i64 bn) := keep_cell hb1 (by go_simp)
  have b2 : w1.cell? ⟨w.heap.size + 1, 2, none⟩ = some (.int .i64 bb) := keep_cell hb1 (by go_simp)
  have bL : w.heap.size + 1 < w1.heap.size := block_lt_of_cell b0
  go_wp2_with fail
  refine (bin_to op ak an ab bk bn bb xk xn xb false _ HB.out).mono ?_
  rintro e w2 ⟨rfl, hb2⟩
  replace a0 : w2.cell? ⟨w.heap.size, 0, none⟩ = some (.int .i64 ak) := keep_cell hb2 (by go_simp)
  replace a1 : w2.cell? ⟨w.heap.size, 1, none⟩ = some (.int .i64 an) := keep_cell hb2 (by go_simp)
  replace a2 : w2.cell? ⟨w.heap.size, 2, none⟩ = some (.int .i64 ab) := keep_cell hb2 (by go_simp)
  replace aL : w.heap.size < w2.heap.size := block_lt_of_cell a0
  replace b0 : w2.cell? ⟨w.heap.size + 1, 0, none⟩ = some (.int .i64 bk) := keep_cell hb2 (by go_simp)
  replace b1 : w2.cell? ⟨w.heap.size + 1, 1, none⟩ = some (.int .i64 bn) := keep_cell hb2 (by go_simp)
  replace b2 : w2.cell? ⟨w.heap.size + 1, 2, none⟩ = some (.int .i64 bb) := keep_cell hb2 (by go_simp)
  replace bL : w.heap.size + 1 < w2.heap.size := block_lt_of_cell b0
  go_wp2_with fail
  refine (flip_to op f true _ HF.out).mono ?_
  rintro e w' ⟨rfl, hw'⟩
  replace hw' := hw'.symm
  subst hw'
  go_wp2_with fail
  refine (bin_to f ak an ab bk bn bb yk yn yb false _ HG.out).mono ?_
  rintro e w3 ⟨rfl, hb3⟩
  replace a0 : w3.cell? ⟨w.heap.size, 0, none⟩ = some (.int .i64 ak) := keep_cell hb3 (by go_simp)
  replace a1 : w3.cell? ⟨w.heap.size, 1, none⟩ = some (.int .i64 an) := keep_cell hb3 (by go_simp)
  replace a2 : w3.cell? ⟨w.heap.size, 2, none⟩ = some (.int .i64 ab) := keep_cell hb3 (by go_simp)
  replace aL : w.heap.size < w3.heap.size := block_lt_of_cell a0
  replace b0 : w3.cell? ⟨w.heap.size + 1, 0, none⟩ = some (.int .i64 bk) := keep_cell hb3 (by go_simp)
  replace b1 : w3.cell? ⟨w.heap.size + 1, 1, none⟩ = some (.int .i64 bn) := keep_cell hb3 (by go_simp)
  replace b2 : w3.cell? ⟨w.heap.size + 1, 2, none⟩ = some (.int .i64 bb) := keep_cell hb3 (by go_simp)
  replace bL : w.heap.size + 1 < w3.heap.size := block_lt_of_cell b0
  have x0 : w3.cell? ⟨w2.heap.size, 0, none⟩ = some (.int .i64 xk) := keep_cell hb3 (by go_simp)
  have x1 : w3.cell? ⟨w2.heap.size, 1, none⟩ = some (.int .i64 xn) := keep_cell hb3 (by go_simp)
  have x2 : w3.cell? ⟨w2.heap.size, 2, none⟩ = some (.int .i64 xb) := keep_cell hb3 (by go_simp)
  have xL : w2.heap.size < w3.heap.size := block_lt_of_cell x0
  go_wp2_with fail
  refine (swap_to op s true _ HS.out).mono ?_
  rintro e w' ⟨rfl, hw'⟩
  replace hw' := hw'.symm
  subst hw'
  go_wp2_with fail
  refine (bin_to s bk bn bb ak an ab xk xn xb false _ HT.out).mono ?_
  rintro e w4 ⟨rfl, hb4⟩
  replace a0 : w4.cell? ⟨w.heap.size, 0, none⟩ = some (.int .i64 ak) := keep_cell hb4 (by go_simp)
  replace a1 : w4.cell? ⟨w.heap.size, 1, none⟩ = some (.int .i64 an) := keep_cell hb4 (by go_simp)
  replace a2 : w4.cell? ⟨w.heap.size, 2, none⟩ = some (.int .i64 ab) := keep_cell hb4 (by go_simp)
  replace aL : w.heap.size < w4.heap.size := block_lt_of_cell a0
  replace b0 : w4.cell? ⟨w.heap.size + 1, 0, none⟩ = some (.int .i64 bk) := keep_cell hb4 (by go_simp)
  replace b1 : w4.cell? ⟨w.heap.size + 1, 1, none⟩ = some (.int .i64 bn) := keep_cell hb4 (by go_simp)
  replace b2 : w4.cell? ⟨w.heap.size + 1, 2, none⟩ = some (.int .i64 bb) := keep_cell hb4 (by go_simp)
  replace bL : w.heap.size + 1 < w4.heap.size := block_lt_of_cell b0
  replace x0 : w4.cell? ⟨w2.heap.size, 0, none⟩ = some (.int .i64 xk) := keep_cell hb4 (by go_simp)
  replace x1 : w4.cell? ⟨w2.heap.size, 1, none⟩ = some (.int .i64 xn) := keep_cell hb4 (by go_simp)
  replace x2 : w4.cell? ⟨w2.heap.size, 2, none⟩ = some (.int .i64 xb) := keep_cell hb4 (by go_simp)
  replace xL : w2.heap.size < w4.heap.size := block_lt_of_cell x0
  have y0 : w4.cell? ⟨w3.heap.size, 0, none⟩ = some (.int .i64 yk) := keep_cell hb4 (by go_simp)
  have y1 : w4.cell? ⟨w3.heap.size, 1, none⟩ = some (.int .i64 yn) := keep_cell hb4 (by go_simp)
  have y2 : w4.cell? ⟨w3.heap.size, 2, none⟩ = some (.int .i64 yb) := keep_cell hb4 (by go_simp)
  have yL : w3.heap.size < w4.heap.size := block_lt_of_cell y0
  go_wp2
  go_ret
  exact ⟨rfl, (by repeat (first | exact Below.refl _ _ | refine bel_alloc ?_ _ | refine bel_set ?_ (by first | exact Nat.le_refl _ | (simp; done) | (simp; omega)) _ | refine Below.drew ?_ | refine bel_trans ?_ (by assumption)))⟩

set_option maxHeartbeats 8000000 in
theorem laws_A2B2 (op ak an ab bn bb xk xn xb f yk yn yb s : Int) (w : World) (ht : Tab w) (hbb : (bb != 0) = true) (HB : Hid (binF op ⟨ak, an, ab⟩ ⟨1, bn, bb⟩ = (⟨xk, xn, xb⟩, false))) (HF : Hid (flipF op = (f, true))) (HG : Hid (binF f ⟨ak, an, ab⟩ ⟨1, bn, bb⟩ = (⟨yk, yn, yb⟩, false))) (HS : Hid (swapF op = (s, true))) (HT : Hid (binF s ⟨1, bn, bb⟩ ⟨ak, an, ab⟩ = (⟨xk, xn, xb⟩, false))) :
    Calls Tryd.prog 6 #[.int .i64 op, .agg #[.int .i64 ak, .int .i64 an, .int .i64 ab], .agg #[.int .i64 1, .int .i64 bn, .int .i64 bb]] w (retP (.bool true) w) := by
  go_enter Tryd.func6, Tryd.ntmps6
  go_wp2_with fail
  refine (awake_any _ (tab_keep ht (by repeat (first | exact Below.refl _ _ | refine bel_alloc ?_ _ | refine bel_set ?_ (by first | exact Nat.le_refl _ | (simp; done) | (simp; omega)) _ | refine Below.drew ?_ | refine bel_trans ?_ (by assumption))))).mono ?_
  rintro e w1 ⟨rfl, hb1⟩
  have a0 : w1.cell? ⟨w.heap.size, 0, none⟩ = some (.int .i64 ak) := keep_cell hb1 (by go_simp)
  have a1 : w1.cell? ⟨w.heap.size, 1, none⟩ = some (.int .i64 an) := keep_cell hb1 (by go_simp)
  have a2 : w1.cell? ⟨w.heap.size, 2, none⟩ = some (.int .i64 ab) := keep_cell hb1 (by go_simp)
  have aL : w.heap.size < w1.heap.size := block_lt_of_cell a0
  have b0 : w1.cell? ⟨w.heap.size + 1, 0, none⟩ = some (.int .i64 1) := keep_cell hb1 (by go_simp)
  have b1 : w1.cell? ⟨w.heap.size + 1, 1, none⟩ = some (.int .i64 bn) := keep_cell hb1 (by go_simp)
  have b2 : w1.cell? ⟨w.heap.size + 1, 2, none⟩ = some (.int .i64 bb) := keep_cell hb1 (by go_simp)
  have bL : w.heap.size + 1 < w1.heap.size := block_lt_of_cell b0
  go_wp2_with fail
  refine (bin_to op ak an ab 1 bn bb xk xn xb false _ HB.out).mono ?_
  rintro e w2 ⟨rfl, hb2⟩
  replace a0 : w2.cell? ⟨w.heap.size, 0, none⟩ = some (.int .i64 ak) := keep_cell hb2 (by go_simp)
  replace a1 : w2.cell? ⟨w.heap.size, 1, none⟩ = some (.int .i64 an) := keep_cell hb2 (by go_simp)
  replace a2 : w2.cell? ⟨w.heap.size, 2, none⟩ = some (.int .i64 ab) := keep_cell hb2 (by go_simp)
  replace aL : w.heap.size < w2.heap.size := block_lt_of_cell a0
  replace b0 : w2.cell? ⟨w.heap.size + 1, 0, none⟩ = some (.int .i64 1) := keep_cell hb2 (by go_simp)
  replace b1 : w2.cell? ⟨w.heap.size + 1, 1, none⟩ = some (.int .i64 bn) := keep_cell hb2 (by go_simp)
  replace b2 : w2.cell? ⟨w.heap.size + 1, 2, none⟩ = some (.int .i64 bb) := keep_cell hb2 (by go_simp)
  replace bL : w.heap.size + 1 < w2.heap.size := block_lt_of_cell b0
  go_wp2_with fail
  refine (flip_to op f true _ HF.out).mono ?_
  rintro e w' ⟨rfl, hw'⟩
  replace hw' := hw'.symm
  subst hw'
  go_wp2_with fail
  refine (bin_to f ak an ab 1 bn bb yk yn yb false _ HG.out).mono ?_
  rintro e w3 ⟨rfl, hb3⟩
  replace a0 : w3.cell? ⟨w.heap.size, 0, none⟩ = some (.int .i64 ak) := keep_cell hb3 (by go_simp)
  replace a1 : w3.cell? ⟨w.heap.size, 1, none⟩ = some (.int .i64 an) := keep_cell hb3 (by go_simp)
  replace a2 : w3.cell? ⟨w.heap.size, 2, none⟩ = some (.int .i64 ab) := keep_cell hb3 (by go_simp)
  replace aL : w.heap.size < w3.heap.size := block_lt_of_cell a0
  replace b0 : w3.cell? ⟨w.heap.size + 1, 0, none⟩ = some (.int .i64 1) := keep_cell hb3 (by go_simp)
  replace b1 : w3.cell? ⟨w.heap.size + 1, 1, none⟩ = some (.int .i64 bn) := keep_cell hb3 (by go_simp)
  replace b2 : w3.cell? ⟨w.heap.size + 1, 2, none⟩ = some (.int .i64 bb) := keep_cell hb3 (by go_simp)
  replace bL : w.heap.size + 1 < w3.heap.size := block_lt_of_cell b0
  have x0 : w3.cell? ⟨w2.heap.size, 0, none⟩ = some (.int .i64 xk) := keep_cell hb3 (by go_simp)
  have x1 : w3.cell? ⟨w2.heap.size, 1, none⟩ = some (.int .i64 xn) := keep_cell hb3 (by go_simp)
  have x2 : w3.cell? ⟨w2.heap.size, 2, none⟩ = some (.int .i64 xb) := keep_cell hb3 (by go_simp)
  have xL : w2.heap.size < w3.heap.size := block_lt_of_cell x0
  go_wp2_with fail
  refine (swap_to op s true _ HS.out).mono ?_
  rintro e w' ⟨rfl, hw'⟩
  replace hw' := hw'.symm
  subst hw'
  go_wp2_with fail
  refine (bin_to s 1 bn bb ak an ab xk xn xb false _ HT.out).mono ?_
  rintro e w4 ⟨rfl, hb4⟩
  replace a0 : w4.cell? ⟨w.heap.size, 0, none⟩ = some (.int .i64 ak) := keep_cell hb4 (by go_simp)
  replace a1 : w4.cell? ⟨w.heap.size, 1, none⟩ = some (.int .i64 an) := keep_cell hb4 (by go_simp)
  replace a2 : w4.cell? ⟨w.heap.size, 2, none⟩ = some (.int .i64 ab) := keep_cell hb4 (by go_simp)
  replace aL : w.heap.size < w4.heap.size := block_lt_of_cell a0
  replace b0 : w4.cell? ⟨w.heap.size + 1, 0, none⟩ = some (.int .i64 1) := keep_cell hb4 (by go_simp)
  replace b1 : w4.cell? ⟨w.heap.size + 1, 1, none⟩ = some (.int .i64 bn) := keep_cell hb4 (by go_simp)
  replace b2 : w4.cell? ⟨w.heap.size + 1, 2, none⟩ = some (.int .i64 bb) := keep_cell hb4 (by go_simp)
  replace bL : w.heap.size + 1 < w4.heap.size := block_lt_of_cell b0
  replace x0 : w4.cell? ⟨w2.heap.size, 0, none⟩ = some (.int .i64 xk) := keep_cell hb4 (by go_simp)
  replace x1 : w4.cell? ⟨w2.heap.size, 1, none⟩ = some (.int .i64 xn) := keep_cell hb4 (by go_simp)
  replace x2 : w4.cell? ⟨w2.heap.size, 2, none⟩ = some (.int .i64 xb) := keep_cell hb4 (by go_simp)
  replace xL : w2.heap.size < w4.heap.size := block_lt_of_cell x0
  have y0 : w4.cell? ⟨w3.heap.size, 0, none⟩ = some (.int .i64 yk) := keep_cell hb4 (by go_simp)
  have y1 : w4.cell? ⟨w3.heap.size, 1, none⟩ = some (.int .i64 yn) := keep_cell hb4 (by go_simp)
  have y2 : w4.cell? ⟨w3.heap.size, 2, none⟩ = some (.int .i64 yb) := keep_cell hb4 (by go_simp)
  have yL : w3.heap.size < w4.heap.size := block_lt_of_cell y0
  go_wp2
  go_ret
  exact ⟨rfl, (by repeat (first | exact Below.refl _ _ | refine bel_alloc ?_ _ | refine bel_set ?_ (by first | exact Nat.le_refl _ | (simp; done) | (simp; omega)) _ | refine Below.drew ?_ | refine bel_trans ?_ (by assumption)))⟩

set_option maxHeartbeats 8000000 in
theorem laws_A2C1 (op ak an ab bn xk xn xb f yk yn yb s pk pn pb qk qn qb rk rn rb mk mn mb : Int) (o1 o2 : Bool) (w : World) (ht : Tab w) (HB : Hid (binF op ⟨ak, an, ab⟩ ⟨1, bn, 0⟩ = (⟨xk, xn, xb⟩, false))) (HF : Hid (flipF op = (f, true))) (HG : Hid (binF f ⟨ak, an, ab⟩ ⟨1, bn, 0⟩ = (⟨yk, yn, yb⟩, false))) (HS : Hid (swapF op = (s, true))) (HT : Hid (binF s ⟨1, bn, 0⟩ ⟨ak, an, ab⟩ = (⟨xk, xn, xb⟩, false))) (HP : Hid (binF 11 ⟨ak, an, ab⟩ ⟨1, bn, 0⟩ = (⟨pk, pn, pb⟩, true))) (HQ : Hid (binF 12 ⟨pk, pn, pb⟩ ⟨1, bn, 0⟩ = (⟨ak, an, ab⟩, true))) (HD : Hid (binF 14 ⟨ak, an, ab⟩ ⟨1, bn, 0⟩ = (⟨qk, qn, qb⟩, true))) (HE : Hid (binF 15 ⟨ak, an, ab⟩ ⟨1, bn, 0⟩ = (⟨rk, rn, rb⟩, true))) (HU : Hid (binF 13 ⟨qk, qn, qb⟩ ⟨1, bn, 0⟩ = (⟨mk, mn, mb⟩, o1))) (HV : Hid (binF 11 ⟨mk, mn, mb⟩ ⟨rk, rn, rb⟩ = (⟨ak, an, ab⟩, o2))) :
    Calls Tryd.prog 6 #[.int .i64 op, .agg #[.int .i64 ak, .int .i64 an, .int .i64 ab], .agg #[.int .i64 1, .int .i64 bn, .int .i64 0]] w (retP (.bool true) w) := by
  go_enter Tryd.func6, Tryd.ntmps6
  go_wp2_with fail
  refine (awake_any _ (tab_keep ht (by repeat (first | exact Below.refl _ _ | refine bel_alloc ?_ _ | refine bel_set ?_ (by first | exact Nat.le_refl _ | (simp; done) | (simp; omega)) _ | refine Below.drew ?_ | refine bel_trans ?_ (by assumption))))).mono ?_
  rintro e w1 ⟨rfl, hb1⟩
  have a0 : w1.cell? ⟨w.heap.size, 0, none⟩ = some (.int .i64 ak) := keep_cell hb1 (by go_simp)
  have a1 : w1.cell? ⟨w.heap.size, 1, none⟩ = some (.int .i64 an) := keep_cell hb1 (by go_simp)
  have a2 : w1.cell? ⟨w.heap.size, 2, none⟩ = some (.int .i64 ab) := keep_cell hb1 (by go_simp)
  have aL : w.heap.size < w1.heap.size := block_lt_of_cell a0
  have b0 : w1.cell? ⟨w.heap.size + 1, 0, none⟩ = some (.int .i64 1) := keep_cell hb1 (by go_simp)
  have b1 : w1.cell? ⟨w.heap.size + 1, 1, none⟩ = some (.int .i64 bn) := keep_cell hb1 (by go_simp)
  have b2 : w1.cell? ⟨w.heap.size + 1, 2, none⟩ = some (.int .i64 0) := keep_cell hb1 (by go_simp)
  have bL : w.heap.size + 1 < w1.heap.size := block_lt_of_cell b0
  go_wp2_with fail
  refine (bin_to op ak an ab 1 bn 0 xk xn xb false _ HB.out).mono ?_
  rintro e w2 ⟨rfl, hb2⟩
  replace a0 : w2.cell? ⟨w.heap.size, 0, none⟩ = some (.int .i64 ak) := keep_cell hb2 (by go_simp)
  replace a1 : w2.cell? ⟨w.heap.size, 1, none⟩ = some (.int .i64 an) := keep_cell hb2 (by go_simp)
  replace a2 : w2.cell? ⟨w.heap.size, 2, none⟩ = some (.int .i64 ab) := keep_cell hb2 (by go_simp)
  replace aL : w.heap.size < w2.heap.size := block_lt_of_cell a0
  replace b0 : w2.cell? ⟨w.heap.size + 1, 0, none⟩ = some (.int .i64 1) := keep_cell hb2 (by go_simp)
  replace b1 : w2.cell? ⟨w.heap.size + 1, 1, none⟩ = some (.int .i64 bn) := keep_cell hb2 (by go_simp)
  replace b2 : w2.cell? ⟨w.heap.size + 1, 2, none⟩ = some (.int .i64 0) := keep_cell hb2 (by go_simp)
  replace bL : w.heap.size + 1 < w2.heap.size := block_lt_of_cell b0
  go_wp2_with fail
  refine (flip_to op f true _ HF.out).mono ?_
  rintro e w' ⟨rfl, hw'⟩
  replace hw' := hw'.symm
  subst hw'
  go_wp2_with fail
  refine (bin_to f ak an ab 1 bn 0 yk yn yb false _ HG.out).mono ?_
  rintro e w3 ⟨rfl, hb3⟩
  replace a0 : w3.cell? ⟨w.heap.size, 0, none⟩ = some (.int .i64 ak) := keep_cell hb3 (by go_simp)
  replace a1 : w3.cell? ⟨w.heap.size, 1, none⟩ = some (.int .i64 an) := keep_cell hb3 (by go_simp)
  replace a2 : w3.cell? ⟨w.heap.size, 2, none⟩ = some (.int .i64 ab) := keep_cell hb3 (by go_simp)
  replace aL : w.heap.size < w3.heap.size := block_lt_of_cell a0
  replace b0 : w3.cell? ⟨w.heap.size + 1, 0, none⟩ = some (.int .i64 1) := keep_cell hb3 (by go_simp)
  replace b1 : w3.cell? ⟨w.heap.size + 1, 1, none⟩ = some (.int .i64 bn) := keep_cell hb3 (by go_simp)
  replace b2 : w3.cell? ⟨w.heap.size + 1, 2, none⟩ = some (.int .i64 0) := keep_cell hb3 (by go_simp)
  replace bL : w.heap.size + 1 < w3.heap.size := block_lt_of_cell b0
  have x0 : w3.cell? ⟨w2.heap.size, 0, none⟩ = some (.int .i64 xk) := keep_cell hb3 (by go_simp)
  have x1 : w3.cell? ⟨w2.heap.size, 1, none⟩ = some (.int .i64 xn) := keep_cell hb3 (by go_simp)
  have x2 : w3.cell? ⟨w2.heap.size, 2, none⟩ = some (.int .i64 xb) := keep_cell hb3 (by go_simp)
  have xL : w2.heap.size < w3.heap.size := block_lt_of_cell x0
  go_wp2_with fail
  refine (swap_to op s true _ HS.out).mono ?_
  rintro e w' ⟨rfl, hw'⟩
  replace hw' := hw'.symm
  subst hw'
  go_wp2_with fail
  refine (bin_to s 1 bn 0 ak an ab xk xn xb false _ HT.out).mono ?_
  rintro e w4 ⟨rfl, hb4⟩
  replace a0 : w4.cell? ⟨w.heap.size, 0, none⟩ = some (.int .i64 ak) := keep_cell hb4 (by go_simp)
  replace a1 : w4.cell? ⟨w.heap.size, 1, none⟩ = some (.int .i64 an) := keep_cell hb4 (by go_simp)
  replace a2 : w4.cell? ⟨w.heap.size, 2, none⟩ = some (.int .i64 ab) := keep_cell hb4 (by go_simp)
  replace aL : w.heap.size < w4.heap.size := block_lt_of_cell a0
  replace b0 : w4.cell? ⟨w.heap.size + 1, 0, none⟩ = some (.int .i64 1) := keep_cell hb4 (by go_simp)
  replace b1 : w4.cell? ⟨w.heap.size + 1, 1, none⟩ = some (.int .i64 bn) := keep_cell hb4 (by go_simp)
  replace b2 : w4.cell? ⟨w.heap.size + 1, 2, none⟩ = some (.int .i64 0) := keep_cell hb4 (by go_simp)
  replace bL : w.heap.size + 1 < w4.heap.size := block_lt_of_cell b0
  replace x0 : w4.cell? ⟨w2.heap.size, 0, none⟩ = some (.int .i64 xk) := keep_cell hb4 (by go_simp)
  replace x1 : w4.cell? ⟨w2.heap.size, 1, none⟩ = some (.int .i64 xn) := keep_cell hb4 (by go_simp)
  replace x2 : w4.cell? ⟨w2.heap.size, 2, none⟩ = some (.int .i64 xb) := keep_cell hb4 (by go_simp)
  replace xL : w2.heap.size < w4.heap.size := block_lt_of_cell x0
  have y0 : w4.cell? ⟨w3.heap.size, 0, none⟩ = some (.int .i64 yk) := keep_cell hb4 (by go_simp)
  have y1 : w4.cell? ⟨w3.heap.size, 1, none⟩ = some (.int .i64 yn) := keep_cell hb4 (by go_simp)
  have y2 : w4.cell? ⟨w3.heap.size, 2, none⟩ = some (.int .i64 yb) := keep_cell hb4 (by go_simp)
  have yL : w3.heap.size < w4.heap.size := block_lt_of_cell y0
  go_wp2_with fail
  refine (bin_to 11 ak an ab 1 bn 0 pk pn pb true _ HP.out).mono ?_
  rintro e w5 ⟨rfl, hb5⟩
  replace a0 : w5.cell? ⟨w.heap.size, 0, none⟩ = some (.int .i64 ak) := keep_cell hb5 (by go_simp)
  replace a1 : w5.cell? ⟨w.heap.size, 1, none⟩ = some (.int .i64 an) := keep_cell hb5 (by go_simp)
  replace a2 : w5.cell? ⟨w.heap.size, 2, none⟩ = some (.int .i64 ab) := keep_cell hb5 (by go_simp)
  replace aL : w.heap.size < w5.heap.size := block_lt_of_cell a0
  replace b0 : w5.cell? ⟨w.heap.size + 1, 0, none⟩ = some (.int .i64 1) := keep_cell hb5 (by go_simp)
  replace b1 : w5.cell? ⟨w.heap.size + 1, 1, none⟩ = some (.int .i64 bn) := keep_cell hb5 (by go_simp)
  replace b2 : w5.cell? ⟨w.heap.size + 1, 2, none⟩ = some (.int .i64 0) := keep_cell hb5 (by go_simp)
  replace bL : w.heap.size + 1 < w5.heap.size := block_lt_of_cell b0
  replace x0 : w5.cell? ⟨w2.heap.size, 0, none⟩ = some (.int .i64 xk) := keep_cell hb5 (by go_simp)
  replace x1 : w5.cell? ⟨w2.heap.size, 1, none⟩ = some (.int .i64 xn) := keep_cell hb5 (by go_simp)
  replace x2 : w5.cell? ⟨w2.heap.size, 2, none⟩ = some (.int .i64 xb) := keep_cell hb5 (by go_simp)
  replace xL : w2.heap.size < w5.heap.size := block_lt_of_cell x0
  have z0 : w5.cell? ⟨w4.heap.size, 0, none⟩ = some (.int .i64 xk) := keep_cell hb5 (by go_simp)
  have z1 : w5.cell? ⟨w4.heap.size, 1, none⟩ = some (.int .i64 xn) := keep_cell hb5 (by go_simp)
  have z2 : w5.cell? ⟨w4.heap.size, 2, none⟩ = some (.int .i64 xb) := keep_cell hb5 (by go_simp)
  have zL : w4.heap.size < w5.heap.size := block_lt_of_cell z0
  go_wp2_with fail
  refine (bin_to 12 pk pn pb 1 bn 0 ak an ab true _ HQ.out).mono ?_
  rintro e w6 ⟨rfl, hb6⟩
  replace a0 : w6.cell? ⟨w.heap.size, 0, none⟩ = some (.int .i64 ak) := keep_cell hb6 (by go_simp)
  replace a1 : w6.cell? ⟨w.heap.size, 1, none⟩ = some (.int .i64 an) := keep_cell hb6 (by go_simp)
  replace a2 : w6.cell? ⟨w.heap.size, 2, none⟩ = some (.int .i64 ab) := keep_cell hb6 (by go_simp)
  replace aL : w.heap.size < w6.heap.size := block_lt_of_cell a0
  replace b0 : w6.cell? ⟨w.heap.size + 1, 0, none⟩ = some (.int .i64 1) := keep_cell hb6 (by go_simp)
  replace b1 : w6.cell? ⟨w.heap.size + 1, 1, none⟩ = some (.int .i64 bn) := keep_cell hb6 (by go_simp)
  replace b2 : w6.cell? ⟨w.heap.size + 1, 2, none⟩ = some (.int .i64 0) := keep_cell hb6 (by go_simp)
  replace bL : w.heap.size + 1 < w6.heap.size := block_lt_of_cell b0
  have p0 : w6.cell? ⟨w5.heap.size, 0, none⟩ = some (.int .i64 pk) := keep_cell hb6 (by go_simp)
  have p1 : w6.cell? ⟨w5.heap.size, 1, none⟩ = some (.int .i64 pn) := keep_cell hb6 (by go_simp)
  have p2 : w6.cell? ⟨w5.heap.size, 2, none⟩ = some (.int .i64 pb) := keep_cell hb6 (by go_simp)
  have pL : w5.heap.size < w6.heap.size := block_lt_of_cell p0
  go_wp2_with fail
  refine (bin_to 14 ak an ab 1 bn 0 qk qn qb true _ HD.out).mono ?_
  rintro e w7 ⟨rfl, hb7⟩
  replace a0 : w7.cell? ⟨w.heap.size, 0, none⟩ = some (.int .i64 ak) := keep_cell hb7 (by go_simp)
  replace a1 : w7.cell? ⟨w.heap.size, 1, none⟩ = some (.int .i64 an) := keep_cell hb7 (by go_simp)
  replace a2 : w7.cell? ⟨w.heap.size, 2, none⟩ = some (.int .i64 ab) := keep_cell hb7 (by go_simp)
  replace aL : w.heap.size < w7.heap.size := block_lt_of_cell a0
  replace b0 : w7.cell? ⟨w.heap.size + 1, 0, none⟩ = some (.int .i64 1) := keep_cell hb7 (by go_simp)
  replace b1 : w7.cell? ⟨w.heap.size + 1, 1, none⟩ = some (.int .i64 bn) := keep_cell hb7 (by go_simp)
  replace b2 : w7.cell? ⟨w.heap.size + 1, 2, none⟩ = some (.int .i64 0) := keep_cell hb7 (by go_simp)
  replace bL : w.heap.size + 1 < w7.heap.size := block_lt_of_cell b0
  have g0 : w7.cell? ⟨w6.heap.size, 0, none⟩ = some (.int .i64 ak) := keep_cell hb7 (by go_simp)
  have g1 : w7.cell? ⟨w6.heap.size, 1, none⟩ = some (.int .i64 an) := keep_cell hb7 (by go_simp)
  have g2 : w7.cell? ⟨w6.heap.size, 2, none⟩ = some (.int .i64 ab) := keep_cell hb7 (by go_simp)
  have gL : w6.heap.size < w7.heap.size := block_lt_of_cell g0
  go_wp2_with fail
  refine (bin_to 15 ak an ab 1 bn 0 rk rn rb true _ HE.out).mono ?_
  rintro e w8 ⟨rfl, hb8⟩
  replace a0 : w8.cell? ⟨w.heap.size, 0, none⟩ = some (.int .i64 ak) := keep_cell hb8 (by go_simp)
  replace a1 : w8.cell? ⟨w.heap.size, 1, none⟩ = some (.int .i64 an) := keep_cell hb8 (by go_simp)
  replace a2 : w8.cell? ⟨w.heap.size, 2, none⟩ = some (.int .i64 ab) := keep_cell hb8 (by go_simp)
  replace aL : w.heap.size < w8.heap.size := block_lt_of_cell a0
  replace b0 : w8.cell? ⟨w.heap.size + 1, 0, none⟩ = some (.int .i64 1) := keep_cell hb8 (by go_simp)
  replace b1 : w8.cell? ⟨w.heap.size + 1, 1, none⟩ = some (.int .i64 bn) := keep_cell hb8 (by go_simp)
  replace b2 : w8.cell? ⟨w.heap.size + 1, 2, none⟩ = some (.int .i64 0) := keep_cell hb8 (by go_simp)
  replace bL : w.heap.size + 1 < w8.heap.size := block_lt_of_cell b0
  have q0 : w8.cell? ⟨w7.heap.size, 0, none⟩ = some (.int .i64 qk) := keep_cell hb8 (by go_simp)
  have q1 : w8.cell? ⟨w7.heap.size, 1, none⟩ = some (.int .i64 qn) := keep_cell hb8 (by go_simp)
  have q2 : w8.cell? ⟨w7.heap.size, 2, none⟩ = some (.int .i64 qb) := keep_cell hb8 (by go_simp)
  have qL : w7.heap.size < w8.heap.size := block_lt_of_cell q0
  go_wp2_with fail
  refine (bin_to 13 qk qn qb 1 bn 0 mk mn mb o1 _ HU.out).mono ?_
  rintro e w9 ⟨rfl, hb9⟩
  replace a0 : w9.cell? ⟨w.heap.size, 0, none⟩ = some (.int .i64 ak) := keep_cell hb9 (by go_simp)
  replace a1 : w9.cell? ⟨w.heap.size, 1, none⟩ = some (.int .i64 an) := keep_cell hb9 (by go_simp)
  replace a2 : w9.cell? ⟨w.heap.size, 2, none⟩ = some (.int .i64 ab) := keep_cell hb9 (by go_simp)
  replace aL : w.heap.size < w9.heap.size := block_lt_of_cell a0
  replace b0 : w9.cell? ⟨w.heap.size + 1, 0, none⟩ = some (.int .i64 1) := keep_cell hb9 (by go_simp)
  replace b1 : w9.cell? ⟨w.heap.size + 1, 1, none⟩ = some (.int .i64 bn) := keep_cell hb9 (by go_simp)
  replace b2 : w9.cell? ⟨w.heap.size + 1, 2, none⟩ = some (.int .i64 0) := keep_cell hb9 (by go_simp)
  replace bL : w.heap.size + 1 < w9.heap.size := block_lt_of_cell b0
  replace q0 : w9.cell? ⟨w7.heap.size, 0, none⟩ = some (.int .i64 qk) := keep_cell hb9 (by go_simp)
  replace q1 : w9.cell? ⟨w7.heap.size, 1, none⟩ = some (.int .i64 qn) := keep_cell hb9 (by go_simp)
  replace q2 : w9.cell? ⟨w7.heap.size, 2, none⟩ = some (.int .i64 qb) := keep_cell hb9 (by go_simp)
  replace qL : w7.heap.size < w9.heap.size := block_lt_of_cell q0
  have r0 : w9.cell? ⟨w8.heap.size, 0, none⟩ = some (.int .i64 rk) := keep_cell hb9 (by go_simp)
  have r1 : w9.cell? ⟨w8.heap.size, 1, none⟩ = some (.int .i64 rn) := keep_cell hb9 (by go_simp)
  have r2 : w9.cell? ⟨w8.heap.size, 2, none⟩ = some (.int .i64 rb) := keep_cell hb9 (by go_simp)
  have rL : w8.heap.size < w9.heap.size := block_lt_of_cell r0
  go_wp2_with fail
  refine (bin_to 11 mk mn mb rk rn rb ak an ab o2 _ HV.out).mono ?_
  rintro e w10 ⟨rfl, hb10⟩
  replace a0 : w10.cell? ⟨w.heap.size, 0, none⟩ = some (.int .i64 ak) := keep_cell hb10 (by go_simp)
  replace a1 : w10.cell? ⟨w.heap.size, 1, none⟩ = some (.int .i64 an) := keep_cell hb10 (by go_simp)
  replace a2 : w10.cell? ⟨w.heap.size, 2, none⟩ = some (.int .i64 ab) := keep_cell hb10 (by go_simp)
  replace aL : w.heap.size < w10.heap.size := block_lt_of_cell a0
  replace b0 : w10.cell? ⟨w.heap.size + 1, 0, none⟩ = some (.int .i64 1) := keep_cell hb10 (by go_simp)
  replace b1 : w10.cell? ⟨w.heap.size + 1, 1, none⟩ = some (.int .i64 bn) := keep_cell hb10 (by go_simp)
  replace b2 : w10.cell? ⟨w.heap.size + 1, 2, none⟩ = some (.int .i64 0) := keep_cell hb10 (by go_simp)
  replace bL : w.heap.size + 1 < w10.heap.size := block_lt_of_cell b0
  replace r0 : w10.cell? ⟨w8.heap.size, 0, none⟩ = some (.int .i64 rk) := keep_cell hb10 (by go_simp)
  replace r1 : w10.cell? ⟨w8.heap.size, 1, none⟩ = some (.int .i64 rn) := keep_cell hb10 (by go_simp)
  replace r2 : w10.cell? ⟨w8.heap.size, 2, none⟩ = some (.int .i64 rb) := keep_cell hb10 (by go_simp)
  replace rL : w8.heap.size < w10.heap.size := block_lt_of_cell r0
  have m0 : w10.cell? ⟨w9.heap.size, 0, none⟩ = some (.int .i64 mk) := keep_cell hb10 (by go_simp)
  have m1 : w10.cell? ⟨w9.heap.size, 1, none⟩ = some (.int .i64 mn) := keep_cell hb10 (by go_simp)
  have m2 : w10.cell? ⟨w9.heap.size, 2, none⟩ = some (.int .i64 mb) := keep_cell hb10 (by go_simp)
  have mL : w9.heap.size < w10.heap.size := block_lt_of_cell m0
  go_wp2
  go_ret
  exact ⟨rfl, (by repeat (first | exact Below.refl _ _ | refine bel_alloc ?_ _ | refine bel_set ?_ (by first | exact Nat.le_refl _ | (simp; done) | (simp; omega)) _ | refine Below.drew ?_ | refine bel_trans ?_ (by assumption)))⟩

set_option maxHeartbeats 8000000 in
theorem laws_A2C2 (op ak an ab bn xk xn xb f yk yn yb s pk pn pb qk qn qb rk rn rb : Int) (w : World) (ht : Tab w) (HB : Hid (binF op ⟨ak, an, ab⟩ ⟨1, bn, 0⟩ = (⟨xk, xn, xb⟩, false))) (HF : Hid (flipF op = (f, true))) (HG : Hid (binF f ⟨ak, an, ab⟩ ⟨1, bn, 0⟩ = (⟨yk, yn, yb⟩, false))) (HS : Hid (swapF op = (s, true))) (HT : Hid (binF s ⟨1, bn, 0⟩ ⟨ak, an, ab⟩ = (⟨xk, xn, xb⟩, false))) (HP : Hid (binF 11 ⟨ak, an, ab⟩ ⟨1, bn, 0⟩ = (⟨pk, pn, pb⟩, true))) (HQ : Hid (binF 12 ⟨pk, pn, pb⟩ ⟨1, bn, 0⟩ = (⟨ak, an, ab⟩, true))) (HD : Hid (binF 14 ⟨ak, an, ab⟩ ⟨1, bn, 0⟩ = (⟨qk, qn, qb⟩, false))) (HE : Hid (binF 15 ⟨ak, an, ab⟩ ⟨1, bn, 0⟩ = (⟨rk, rn, rb⟩, false))) :
    Calls Tryd.prog 6 #[.int .i64 op, .agg #[.int .i64 ak, .int .i64 an, .int .i64 ab], .agg #[.int .i64 1, .int .i64 bn, .int .i64 0]] w (retP (.bool true) w) := by
  go_enter Tryd.func6, Tryd.ntmps6
  go_wp2_with fail
  refine (awake_any _ (tab_keep ht (by repeat (first | exact Below.refl _ _ | refine bel_alloc ?_ _ | refine bel_set ?_ (by first | exact Nat.le_refl _ | (simp; done) | (simp; omega)) _ | refine Below.drew ?_ | refine bel_trans ?_ (by assumption))))).mono ?_
  rintro e w1 ⟨rfl, hb1⟩
  have a0 : w1.cell? ⟨w.heap.size, 0, none⟩ = some (.int .i64 ak) := keep_cell hb1 (by go_simp)
  have a1 : w1.cell? ⟨w.heap.size, 1, none⟩ = some (.int .i64 an) := keep_cell hb1 (by go_simp)
  have a2 : w1.cell? ⟨w.heap.size, 2, none⟩ = some (.int .i64 ab) := keep_cell hb1 (by go_simp)
  have aL : w.heap.size < w1.heap.size := block_lt_of_cell a0
  have b0 : w1.cell? ⟨w.heap.size + 1, 0, none⟩ = some (.int .i64 1) := keep_cell hb1 (by go_simp)
  have b1 : w1.cell? ⟨w.heap.size + 1, 1, none⟩ = some (.int .i64 bn) := keep_cell hb1 (by go_simp)
  have b2 : w1.cell? ⟨w.heap.size + 1, 2, none⟩ = some (.int .i64 0) := keep_cell hb1 (by go_simp)
  have bL : w.heap.size + 1 < w1.heap.size := block_lt_of_cell b0
  go_wp2_with fail
  refine (bin_to op ak an ab 1 bn 0 xk xn xb false _ HB.out).mono ?_
  rintro e w2 ⟨rfl, hb2⟩
  replace a0 : w2.cell? ⟨w.heap.size, 0, none⟩ = some (.int .i64 ak) := keep_cell hb2 (by go_simp)
  replace a1 : w2.cell? ⟨w.heap.size, 1, none⟩ = some (.int .i64 an) := keep_cell hb2 (by go_simp)
  replace a2 : w2.cell? ⟨w.heap.size, 2, none⟩ = some (.int .i64 ab) := keep_cell hb2 (by go_simp)
  replace aL : w.heap.size < w2.heap.size := block_lt_of_cell a0
  replace b0 : w2.cell? ⟨w.heap.size + 1, 0, none⟩ = some (.int .i64 1) := keep_cell hb2 (by go_simp)
  replace b1 : w2.cell? ⟨w.heap.size + 1, 1, none⟩ = some (.int .i64 bn) := keep_cell hb2 (by go_simp)
  replace b2 : w2.cell? ⟨w.heap.size + 1, 2, none⟩ = some (.int .i64 0) := keep_cell hb2 (by go_simp)
  replace bL : w.heap.size + 1 < w2.heap.size := block_lt_of_cell b0
  go_wp2_with fail
  refine (flip_to op f true _ HF.out).mono ?_
  rintro e w' ⟨rfl, hw'⟩
  replace hw' := hw'.symm
  subst hw'
  go_wp2_with fail
  refine (bin_to f ak an ab 1 bn 0 yk yn yb false _ HG.out).mono ?_
  rintro e w3 ⟨rfl, hb3⟩
  replace a0 : w3.cell? ⟨w.heap.size, 0, none⟩ = some (.int .i64 ak) := keep_cell hb3 (by go_simp)
  replace a1 : w3.cell? ⟨w.heap.size, 1, none⟩ = some (.int .i64 an) := keep_cell hb3 (by go_simp)
  replace a2 : w3.cell? ⟨w.heap.size, 2, none⟩ = some (.int .i64 ab) := keep_cell hb3 (by go_simp)
  replace aL : w.heap.size < w3.heap.size := block_lt_of_cell a0
  replace b0 : w3.cell? ⟨w.heap.size + 1, 0, none⟩ = some (.int .i64 1) := keep_cell hb3 (by go_simp)
  replace b1 : w3.cell? ⟨w.heap.size + 1, 1, none⟩ = some (.int .i64 bn) := keep_cell hb3 (by go_simp)
  replace b2 : w3.cell? ⟨w.heap.size + 1, 2, none⟩ = some (.int .i64 0) := keep_cell hb3 (by go_simp)
  replace bL : w.heap.size + 1 < w3.heap.size := block_lt_of_cell b0
  have x0 : w3.cell? ⟨w2.heap.size, 0, none⟩ = some (.int .i64 xk) := keep_cell hb3 (by go_simp)
  have x1 : w3.cell? ⟨w2.heap.size, 1, none⟩ = some (.int .i64 xn) := keep_cell hb3 (by go_simp)
  have x2 : w3.cell? ⟨w2.heap.size, 2, none⟩ = some (.int .i64 xb) := keep_cell hb3 (by go_simp)
  have xL : w2.heap.size < w3.heap.size := block_lt_of_cell x0
  go_wp2_with fail
  refine (swap_to op s true _ HS.out).mono ?_
  rintro e w' ⟨rfl, hw'⟩
  replace hw' := hw'.symm
  subst hw'
  go_wp2_with fail
  refine (bin_to s 1 bn 0 ak an ab xk xn xb false _ HT.out).mono ?_
  rintro e w4 ⟨rfl, hb4⟩
  replace a0 : w4.cell? ⟨w.heap.size, 0, none⟩ = some (.int .i64 ak) := keep_cell hb4 (by go_simp)
  replace a1 : w4.cell? ⟨w.heap.size, 1, none⟩ = some (.int .i64 an) := keep_cell hb4 (by go_simp)
  replace a2 : w4.cell? ⟨w.heap.size, 2, none⟩ = some (.int .i64 ab) := keep_cell hb4 (by go_simp)
  replace aL : w.heap.size < w4.heap.size := block_lt_of_cell a0
  replace b0 : w4.cell? ⟨w.heap.size + 1, 0, none⟩ = some (.int .i64 1) := keep_cell hb4 (by go_simp)
  replace b1 : w4.cell? ⟨w.heap.size + 1, 1, none⟩ = some (.int .i64 bn) := keep_cell hb4 (by go_simp)
  replace b2 : w4.cell? ⟨w.heap.size + 1, 2, none⟩ = some (.int .i64 0) := keep_cell hb4 (by go_simp)
  replace bL : w.heap.size + 1 < w4.heap.size := block_lt_of_cell b0
  replace x0 : w4.cell? ⟨w2.heap.size, 0, none⟩ = some (.int .i64 xk) := keep_cell hb4 (by go_simp)
  replace x1 : w4.cell? ⟨w2.heap.size, 1, none⟩ = some (.int .i64 xn) := keep_cell hb4 (by go_simp)
  replace x2 : w4.cell? ⟨w2.heap.size, 2, none⟩ = some (.int .i64 xb) := keep_cell hb4 (by go_simp)
  replace xL : w2.heap.size < w4.heap.size := block_lt_of_cell x0
  have y0 : w4.cell? ⟨w3.heap.size, 0, none⟩ = some (.int .i64 yk) := keep_cell hb4 (by go_simp)
  have y1 : w4.cell? ⟨w3.heap.size, 1, none⟩ = some (.int .i64 yn) := keep_cell hb4 (by go_simp)
  have y2 : w4.cell? ⟨w3.heap.size, 2, none⟩ = some (.int .i64 yb) := keep_cell hb4 (by go_simp)
  have yL : w3.heap.size < w4.heap.size := block_lt_of_cell y0
  go_wp2_with fail
  refine (bin_to 11 ak an ab 1 bn 0 pk pn pb true _ HP.out).mono ?_
  rintro e w5 ⟨rfl, hb5⟩
  replace a0 : w5.cell? ⟨w.heap.size, 0, none⟩ = some (.int .i64 ak) := keep_cell hb5 (by go_simp)
  replace a1 : w5.cell? ⟨w.heap.size, 1, none⟩ = some (.int .i64 an) := keep_cell hb5 (by go_simp)
  replace a2 : w5.cell? ⟨w.heap.size, 2, none⟩ = some (.int .i64 ab) := keep_cell hb5 (by go_simp)
  replace aL : w.heap.size < w5.heap.size := block_lt_of_cell a0
  replace b0 : w5.cell? ⟨w.heap.size + 1, 0, none⟩ = some (.int .i64 1) := keep_cell hb5 (by go_simp)
  replace b1 : w5.cell? ⟨w.heap.size + 1, 1, none⟩ = some (.int .i64 bn) := keep_cell hb5 (by go_simp)
  replace b2 : w5.cell? ⟨w.heap.size + 1, 2, none⟩ = some (.int .i64 0) := keep_cell hb5 (by go_simp)
  replace bL : w.heap.size + 1 < w5.heap.size := block_lt_of_cell b0
  replace x0 : w5.cell? ⟨w2.heap.size, 0, none⟩ = some (.int .i64 xk) := keep_cell hb5 (by go_simp)
  replace x1 : w5.cell? ⟨w2.heap.size, 1, none⟩ = some (.int .i64 xn) := keep_cell hb5 (by go_simp)
  replace x2 : w5.cell? ⟨w2.heap.size, 2, none⟩ = some (.int .i64 xb) := keep_cell hb5 (by go_simp)
  replace xL : w2.heap.size < w5.heap.size := block_lt_of_cell x0
  have z0 : w5.cell? ⟨w4.heap.size, 0, none⟩ = some (.int .i64 xk) := keep_cell hb5 (by go_simp)
  have z1 : w5.cell? ⟨w4.heap.size, 1, none⟩ = some (.int .i64 xn) := keep_cell hb5 (by go_simp)
  have z2 : w5.cell? ⟨w4.heap.size, 2, none⟩ = some (.int .i64 xb) := keep_cell hb5 (by go_simp)
  have zL : w4.heap.size < w5.heap.size := block_lt_of_cell z0
  go_wp2_with fail
  refine (bin_to 12 pk pn pb 1 bn 0 ak an ab true _ HQ.out).mono ?_
  rintro e w6 ⟨rfl, hb6⟩
  replace a0 : w6.cell? ⟨w.heap.size, 0, none⟩ = some (.int .i64 ak) := keep_cell hb6 (by go_simp)
  replace a1 : w6.cell? ⟨w.heap.size, 1, none⟩ = some (.int .i64 an) := keep_cell hb6 (by go_simp)
  replace a2 : w6.cell? ⟨w.heap.size, 2, none⟩ = some (.int .i64 ab) := keep_cell hb6 (by go_simp)
  replace aL : w.heap.size < w6.heap.size := block_lt_of_cell a0
  replace b0 : w6.cell? ⟨w.heap.size + 1, 0, none⟩ = some (.int .i64 1) := keep_cell hb6 (by go_simp)
  replace b1 : w6.cell? ⟨w.heap.size + 1, 1, none⟩ = some (.int .i64 bn) := keep_cell hb6 (by go_simp)
  replace b2 : w6.cell? ⟨w.heap.size + 1, 2, none⟩ = some (.int .i64 0) := keep_cell hb6 (by go_simp)
  replace bL : w.heap.size + 1 < w6.heap.size := block_lt_of_cell b0
  have p0 : w6.cell? ⟨w5.heap.size, 0, none⟩ = some (.int .i64 pk) := keep_cell hb6 (by go_simp)
  have p1 : w6.cell? ⟨w5.heap.size, 1, none⟩ = some (.int .i64 pn) := keep_cell hb6 (by go_simp)
  have p2 : w6.cell? ⟨w5.heap.size, 2, none⟩ = some (.int .i64 pb) := keep_cell hb6 (by go_simp)
  have pL : w5.heap.size < w6.heap.size := block_lt_of_cell p0
  go_wp2_with fail
  refine (bin_to 14 ak an ab 1 bn 0 qk qn qb false _ HD.out).mono ?_
  rintro e w7 ⟨rfl, hb7⟩
  replace a0 : w7.cell? ⟨w.heap.size, 0, none⟩ = some (.int .i64 ak) := keep_cell hb7 (by go_simp)
  replace a1 : w7.cell? ⟨w.heap.size, 1, none⟩ = some (.int .i64 an) := keep_cell hb7 (by go_simp)
  replace a2 : w7.cell? ⟨w.heap.size, 2, none⟩ = some (.int .i64 ab) := keep_cell hb7 (by go_simp)
  replace aL : w.heap.size < w7.heap.size := block_lt_of_cell a0
  replace b0 : w7.cell? ⟨w.heap.size + 1, 0, none⟩ = some (.int .i64 1) := keep_cell hb7 (by go_simp)
  replace b1 : w7.cell? ⟨w.heap.size + 1, 1, none⟩ = some (.int .i64 bn) := keep_cell hb7 (by go_simp)
  replace b2 : w7.cell? ⟨w.heap.size + 1, 2, none⟩ = some (.int .i64 0) := keep_cell hb7 (by go_simp)
  replace bL : w.heap.size + 1 < w7.heap.size := block_lt_of_cell b0
  have g0 : w7.cell? ⟨w6.heap.size, 0, none⟩ = some (.int .i64 ak) := keep_cell hb7 (by go_simp)
  have g1 : w7.cell? ⟨w6.heap.size, 1, none⟩ = some (.int .i64 an) := keep_cell hb7 (by go_simp)
  have g2 : w7.cell? ⟨w6.heap.size, 2, none⟩ = some (.int .i64 ab) := keep_cell hb7 (by go_simp)
  have gL : w6.heap.size < w7.heap.size := block_lt_of_cell g0
  go_wp2_with fail
  refine (bin_to 15 ak an ab 1 bn 0 rk rn rb false _ HE.out).mono ?_
  rintro e w8 ⟨rfl, hb8⟩
  replace a0 : w8.cell? ⟨w.heap.size, 0, none⟩ = some (.int .i64 ak) := keep_cell hb8 (by go_simp)
  replace a1 : w8.cell? ⟨w.heap.size, 1, none⟩ = some (.int .i64 an) := keep_cell hb8 (by go_simp)
  replace a2 : w8.cell? ⟨w.heap.size, 2, none⟩ = some (.int .i64 ab) := keep_cell hb8 (by go_simp)
  replace aL : w.heap.size < w8.heap.size := block_lt_of_cell a0
  replace b0 : w8.cell? ⟨w.heap.size + 1, 0, none⟩ = some (.int .i64 1) := keep_cell hb8 (by go_simp)
  replace b1 : w8.cell? ⟨w.heap.size + 1, 1, none⟩ = some (.int .i64 bn) := keep_cell hb8 (by go_simp)
  replace b2 : w8.cell? ⟨w.heap.size + 1, 2, none⟩ = some (.int .i64 0) := keep_cell hb8 (by go_simp)
  replace bL : w.heap.size + 1 < w8.heap.size := block_lt_of_cell b0
  have q0 : w8.cell? ⟨w7.heap.size, 0, none⟩ = some (.int .i64 qk) := keep_cell hb8 (by go_simp)
  have q1 : w8.cell? ⟨w7.heap.size, 1, none⟩ = some (.int .i64 qn) := keep_cell hb8 (by go_simp)
  have q2 : w8.cell? ⟨w7.heap.size, 2, none⟩ = some (.int .i64 qb) := keep_cell hb8 (by go_simp)
  have qL : w7.heap.size < w8.heap.size := block_lt_of_cell q0
  go_wp2
  go_ret
  exact ⟨rfl, (by repeat (first | exact Below.refl _ _ | refine bel_alloc ?_ _ | refine bel_set ?_ (by first | exact Nat.le_refl _ | (simp; done) | (simp; omega)) _ | refine Below.drew ?_ | refine bel_trans ?_ (by assumption)))⟩

set_option maxHeartbeats 8000000 in
theorem laws_A2C3 (op ak an ab bn xk xn xb f yk yn yb s pk pn pb qk qn qb rk rn rb : Int) (w : World) (ht : Tab w) (HB : Hid (binF op ⟨ak, an, ab⟩ ⟨1, bn, 0⟩ = (⟨xk, xn, xb⟩, false))) (HF : Hid (flipF op = (f, true))) (HG : Hid (binF f ⟨ak, an, ab⟩ ⟨1, bn, 0⟩ = (⟨yk, yn, yb⟩, false))) (HS : Hid (swapF op = (s, true))) (HT : Hid (binF s ⟨1, bn, 0⟩ ⟨ak, an, ab⟩ = (⟨xk, xn, xb⟩, false))) (HP : Hid (binF 11 ⟨ak, an, ab⟩ ⟨1, bn, 0⟩ = (⟨pk, pn, pb⟩, false))) (HD : Hid (binF 14 ⟨ak, an, ab⟩ ⟨1, bn, 0⟩ = (⟨qk, qn, qb⟩, false))) (HE : Hid (binF 15 ⟨ak, an, ab⟩ ⟨1, bn, 0⟩ = (⟨rk, rn, rb⟩, false))) :
    Calls Tryd.prog 6 #[.int .i64 op, .agg #[.int .i64 ak, .int .i64 an, .int .i64 ab], .agg #[.int .i64 1, .int .i64 bn, .int .i64 0]] w (retP (.bool true) w) := by
  go_enter Tryd.func6, Tryd.ntmps6
  go_wp2_with fail
  refine (awake_any _ (tab_keep ht (by repeat (first | exact Below.refl _ _ | refine bel_alloc ?_ _ | refine bel_set ?_ (by first | exact Nat.le_refl _ | (simp; done) | (simp; omega)) _ | refine Below.drew ?_ | refine bel_trans ?_ (by assumption))))).mono ?_
  rintro e w1 ⟨rfl, hb1⟩
  have a0 : w1.cell? ⟨w.heap.size, 0, none⟩ = some (.int .i64 ak) := keep_cell hb1 (by go_simp)
  have a1 : w1.cell? ⟨w.heap.size, 1, none⟩ = some (.int .i64 an) := keep_cell hb1 (by go_simp)
  have a2 : w1.cell? ⟨w.heap.size, 2, none⟩ = some (.int .i64 ab) := keep_cell hb1 (by go_simp)
  have aL : w.heap.size < w1.heap.size := block_lt_of_cell a0
  have b0 : w1.cell? ⟨w.heap.size + 1, 0, none⟩ = some (.int .i64 1) := keep_cell hb1 (by go_simp)
  have b1 : w1.cell? ⟨w.heap.size + 1, 1, none⟩ = some (.int .i64 bn) := keep_cell hb1 (by go_simp)
  have b2 : w1.cell? ⟨w.heap.size + 1, 2, none⟩ = some (.int .i64 0) := keep_cell hb1 (by go_simp)
  have bL : w.heap.size + 1 < w1.heap.size := block_lt_of_cell b0
  go_wp2_with fail
  refine (bin_to op ak an ab 1 bn 0 xk xn xb false _ HB.out).mono ?_
  rintro e w2 ⟨rfl, hb2⟩
  replace a0 : w2.cell? ⟨w.heap.size, 0, none⟩ = some (.int .i64 ak) := keep_cell hb2 (by go_simp)
  replace a1 : w2.cell? ⟨w.heap.size, 1, none⟩ = some (.int .i64 an) := keep_cell hb2 (by go_simp)
  replace a2 : w2.cell? ⟨w.heap.size, 2, none⟩ = some (.int .i64 ab) := keep_cell hb2 (by go_simp)
  replace aL : w.heap.size < w2.heap.size := block_lt_of_cell a0
  replace b0 : w2.cell? ⟨w.heap.size + 1, 0, none⟩ = some (.int .i64 1) := keep_cell hb2 (by go_simp)
  replace b1 : w2.cell? ⟨w.heap.size + 1, 1, none⟩ = some (.int .i64 bn) := keep_cell hb2 (by go_simp)
  replace b2 : w2.cell? ⟨w.heap.size + 1, 2, none⟩ = some (.int .i64 0) := keep_cell hb2 (by go_simp)
  replace bL : w.heap.size + 1 < w2.heap.size := block_lt_of_cell b0
  go_wp2_with fail
  refine (flip_to op f true _ HF.out).mono ?_
  rintro e w' ⟨rfl, hw'⟩
  replace hw' := hw'.symm
  subst hw'
  go_wp2_with fail
  refine (bin_to f ak an ab 1 bn 0 yk yn yb false _ HG.out).mono ?_
  rintro e w3 ⟨rfl, hb3⟩
  replace a0 : w3.cell? ⟨w.heap.size, 0, none⟩ = some (.int .i64 ak) := keep_cell hb3 (by go_simp)
  replace a1 : w3.cell? ⟨w.heap.size, 1, none⟩ = some (.int .i64 an) := keep_cell hb3 (by go_simp)
  replace a2 : w3.cell? ⟨w.heap.size, 2, none⟩ = some (.int .i64 ab) := keep_cell hb3 (by go_simp)
  replace aL : w.heap.size < w3.heap.size := block_lt_of_cell a0
  replace b0 : w3.cell? ⟨w.heap.size + 1, 0, none⟩ = some (.int .i64 1) := keep_cell hb3 (by go_simp)
  replace b1 : w3.cell? ⟨w.heap.size + 1, 1, none⟩ = some (.int .i64 bn) := keep_cell hb3 (by go_simp)
  replace b2 : w3.cell? ⟨w.heap.size + 1, 2, none⟩ = some (.int .i64 0) := keep_cell hb3 (by go_simp)
  replace bL : w.heap.size + 1 < w3.heap.size := block_lt_of_cell b0
  have x0 : w3.cell? ⟨w2.heap.size, 0, none⟩ = some (.int .i64 xk) := keep_cell hb3 (by go_simp)
  have x1 : w3.cell? ⟨w2.heap.size, 1, none⟩ = some (.int .i64 xn) := keep_cell hb3 (by go_simp)
  have x2 : w3.cell? ⟨w2.heap.size, 2, none⟩ = some (.int .i64 xb) := keep_cell hb3 (by go_simp)
  have xL : w2.heap.size < w3.heap.size := block_lt_of_cell x0
  go_wp2_with fail
  refine (swap_to op s true _ HS.out).mono ?_
  rintro e w' ⟨rfl, hw'⟩
  replace hw' := hw'.symm
  subst hw'
  go_wp2_with fail
  refine (bin_to s 1 bn 0 ak an ab xk xn xb false _ HT.out).mono ?_
  rintro e w4 ⟨rfl, hb4⟩
  replace a0 : w4.cell? ⟨w.heap.size, 0, none⟩ = some (.int .i64 ak) := keep_cell hb4 (by go_simp)
  replace a1 : w4.cell? ⟨w.heap.size, 1, none⟩ = some (.int .i64 an) := keep_cell hb4 (by go_simp)
  replace a2 : w4.cell? ⟨w.heap.size, 2, none⟩ = some (.int .i64 ab) := keep_cell hb4 (by go_simp)
  replace aL : w.heap.size < w4.heap.size := block_lt_of_cell a0
  replace b0 : w4.cell? ⟨w.heap.size + 1, 0, none⟩ = some (.int .i64 1) := keep_cell hb4 (by go_simp)
  replace b1 : w4.cell? ⟨w.heap.size + 1, 1, none⟩ = some (.int .i64 bn) := keep_cell hb4 (by go_simp)
  replace b2 : w4.cell? ⟨w.heap.size + 1, 2, none⟩ = some (.int .i64 0) := keep_cell hb4 (by go_simp)
  replace bL : w.heap.size + 1 < w4.heap.size := block_lt_of_cell b0
  replace x0 : w4.cell? ⟨w2.heap.size, 0, none⟩ = some (.int .i64 xk) := keep_cell hb4 (by go_simp)
  replace x1 : w4.cell? ⟨w2.heap.size, 1, none⟩ = some (.int .i64 xn) := keep_cell hb4 (by go_simp)
  replace x2 : w4.cell? ⟨w2.heap.size, 2, none⟩ = some (.int .i64 xb) := keep_cell hb4 (by go_simp)
  replace xL : w2.heap.size < w4.heap.size := block_lt_of_cell x0
  have y0 : w4.cell? ⟨w3.heap.size, 0, none⟩ = some (.int .i64 yk) := keep_cell hb4 (by go_simp)
  have y1 : w4.cell? ⟨w3.heap.size, 1, none⟩ = some (.int .i64 yn) := keep_cell hb4 (by go_simp)
  have y2 : w4.cell? ⟨w3.heap.size, 2, none⟩ = some (.int .i64 yb) := keep_cell hb4 (by go_simp)
  have yL : w3.heap.size < w4.heap.size := block_lt_of_cell y0
  go_wp2_with fail
  refine (bin_to 11 ak an ab 1 bn 0 pk pn pb false _ HP.out).mono ?_
  rintro e w5 ⟨rfl, hb5⟩
  replace a0 : w5.cell? ⟨w.heap.size, 0, none⟩ = some (.int .i64 ak) := keep_cell hb5 (by go_simp)
  replace a1 : w5.cell? ⟨w.heap.size, 1, none⟩ = some (.int .i64 an) := keep_cell hb5 (by go_simp)
  replace a2 : w5.cell? ⟨w.heap.size, 2, none⟩ = some (.int .i64 ab) := keep_cell hb5 (by go_simp)
  replace aL : w.heap.size < w5.heap.size := block_lt_of_cell a0
  replace b0 : w5.cell? ⟨w.heap.size + 1, 0, none⟩ = some (.int .i64 1) := keep_cell hb5 (by go_simp)
  replace b1 : w5.cell? ⟨w.heap.size + 1, 1, none⟩ = some (.int .i64 bn) := keep_cell hb5 (by go_simp)
  replace b2 : w5.cell? ⟨w.heap.size + 1, 2, none⟩ = some (.int .i64 0) := keep_cell hb5 (by go_simp)
  replace bL : w.heap.size + 1 < w5.heap.size := block_lt_of_cell b0
  replace x0 : w5.cell? ⟨w2.heap.size, 0, none⟩ = some (.int .i64 xk) := keep_cell hb5 (by go_simp)
  replace x1 : w5.cell? ⟨w2.heap.size, 1, none⟩ = some (.int .i64 xn) := keep_cell hb5 (by go_simp)
  replace x2 : w5.cell? ⟨w2.heap.size, 2, none⟩ = some (.int .i64 xb) := keep_cell hb5 (by go_simp)
  replace xL : w2.heap.size < w5.heap.size := block_lt_of_cell x0
  have z0 : w5.cell? ⟨w4.heap.size, 0, none⟩ = some (.int .i64 xk) := keep_cell hb5 (by go_simp)
  have z1 : w5.cell? ⟨w4.heap.size, 1, none⟩ = some (.int .i64 xn) := keep_cell hb5 (by go_simp)
  have z2 : w5.cell? ⟨w4.heap.size, 2, none⟩ = some (.int .i64 xb) := keep_cell hb5 (by go_simp)
  have zL : w4.heap.size < w5.heap.size := block_lt_of_cell z0
  go_wp2_with fail
  refine (bin_to 14 ak an ab 1 bn 0 qk qn qb false _ HD.out).mono ?_
  rintro e w6 ⟨rfl, hb6⟩
  replace a0 : w6.cell? ⟨w.heap.size, 0, none⟩ = some (.int .i64 ak) := keep_cell hb6 (by go_simp)
  replace a1 : w6.cell? ⟨w.heap.size, 1, none⟩ = some (.int .i64 an) := keep_cell hb6 (by go_simp)
  replace a2 : w6.cell? ⟨w.heap.size, 2, none⟩ = some (.int .i64 ab) := keep_cell hb6 (by go_simp)
  replace aL : w.heap.size < w6.heap.size := block_lt_of_cell a0
  replace b0 : w6.cell? ⟨w.heap.size + 1, 0, none⟩ = some (.int .i64 1) := keep_cell hb6 (by go_simp)
  replace b1 : w6.cell? ⟨w.heap.size + 1, 1, none⟩ = some (.int .i64 bn) := keep_cell hb6 (by go_simp)
  replace b2 : w6.cell? ⟨w.heap.size + 1, 2, none⟩ = some (.int .i64 0) := keep_cell hb6 (by go_simp)
  replace bL : w.heap.size + 1 < w6.heap.size := block_lt_of_cell b0
  have p0 : w6.cell? ⟨w5.heap.size, 0, none⟩ = some (.int .i64 pk) := keep_cell hb6 (by go_simp)
  have p1 : w6.cell? ⟨w5.heap.size, 1, none⟩ = some (.int .i64 pn) := keep_cell hb6 (by go_simp)
  have p2 : w6.cell? ⟨w5.heap.size, 2, none⟩ = some (.int .i64 pb) := keep_cell hb6 (by go_simp)
  have pL : w5.heap.size < w6.heap.size := block_lt_of_cell p0
  go_wp2_with fail
  refine (bin_to 15 ak an ab 1 bn 0 rk rn rb false _ HE.out).mono ?_
  rintro e w7 ⟨rfl, hb7⟩
  replace a0 : w7.cell? ⟨w.heap.size, 0, none⟩ = some (.int .i64 ak) := keep_cell hb7 (by go_simp)
  replace a1 : w7.cell? ⟨w.heap.size, 1, none⟩ = some (.int .i64 an) := keep_cell hb7 (by go_simp)
  replace a2 : w7.cell? ⟨w.heap.size, 2, none⟩ = some (.int .i64 ab) := keep_cell hb7 (by go_simp)
  replace aL : w.heap.size < w7.heap.size := block_lt_of_cell a0
  replace b0 : w7.cell? ⟨w.heap.size + 1, 0, none⟩ = some (.int .i64 1) := keep_cell hb7 (by go_simp)
  replace b1 : w7.cell? ⟨w.heap.size + 1, 1, none⟩ = some (.int .i64 bn) := keep_cell hb7 (by go_simp)
  replace b2 : w7.cell? ⟨w.heap.size + 1, 2, none⟩ = some (.int .i64 0) := keep_cell hb7 (by go_simp)
  replace bL : w.heap.size + 1 < w7.heap.size := block_lt_of_cell b0
  have q0 : w7.cell? ⟨w6.heap.size, 0, none⟩ = some (.int .i64 qk) := keep_cell hb7 (by go_simp)
  have q1 : w7.cell? ⟨w6.heap.size, 1, none⟩ = some (.int .i64 qn) := keep_cell hb7 (by go_simp)
  have q2 : w7.cell? ⟨w6.heap.size, 2, none⟩ = some (.int .i64 qb) := keep_cell hb7 (by go_simp)
  have qL : w6.heap.size < w7.heap.size := block_lt_of_cell q0
  go_wp2
  go_ret
  exact ⟨rfl, (by repeat (first | exact Below.refl _ _ | refine bel_alloc ?_ _ | refine bel_set ?_ (by first | exact Nat.le_refl _ | (simp; done) | (simp; omega)) _ | refine Below.drew ?_ | refine bel_trans ?_ (by assumption)))⟩

end Go.Proofs.YtfkalcfkbaimgaaDoor
