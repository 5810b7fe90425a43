/- For every int64 and any two counts: a shift to the left is a multiplication by a power of two, one to the right the quotient, rounded down, and two shifts in a row are one: the statement ValShifts returns true. Conditions: the three tables of the library that the row lists start as the program's text lays them (the card ties them). -/
import Derived.Test.YtfkalcfkbaimgabDoorDraw
import Derived.Test.YtfkalcfkbaimgabDoorChainsM
namespace Go.Proofs.YtfkalcfkbaimgabDoor
open Go.ChangeShapes Go.WideShapes Go.ChangeAt Go.RowKit Pl
set_option linter.unusedSimpArgs false
set_option linter.unusedVariables false

set_option maxRecDepth 100000 in
set_option maxHeartbeats 8000000 in
theorem shifts_core (n i j p a b d q r : Int) (w : World) (ht : Tab w) (i0 : 0 ≤ i) (i1 : i ≤ 62) (j0 : 0 ≤ j) (j1 : j ≤ 62) (ij : i + j ≤ 62) (hp : wrap64 (2 ^ i.toNat) = p)
    (H1 : Hid (binF 19 ⟨1, n, 0⟩ ⟨1, i, 0⟩ = (⟨1, a, 0⟩, true))) (H2 : Hid (binF 13 ⟨1, n, 0⟩ ⟨1, p, 0⟩ = (⟨1, a, 0⟩, true))) (H3 : Hid (binF 20 ⟨1, n, 0⟩ ⟨1, i, 0⟩ = (⟨1, b, 0⟩, true))) (H4 : Hid (binF 20 ⟨1, b, 0⟩ ⟨1, j, 0⟩ = (⟨1, d, 0⟩, true))) (H5 : Hid (binF 20 ⟨1, n, 0⟩ ⟨1, (i + j), 0⟩ = (⟨1, d, 0⟩, true))) (H6 : Hid (binF 13 ⟨1, b, 0⟩ ⟨1, p, 0⟩ = (⟨1, q, 0⟩, true))) (H7 : Hid (binF 12 ⟨1, n, 0⟩ ⟨1, q, 0⟩ = (⟨1, r, 0⟩, true))) (r0 : 0 ≤ r) (r1 : r < p) :
    Calls Tryd.prog 3 #[.int .i64 n, .int .i64 i, .int .i64 j] w (retP (.bool true) w) := by
  go_enter Tryd.func3, Tryd.ntmps3
  go_wp2_with fail
  refine (awake_any _ ht).mono ?_
  rintro e w1 ⟨rfl, hb1⟩
  go_wp2_with fail
  refine (of_to p _).mono ?_
  rintro e w2 ⟨rfl, hb2⟩
  go_wp2_with fail
  refine (of_to _ _).mono ?_
  rintro e w3 ⟨rfl, hb3⟩
  have p0 : w3.cell? ⟨w2.heap.size, 0, none⟩ = some (.int .i64 1) := keep_cell hb3 (by go_simp)
  have p1 : w3.cell? ⟨w2.heap.size, 1, none⟩ = some (.int .i64 p) := keep_cell hb3 (by go_simp)
  have p2 : w3.cell? ⟨w2.heap.size, 2, none⟩ = some (.int .i64 0) := keep_cell hb3 (by go_simp)
  have pL : w2.heap.size < w3.heap.size := block_lt_of_cell p0
  go_wp2_with fail
  refine (of_to _ _).mono ?_
  rintro e w4 ⟨rfl, hb4⟩
  replace p0 : w4.cell? ⟨w2.heap.size, 0, none⟩ = some (.int .i64 1) := keep_cell hb4 (by go_simp)
  replace p1 : w4.cell? ⟨w2.heap.size, 1, none⟩ = some (.int .i64 p) := keep_cell hb4 (by go_simp)
  replace p2 : w4.cell? ⟨w2.heap.size, 2, none⟩ = some (.int .i64 0) := keep_cell hb4 (by go_simp)
  replace pL : w2.heap.size < w4.heap.size := block_lt_of_cell p0
  go_wp2_with fail
  refine (bin_to 19 1 n 0 1 i 0 1 a 0 true _ H1.out).mono ?_
  rintro e w5 ⟨rfl, hb5⟩
  replace p0 : w5.cell? ⟨w2.heap.size, 0, none⟩ = some (.int .i64 1) := keep_cell hb5 (by go_simp)
  replace p1 : w5.cell? ⟨w2.heap.size, 1, none⟩ = some (.int .i64 p) := keep_cell hb5 (by go_simp)
  replace p2 : w5.cell? ⟨w2.heap.size, 2, none⟩ = some (.int .i64 0) := keep_cell hb5 (by go_simp)
  replace pL : w2.heap.size < w5.heap.size := block_lt_of_cell p0
  go_wp2_with fail
  have hRz : w.heap.size ≤ w5.heap.size := Below.size (show Below w.heap.size w w5 from (by repeat (first | exact Below.refl _ _ | refine bel_alloc ?_ _ | refine bel_set ?_ (by first | exact Nat.le_refl _ | (simp; done) | (simp; omega)) _ | refine Below.drew ?_ | refine bel_trans ?_ (by assumption))))
  have aH : C3 (w5.alloc (.cells #[.int .i64 1, .int .i64 a, .int .i64 0] 24)) (w5.heap.size) 1 a 0 := C3.mk' (by go_simp) (by go_simp) (by go_simp)
  go_cut [10] (fun s w' => ∃ B, s = .pointer (some ⟨B, 0, none⟩) ∧ (w'.cell? ⟨B, 0, none⟩ = some (.int .i64 1) ∧ w'.cell? ⟨B, 1, none⟩ = some (.int .i64 a) ∧ w'.cell? ⟨B, 2, none⟩ = some (.int .i64 0) ∧ B < w'.heap.size) ∧ (w'.cell? ⟨w2.heap.size, 0, none⟩ = some (.int .i64 1) ∧ w'.cell? ⟨w2.heap.size, 1, none⟩ = some (.int .i64 p) ∧ w'.cell? ⟨w2.heap.size, 2, none⟩ = some (.int .i64 0) ∧ w2.heap.size < w'.heap.size) ∧ (w'.cell? ⟨w5.heap.size, 0, none⟩ = some (.int .i64 1) ∧ w'.cell? ⟨w5.heap.size, 1, none⟩ = some (.int .i64 a) ∧ w'.cell? ⟨w5.heap.size, 2, none⟩ = some (.int .i64 0) ∧ w5.heap.size < w'.heap.size) ∧ Below w.heap.size w w')
  case first =>
    go_region_held3 (fun w' => (w'.cell? ⟨w2.heap.size, 0, none⟩ = some (.int .i64 1) ∧ w'.cell? ⟨w2.heap.size, 1, none⟩ = some (.int .i64 p) ∧ w'.cell? ⟨w2.heap.size, 2, none⟩ = some (.int .i64 0) ∧ w2.heap.size < w'.heap.size))
      (first | with_reducible exact callS1 hv1 (by assumption) | with_reducible exact allocS1 (by assumption) | with_reducible exact setS1 (by assumption) (by go_light; omega) | with_reducible exact reallocS1 (by assumption) (by go_light; omega) | (go_simp; done))
      (first | (go_at_call 6; refine (of_to _ _).mono ?_; rintro e v1 ⟨rfl, hv1⟩; obtain ⟨hc1, hf1⟩ := bcell hv1; have hz1 := bsize hv1; try simp only [World.size_alloc, World.size_drew, World.cell?_drew, World.frozen?_drew, Nat.add_one_le_iff] at hz1 hc1 hf1) | (go_at_call 7; refine (bin_to 13 1 n 0 1 p 0 1 a 0 true _ H2.out).mono ?_; rintro e v1 ⟨rfl, hv1⟩; obtain ⟨hc1, hf1⟩ := bcell hv1; have hz1 := bsize hv1; try simp only [World.size_alloc, World.size_drew, World.cell?_drew, World.frozen?_drew, Nat.add_one_le_iff] at hz1 hc1 hf1))
    all_goals
      go_wp2_with fail
      go_meet
      case rel =>
        rename_i hH
        exact ⟨_, rfl, C3.mk' (by go_simp) (by go_simp) (by go_simp), hH, C3.call aH (by repeat (first | exact Below.refl _ _ | assumption | refine bel_alloc ?_ _ | refine Below.drew ?_ | refine bel_set ?_ (by go_light; first | (simp; done) | (simp; omega) | omega) _ | refine bel_trans ?_ (by assumption))), (by repeat (first | exact Below.refl _ _ | assumption | refine bel_alloc ?_ _ | refine Below.drew ?_ | refine bel_set ?_ (by go_light; first | (simp; done) | (simp; omega) | omega) _ | refine bel_trans ?_ (by assumption)))⟩
  case rest =>
    clear aH
    obtain ⟨B6, rfl, ⟨m0, m1, m2, mL⟩, ⟨p0, p1, p2, pL⟩, ⟨a0, a1, a2, aL⟩, hw6⟩ := hcut
    go_wp2_with fail
    refine (of_to _ _).mono ?_
    rintro e w7 ⟨rfl, hb7⟩
    replace p0 : w7.cell? ⟨w2.heap.size, 0, none⟩ = some (.int .i64 1) := keep_cell hb7 (by go_simp)
    replace p1 : w7.cell? ⟨w2.heap.size, 1, none⟩ = some (.int .i64 p) := keep_cell hb7 (by go_simp)
    replace p2 : w7.cell? ⟨w2.heap.size, 2, none⟩ = some (.int .i64 0) := keep_cell hb7 (by go_simp)
    replace pL : w2.heap.size < w7.heap.size := block_lt_of_cell p0
    replace a0 : w7.cell? ⟨w5.heap.size, 0, none⟩ = some (.int .i64 1) := keep_cell hb7 (by go_simp)
    replace a1 : w7.cell? ⟨w5.heap.size, 1, none⟩ = some (.int .i64 a) := keep_cell hb7 (by go_simp)
    replace a2 : w7.cell? ⟨w5.heap.size, 2, none⟩ = some (.int .i64 0) := keep_cell hb7 (by go_simp)
    replace aL : w5.heap.size < w7.heap.size := block_lt_of_cell a0
    replace m0 : w7.cell? ⟨B6, 0, none⟩ = some (.int .i64 1) := keep_cell hb7 (by go_simp)
    replace m1 : w7.cell? ⟨B6, 1, none⟩ = some (.int .i64 a) := keep_cell hb7 (by go_simp)
    replace m2 : w7.cell? ⟨B6, 2, none⟩ = some (.int .i64 0) := keep_cell hb7 (by go_simp)
    replace mL : B6 < w7.heap.size := block_lt_of_cell m0
    go_wp2_with fail
    refine (of_to _ _).mono ?_
    rintro e w8 ⟨rfl, hb8⟩
    replace p0 : w8.cell? ⟨w2.heap.size, 0, none⟩ = some (.int .i64 1) := keep_cell hb8 (by go_simp)
    replace p1 : w8.cell? ⟨w2.heap.size, 1, none⟩ = some (.int .i64 p) := keep_cell hb8 (by go_simp)
    replace p2 : w8.cell? ⟨w2.heap.size, 2, none⟩ = some (.int .i64 0) := keep_cell hb8 (by go_simp)
    replace pL : w2.heap.size < w8.heap.size := block_lt_of_cell p0
    replace a0 : w8.cell? ⟨w5.heap.size, 0, none⟩ = some (.int .i64 1) := keep_cell hb8 (by go_simp)
    replace a1 : w8.cell? ⟨w5.heap.size, 1, none⟩ = some (.int .i64 a) := keep_cell hb8 (by go_simp)
    replace a2 : w8.cell? ⟨w5.heap.size, 2, none⟩ = some (.int .i64 0) := keep_cell hb8 (by go_simp)
    replace aL : w5.heap.size < w8.heap.size := block_lt_of_cell a0
    replace m0 : w8.cell? ⟨B6, 0, none⟩ = some (.int .i64 1) := keep_cell hb8 (by go_simp)
    replace m1 : w8.cell? ⟨B6, 1, none⟩ = some (.int .i64 a) := keep_cell hb8 (by go_simp)
    replace m2 : w8.cell? ⟨B6, 2, none⟩ = some (.int .i64 0) := keep_cell hb8 (by go_simp)
    replace mL : B6 < w8.heap.size := block_lt_of_cell m0
    go_wp2_with fail
    refine (bin_to 20 1 n 0 1 i 0 1 b 0 true _ H3.out).mono ?_
    rintro e w9 ⟨rfl, hb9⟩
    replace p0 : w9.cell? ⟨w2.heap.size, 0, none⟩ = some (.int .i64 1) := keep_cell hb9 (by go_simp)
    replace p1 : w9.cell? ⟨w2.heap.size, 1, none⟩ = some (.int .i64 p) := keep_cell hb9 (by go_simp)
    replace p2 : w9.cell? ⟨w2.heap.size, 2, none⟩ = some (.int .i64 0) := keep_cell hb9 (by go_simp)
    replace pL : w2.heap.size < w9.heap.size := block_lt_of_cell p0
    replace a0 : w9.cell? ⟨w5.heap.size, 0, none⟩ = some (.int .i64 1) := keep_cell hb9 (by go_simp)
    replace a1 : w9.cell? ⟨w5.heap.size, 1, none⟩ = some (.int .i64 a) := keep_cell hb9 (by go_simp)
    replace a2 : w9.cell? ⟨w5.heap.size, 2, none⟩ = some (.int .i64 0) := keep_cell hb9 (by go_simp)
    replace aL : w5.heap.size < w9.heap.size := block_lt_of_cell a0
    replace m0 : w9.cell? ⟨B6, 0, none⟩ = some (.int .i64 1) := keep_cell hb9 (by go_simp)
    replace m1 : w9.cell? ⟨B6, 1, none⟩ = some (.int .i64 a) := keep_cell hb9 (by go_simp)
    replace m2 : w9.cell? ⟨B6, 2, none⟩ = some (.int .i64 0) := keep_cell hb9 (by go_simp)
    replace mL : B6 < w9.heap.size := block_lt_of_cell m0
    go_wp2_with fail
    have hRz : w.heap.size ≤ w9.heap.size := Below.size (show Below w.heap.size w w9 from (by repeat (first | exact Below.refl _ _ | refine bel_alloc ?_ _ | refine bel_set ?_ (by first | exact Nat.le_refl _ | (simp; done) | (simp; omega)) _ | refine Below.drew ?_ | refine bel_trans ?_ (by assumption))))
    have pH : C3 (w9.alloc (.cells #[.int .i64 1, .int .i64 b, .int .i64 0] 24)) (w2.heap.size) 1 p 0 := C3.alloc (C3.mk' p0 p1 p2) _
    have aH : C3 (w9.alloc (.cells #[.int .i64 1, .int .i64 b, .int .i64 0] 24)) (w5.heap.size) 1 a 0 := C3.alloc (C3.mk' a0 a1 a2) _
    have mH : C3 (w9.alloc (.cells #[.int .i64 1, .int .i64 b, .int .i64 0] 24)) (B6) 1 a 0 := C3.alloc (C3.mk' m0 m1 m2) _
    go_cut [14] (fun s w' => ∃ B, s = .pointer (some ⟨B, 0, none⟩) ∧ (w'.cell? ⟨B, 0, none⟩ = some (.int .i64 1) ∧ w'.cell? ⟨B, 1, none⟩ = some (.int .i64 d) ∧ w'.cell? ⟨B, 2, none⟩ = some (.int .i64 0) ∧ B < w'.heap.size) ∧ (w'.cell? ⟨w9.heap.size, 0, none⟩ = some (.int .i64 1) ∧ w'.cell? ⟨w9.heap.size, 1, none⟩ = some (.int .i64 b) ∧ w'.cell? ⟨w9.heap.size, 2, none⟩ = some (.int .i64 0) ∧ w9.heap.size < w'.heap.size) ∧ (w'.cell? ⟨w2.heap.size, 0, none⟩ = some (.int .i64 1) ∧ w'.cell? ⟨w2.heap.size, 1, none⟩ = some (.int .i64 p) ∧ w'.cell? ⟨w2.heap.size, 2, none⟩ = some (.int .i64 0) ∧ w2.heap.size < w'.heap.size) ∧ (w'.cell? ⟨w5.heap.size, 0, none⟩ = some (.int .i64 1) ∧ w'.cell? ⟨w5.heap.size, 1, none⟩ = some (.int .i64 a) ∧ w'.cell? ⟨w5.heap.size, 2, none⟩ = some (.int .i64 0) ∧ w5.heap.size < w'.heap.size) ∧ (w'.cell? ⟨B6, 0, none⟩ = some (.int .i64 1) ∧ w'.cell? ⟨B6, 1, none⟩ = some (.int .i64 a) ∧ w'.cell? ⟨B6, 2, none⟩ = some (.int .i64 0) ∧ B6 < w'.heap.size) ∧ Below w.heap.size w w')
    case first =>
      go_region_held3 (fun w' => (w'.cell? ⟨w9.heap.size, 0, none⟩ = some (.int .i64 1) ∧ w'.cell? ⟨w9.heap.size, 1, none⟩ = some (.int .i64 b) ∧ w'.cell? ⟨w9.heap.size, 2, none⟩ = some (.int .i64 0) ∧ w9.heap.size < w'.heap.size))
        (first | with_reducible exact callS1 hv1 (by assumption) | with_reducible exact allocS1 (by assumption) | with_reducible exact setS1 (by assumption) (by go_light; omega) | with_reducible exact reallocS1 (by assumption) (by go_light; omega) | (go_simp; done))
        (first | (go_at_call 6; refine (of_to _ _).mono ?_; rintro e v1 ⟨rfl, hv1⟩; obtain ⟨hc1, hf1⟩ := bcell hv1; have hz1 := bsize hv1; try simp only [World.size_alloc, World.size_drew, World.cell?_drew, World.frozen?_drew, Nat.add_one_le_iff] at hz1 hc1 hf1) | (go_at_call 7; refine (bin_to 20 1 b 0 1 j 0 1 d 0 true _ H4.out).mono ?_; rintro e v1 ⟨rfl, hv1⟩; obtain ⟨hc1, hf1⟩ := bcell hv1; have hz1 := bsize hv1; try simp only [World.size_alloc, World.size_drew, World.cell?_drew, World.frozen?_drew, Nat.add_one_le_iff] at hz1 hc1 hf1))
      all_goals
        go_wp2_with fail
        go_meet
        case rel =>
          rename_i hH
          exact ⟨_, rfl, C3.mk' (by go_simp) (by go_simp) (by go_simp), hH, C3.call pH (by repeat (first | exact Below.refl _ _ | assumption | refine bel_alloc ?_ _ | refine Below.drew ?_ | refine bel_set ?_ (by go_light; first | (simp; done) | (simp; omega) | omega) _ | refine bel_trans ?_ (by assumption))), C3.call aH (by repeat (first | exact Below.refl _ _ | assumption | refine bel_alloc ?_ _ | refine Below.drew ?_ | refine bel_set ?_ (by go_light; first | (simp; done) | (simp; omega) | omega) _ | refine bel_trans ?_ (by assumption))), C3.call mH (by repeat (first | exact Below.refl _ _ | assumption | refine bel_alloc ?_ _ | refine Below.drew ?_ | refine bel_set ?_ (by go_light; first | (simp; done) | (simp; omega) | omega) _ | refine bel_trans ?_ (by assumption))), (by repeat (first | exact Below.refl _ _ | assumption | refine bel_alloc ?_ _ | refine Below.drew ?_ | refine bel_set ?_ (by go_light; first | (simp; done) | (simp; omega) | omega) _ | refine bel_trans ?_ (by assumption)))⟩
    case rest =>
      clear pH aH mH
      obtain ⟨B10, rfl, ⟨c0, c1, c2, cL⟩, ⟨b0, b1, b2, bL⟩, ⟨p0, p1, p2, pL⟩, ⟨a0, a1, a2, aL⟩, ⟨m0, m1, m2, mL⟩, hw10⟩ := hcut
      go_wp2_with fail
      refine (of_to _ _).mono ?_
      rintro e w11 ⟨rfl, hb11⟩
      replace p0 : w11.cell? ⟨w2.heap.size, 0, none⟩ = some (.int .i64 1) := keep_cell hb11 (by go_simp)
      replace p1 : w11.cell? ⟨w2.heap.size, 1, none⟩ = some (.int .i64 p) := keep_cell hb11 (by go_simp)
      replace p2 : w11.cell? ⟨w2.heap.size, 2, none⟩ = some (.int .i64 0) := keep_cell hb11 (by go_simp)
      replace pL : w2.heap.size < w11.heap.size := block_lt_of_cell p0
      replace a0 : w11.cell? ⟨w5.heap.size, 0, none⟩ = some (.int .i64 1) := keep_cell hb11 (by go_simp)
      replace a1 : w11.cell? ⟨w5.heap.size, 1, none⟩ = some (.int .i64 a) := keep_cell hb11 (by go_simp)
      replace a2 : w11.cell? ⟨w5.heap.size, 2, none⟩ = some (.int .i64 0) := keep_cell hb11 (by go_simp)
      replace aL : w5.heap.size < w11.heap.size := block_lt_of_cell a0
      replace m0 : w11.cell? ⟨B6, 0, none⟩ = some (.int .i64 1) := keep_cell hb11 (by go_simp)
      replace m1 : w11.cell? ⟨B6, 1, none⟩ = some (.int .i64 a) := keep_cell hb11 (by go_simp)
      replace m2 : w11.cell? ⟨B6, 2, none⟩ = some (.int .i64 0) := keep_cell hb11 (by go_simp)
      replace mL : B6 < w11.heap.size := block_lt_of_cell m0
      replace b0 : w11.cell? ⟨w9.heap.size, 0, none⟩ = some (.int .i64 1) := keep_cell hb11 (by go_simp)
      replace b1 : w11.cell? ⟨w9.heap.size, 1, none⟩ = some (.int .i64 b) := keep_cell hb11 (by go_simp)
      replace b2 : w11.cell? ⟨w9.heap.size, 2, none⟩ = some (.int .i64 0) := keep_cell hb11 (by go_simp)
      replace bL : w9.heap.size < w11.heap.size := block_lt_of_cell b0
      replace c0 : w11.cell? ⟨B10, 0, none⟩ = some (.int .i64 1) := keep_cell hb11 (by go_simp)
      replace c1 : w11.cell? ⟨B10, 1, none⟩ = some (.int .i64 d) := keep_cell hb11 (by go_simp)
      replace c2 : w11.cell? ⟨B10, 2, none⟩ = some (.int .i64 0) := keep_cell hb11 (by go_simp)
      replace cL : B10 < w11.heap.size := block_lt_of_cell c0
      go_wp2_with fail
      refine (of_to _ _).mono ?_
      rintro e w12 ⟨rfl, hb12⟩
      replace p0 : w12.cell? ⟨w2.heap.size, 0, none⟩ = some (.int .i64 1) := keep_cell hb12 (by go_simp)
      replace p1 : w12.cell? ⟨w2.heap.size, 1, none⟩ = some (.int .i64 p) := keep_cell hb12 (by go_simp)
      replace p2 : w12.cell? ⟨w2.heap.size, 2, none⟩ = some (.int .i64 0) := keep_cell hb12 (by go_simp)
      replace pL : w2.heap.size < w12.heap.size := block_lt_of_cell p0
      replace a0 : w12.cell? ⟨w5.heap.size, 0, none⟩ = some (.int .i64 1) := keep_cell hb12 (by go_simp)
      replace a1 : w12.cell? ⟨w5.heap.size, 1, none⟩ = some (.int .i64 a) := keep_cell hb12 (by go_simp)
      replace a2 : w12.cell? ⟨w5.heap.size, 2, none⟩ = some (.int .i64 0) := keep_cell hb12 (by go_simp)
      replace aL : w5.heap.size < w12.heap.size := block_lt_of_cell a0
      replace m0 : w12.cell? ⟨B6, 0, none⟩ = some (.int .i64 1) := keep_cell hb12 (by go_simp)
      replace m1 : w12.cell? ⟨B6, 1, none⟩ = some (.int .i64 a) := keep_cell hb12 (by go_simp)
      replace m2 : w12.cell? ⟨B6, 2, none⟩ = some (.int .i64 0) := keep_cell hb12 (by go_simp)
      replace mL : B6 < w12.heap.size := block_lt_of_cell m0
      replace b0 : w12.cell? ⟨w9.heap.size, 0, none⟩ = some (.int .i64 1) := keep_cell hb12 (by go_simp)
      replace b1 : w12.cell? ⟨w9.heap.size, 1, none⟩ = some (.int .i64 b) := keep_cell hb12 (by go_simp)
      replace b2 : w12.cell? ⟨w9.heap.size, 2, none⟩ = some (.int .i64 0) := keep_cell hb12 (by go_simp)
      replace bL : w9.heap.size < w12.heap.size := block_lt_of_cell b0
      replace c0 : w12.cell? ⟨B10, 0, none⟩ = some (.int .i64 1) := keep_cell hb12 (by go_simp)
      replace c1 : w12.cell? ⟨B10, 1, none⟩ = some (.int .i64 d) := keep_cell hb12 (by go_simp)
      replace c2 : w12.cell? ⟨B10, 2, none⟩ = some (.int .i64 0) := keep_cell hb12 (by go_simp)
      replace cL : B10 < w12.heap.size := block_lt_of_cell c0
      go_wp2_with fail
      refine (bin_to 20 1 n 0 1 (i + j) 0 1 d 0 true _ H5.out).mono ?_
      rintro e w13 ⟨rfl, hb13⟩
      replace p0 : w13.cell? ⟨w2.heap.size, 0, none⟩ = some (.int .i64 1) := keep_cell hb13 (by go_simp)
      replace p1 : w13.cell? ⟨w2.heap.size, 1, none⟩ = some (.int .i64 p) := keep_cell hb13 (by go_simp)
      replace p2 : w13.cell? ⟨w2.heap.size, 2, none⟩ = some (.int .i64 0) := keep_cell hb13 (by go_simp)
      replace pL : w2.heap.size < w13.heap.size := block_lt_of_cell p0
      replace a0 : w13.cell? ⟨w5.heap.size, 0, none⟩ = some (.int .i64 1) := keep_cell hb13 (by go_simp)
      replace a1 : w13.cell? ⟨w5.heap.size, 1, none⟩ = some (.int .i64 a) := keep_cell hb13 (by go_simp)
      replace a2 : w13.cell? ⟨w5.heap.size, 2, none⟩ = some (.int .i64 0) := keep_cell hb13 (by go_simp)
      replace aL : w5.heap.size < w13.heap.size := block_lt_of_cell a0
      replace m0 : w13.cell? ⟨B6, 0, none⟩ = some (.int .i64 1) := keep_cell hb13 (by go_simp)
      replace m1 : w13.cell? ⟨B6, 1, none⟩ = some (.int .i64 a) := keep_cell hb13 (by go_simp)
      replace m2 : w13.cell? ⟨B6, 2, none⟩ = some (.int .i64 0) := keep_cell hb13 (by go_simp)
      replace mL : B6 < w13.heap.size := block_lt_of_cell m0
      replace b0 : w13.cell? ⟨w9.heap.size, 0, none⟩ = some (.int .i64 1) := keep_cell hb13 (by go_simp)
      replace b1 : w13.cell? ⟨w9.heap.size, 1, none⟩ = some (.int .i64 b) := keep_cell hb13 (by go_simp)
      replace b2 : w13.cell? ⟨w9.heap.size, 2, none⟩ = some (.int .i64 0) := keep_cell hb13 (by go_simp)
      replace bL : w9.heap.size < w13.heap.size := block_lt_of_cell b0
      replace c0 : w13.cell? ⟨B10, 0, none⟩ = some (.int .i64 1) := keep_cell hb13 (by go_simp)
      replace c1 : w13.cell? ⟨B10, 1, none⟩ = some (.int .i64 d) := keep_cell hb13 (by go_simp)
      replace c2 : w13.cell? ⟨B10, 2, none⟩ = some (.int .i64 0) := keep_cell hb13 (by go_simp)
      replace cL : B10 < w13.heap.size := block_lt_of_cell c0
      go_wp2_with fail
      refine (bin_to 13 1 b 0 1 p 0 1 q 0 true _ H6.out).mono ?_
      rintro e w14 ⟨rfl, hb14⟩
      replace p0 : w14.cell? ⟨w2.heap.size, 0, none⟩ = some (.int .i64 1) := keep_cell hb14 (by go_simp)
      replace p1 : w14.cell? ⟨w2.heap.size, 1, none⟩ = some (.int .i64 p) := keep_cell hb14 (by go_simp)
      replace p2 : w14.cell? ⟨w2.heap.size, 2, none⟩ = some (.int .i64 0) := keep_cell hb14 (by go_simp)
      replace pL : w2.heap.size < w14.heap.size := block_lt_of_cell p0
      replace a0 : w14.cell? ⟨w5.heap.size, 0, none⟩ = some (.int .i64 1) := keep_cell hb14 (by go_simp)
      replace a1 : w14.cell? ⟨w5.heap.size, 1, none⟩ = some (.int .i64 a) := keep_cell hb14 (by go_simp)
      replace a2 : w14.cell? ⟨w5.heap.size, 2, none⟩ = some (.int .i64 0) := keep_cell hb14 (by go_simp)
      replace aL : w5.heap.size < w14.heap.size := block_lt_of_cell a0
      replace m0 : w14.cell? ⟨B6, 0, none⟩ = some (.int .i64 1) := keep_cell hb14 (by go_simp)
      replace m1 : w14.cell? ⟨B6, 1, none⟩ = some (.int .i64 a) := keep_cell hb14 (by go_simp)
      replace m2 : w14.cell? ⟨B6, 2, none⟩ = some (.int .i64 0) := keep_cell hb14 (by go_simp)
      replace mL : B6 < w14.heap.size := block_lt_of_cell m0
      replace b0 : w14.cell? ⟨w9.heap.size, 0, none⟩ = some (.int .i64 1) := keep_cell hb14 (by go_simp)
      replace b1 : w14.cell? ⟨w9.heap.size, 1, none⟩ = some (.int .i64 b) := keep_cell hb14 (by go_simp)
      replace b2 : w14.cell? ⟨w9.heap.size, 2, none⟩ = some (.int .i64 0) := keep_cell hb14 (by go_simp)
      replace bL : w9.heap.size < w14.heap.size := block_lt_of_cell b0
      replace c0 : w14.cell? ⟨B10, 0, none⟩ = some (.int .i64 1) := keep_cell hb14 (by go_simp)
      replace c1 : w14.cell? ⟨B10, 1, none⟩ = some (.int .i64 d) := keep_cell hb14 (by go_simp)
      replace c2 : w14.cell? ⟨B10, 2, none⟩ = some (.int .i64 0) := keep_cell hb14 (by go_simp)
      replace cL : B10 < w14.heap.size := block_lt_of_cell c0
      have d0 : w14.cell? ⟨w13.heap.size, 0, none⟩ = some (.int .i64 1) := keep_cell hb14 (by go_simp)
      have d1 : w14.cell? ⟨w13.heap.size, 1, none⟩ = some (.int .i64 d) := keep_cell hb14 (by go_simp)
      have d2 : w14.cell? ⟨w13.heap.size, 2, none⟩ = some (.int .i64 0) := keep_cell hb14 (by go_simp)
      have dL : w13.heap.size < w14.heap.size := block_lt_of_cell d0
      go_wp2_with fail
      have hRz : w.heap.size ≤ w14.heap.size := Below.size (show Below w.heap.size w w14 from (by repeat (first | exact Below.refl _ _ | refine bel_alloc ?_ _ | refine bel_set ?_ (by first | exact Nat.le_refl _ | (simp; done) | (simp; omega)) _ | refine Below.drew ?_ | refine bel_trans ?_ (by assumption))))
      have pH : C3 (w14.alloc (.cells #[.int .i64 1, .int .i64 q, .int .i64 0] 24)) (w2.heap.size) 1 p 0 := C3.alloc (C3.mk' p0 p1 p2) _
      have aH : C3 (w14.alloc (.cells #[.int .i64 1, .int .i64 q, .int .i64 0] 24)) (w5.heap.size) 1 a 0 := C3.alloc (C3.mk' a0 a1 a2) _
      have mH : C3 (w14.alloc (.cells #[.int .i64 1, .int .i64 q, .int .i64 0] 24)) (B6) 1 a 0 := C3.alloc (C3.mk' m0 m1 m2) _
      have cH : C3 (w14.alloc (.cells #[.int .i64 1, .int .i64 q, .int .i64 0] 24)) (B10) 1 d 0 := C3.alloc (C3.mk' c0 c1 c2) _
      have dH : C3 (w14.alloc (.cells #[.int .i64 1, .int .i64 q, .int .i64 0] 24)) (w13.heap.size) 1 d 0 := C3.alloc (C3.mk' d0 d1 d2) _
      go_cut [20] (fun s w' => ∃ B, s = .pointer (some ⟨B, 0, none⟩) ∧ (w'.cell? ⟨B, 0, none⟩ = some (.int .i64 1) ∧ w'.cell? ⟨B, 1, none⟩ = some (.int .i64 r) ∧ w'.cell? ⟨B, 2, none⟩ = some (.int .i64 0) ∧ B < w'.heap.size) ∧ (w'.cell? ⟨w14.heap.size, 0, none⟩ = some (.int .i64 1) ∧ w'.cell? ⟨w14.heap.size, 1, none⟩ = some (.int .i64 q) ∧ w'.cell? ⟨w14.heap.size, 2, none⟩ = some (.int .i64 0) ∧ w14.heap.size < w'.heap.size) ∧ (w'.cell? ⟨w2.heap.size, 0, none⟩ = some (.int .i64 1) ∧ w'.cell? ⟨w2.heap.size, 1, none⟩ = some (.int .i64 p) ∧ w'.cell? ⟨w2.heap.size, 2, none⟩ = some (.int .i64 0) ∧ w2.heap.size < w'.heap.size) ∧ (w'.cell? ⟨w5.heap.size, 0, none⟩ = some (.int .i64 1) ∧ w'.cell? ⟨w5.heap.size, 1, none⟩ = some (.int .i64 a) ∧ w'.cell? ⟨w5.heap.size, 2, none⟩ = some (.int .i64 0) ∧ w5.heap.size < w'.heap.size) ∧ (w'.cell? ⟨B6, 0, none⟩ = some (.int .i64 1) ∧ w'.cell? ⟨B6, 1, none⟩ = some (.int .i64 a) ∧ w'.cell? ⟨B6, 2, none⟩ = some (.int .i64 0) ∧ B6 < w'.heap.size) ∧ (w'.cell? ⟨B10, 0, none⟩ = some (.int .i64 1) ∧ w'.cell? ⟨B10, 1, none⟩ = some (.int .i64 d) ∧ w'.cell? ⟨B10, 2, none⟩ = some (.int .i64 0) ∧ B10 < w'.heap.size) ∧ (w'.cell? ⟨w13.heap.size, 0, none⟩ = some (.int .i64 1) ∧ w'.cell? ⟨w13.heap.size, 1, none⟩ = some (.int .i64 d) ∧ w'.cell? ⟨w13.heap.size, 2, none⟩ = some (.int .i64 0) ∧ w13.heap.size < w'.heap.size) ∧ Below w.heap.size w w')
      case first =>
        go_region_held3 (fun w' => (w'.cell? ⟨w14.heap.size, 0, none⟩ = some (.int .i64 1) ∧ w'.cell? ⟨w14.heap.size, 1, none⟩ = some (.int .i64 q) ∧ w'.cell? ⟨w14.heap.size, 2, none⟩ = some (.int .i64 0) ∧ w14.heap.size < w'.heap.size))
          (first | with_reducible exact callS1 hv1 (by assumption) | with_reducible exact allocS1 (by assumption) | with_reducible exact setS1 (by assumption) (by go_light; omega) | with_reducible exact reallocS1 (by assumption) (by go_light; omega) | (go_simp; done))
          (first | (go_at_call 6; refine (of_to _ _).mono ?_; rintro e v1 ⟨rfl, hv1⟩; obtain ⟨hc1, hf1⟩ := bcell hv1; have hz1 := bsize hv1; try simp only [World.size_alloc, World.size_drew, World.cell?_drew, World.frozen?_drew, Nat.add_one_le_iff] at hz1 hc1 hf1) | (go_at_call 7; refine (bin_to 12 1 n 0 1 q 0 1 r 0 true _ H7.out).mono ?_; rintro e v1 ⟨rfl, hv1⟩; obtain ⟨hc1, hf1⟩ := bcell hv1; have hz1 := bsize hv1; try simp only [World.size_alloc, World.size_drew, World.cell?_drew, World.frozen?_drew, Nat.add_one_le_iff] at hz1 hc1 hf1))
        all_goals
          go_wp2_with fail
          go_meet
          case rel =>
            rename_i hH
            exact ⟨_, rfl, C3.mk' (by go_simp) (by go_simp) (by go_simp), hH, C3.call pH (by repeat (first | exact Below.refl _ _ | assumption | refine bel_alloc ?_ _ | refine Below.drew ?_ | refine bel_set ?_ (by go_light; first | (simp; done) | (simp; omega) | omega) _ | refine bel_trans ?_ (by assumption))), C3.call aH (by repeat (first | exact Below.refl _ _ | assumption | refine bel_alloc ?_ _ | refine Below.drew ?_ | refine bel_set ?_ (by go_light; first | (simp; done) | (simp; omega) | omega) _ | refine bel_trans ?_ (by assumption))), C3.call mH (by repeat (first | exact Below.refl _ _ | assumption | refine bel_alloc ?_ _ | refine Below.drew ?_ | refine bel_set ?_ (by go_light; first | (simp; done) | (simp; omega) | omega) _ | refine bel_trans ?_ (by assumption))), C3.call cH (by repeat (first | exact Below.refl _ _ | assumption | refine bel_alloc ?_ _ | refine Below.drew ?_ | refine bel_set ?_ (by go_light; first | (simp; done) | (simp; omega) | omega) _ | refine bel_trans ?_ (by assumption))), C3.call dH (by repeat (first | exact Below.refl _ _ | assumption | refine bel_alloc ?_ _ | refine Below.drew ?_ | refine bel_set ?_ (by go_light; first | (simp; done) | (simp; omega) | omega) _ | refine bel_trans ?_ (by assumption))), (by repeat (first | exact Below.refl _ _ | assumption | refine bel_alloc ?_ _ | refine Below.drew ?_ | refine bel_set ?_ (by go_light; first | (simp; done) | (simp; omega) | omega) _ | refine bel_trans ?_ (by assumption)))⟩
      case rest =>
        clear pH aH mH cH dH
        obtain ⟨B15, rfl, ⟨r0, r1, r2, rL⟩, ⟨q0, q1, q2, qL⟩, ⟨p0, p1, p2, pL⟩, ⟨a0, a1, a2, aL⟩, ⟨m0, m1, m2, mL⟩, ⟨c0, c1, c2, cL⟩, ⟨d0, d1, d2, dL⟩, hw15⟩ := hcut
        go_wp2
        go_ret
        exact ⟨rfl, (by repeat (first | exact Below.refl _ _ | refine bel_alloc ?_ _ | refine bel_set ?_ (by first | exact Nat.le_refl _ | (simp; done) | (simp; omega)) _ | refine Below.drew ?_ | refine bel_trans ?_ (by assumption)))⟩


theorem p62 (k : Nat) (h : k ≤ 62) : (1 : Int) ≤ 2 ^ k ∧ (2 : Int) ^ k ≤ 4611686018427387904 := by
  have h1 : 2 ^ k ≤ 2 ^ 62 := Nat.pow_le_pow_right (by decide) h
  have h0 : 0 < 2 ^ k := Nat.pow_pos (by decide)
  have e : ((2 ^ k : Nat) : Int) = 2 ^ k := by simp
  rw [← e]
  omega
theorem bin19 (n i : Int) (h0 : 0 ≤ i) (h1 : i ≤ 63) : binF 19 ⟨1, n, 0⟩ ⟨1, i, 0⟩ = (⟨1, wrap64 (n * 2 ^ i.toNat), 0⟩, true) := by
  simp only [binF, kindF, goodF, intsF, shiftF, ofF]; simp [show ¬ (i < 0 ∨ 63 < i) by omega]
theorem bin20 (n i : Int) (h0 : 0 ≤ i) (h1 : i ≤ 63) : binF 20 ⟨1, n, 0⟩ ⟨1, i, 0⟩ = (⟨1, n / 2 ^ i.toNat, 0⟩, true) := by
  simp only [binF, kindF, goodF, intsF, shiftF, ofF]; simp [show ¬ (i < 0 ∨ 63 < i) by omega]
theorem bin12 (a b : Int) : binF 12 ⟨1, a, 0⟩ ⟨1, b, 0⟩ = (⟨1, wrap64 (a - b), 0⟩, true) := by simp [binF, kindF, goodF, intsF, ofF]

set_option maxHeartbeats 1000000 in
theorem shifts_e1 (n i j : Int) (w : World) (ht : Tab w) (h : i < 0) : Calls Tryd.prog 3 #[.int .i64 n, .int .i64 i, .int .i64 j] w (retP (.bool true) w) := by
  go_enter Tryd.func3, Tryd.ntmps3
  go_wp2_with fail
  refine (awake_any _ ht).mono ?_
  rintro e w1 ⟨rfl, hb1⟩
  go_wp2
  go_ret
  exact ⟨rfl, (by repeat (first | exact Below.refl _ _ | refine bel_alloc ?_ _ | refine bel_set ?_ (by first | exact Nat.le_refl _ | (simp; done) | (simp; omega)) _ | refine Below.drew ?_ | refine bel_trans ?_ (by assumption)))⟩

set_option maxHeartbeats 1000000 in
theorem shifts_e2 (n i j : Int) (w : World) (ht : Tab w) (h0 : ¬ i < 0) (h : j < 0) : Calls Tryd.prog 3 #[.int .i64 n, .int .i64 i, .int .i64 j] w (retP (.bool true) w) := by
  go_enter Tryd.func3, Tryd.ntmps3
  go_wp2_with fail
  refine (awake_any _ ht).mono ?_
  rintro e w1 ⟨rfl, hb1⟩
  go_wp2
  go_ret
  exact ⟨rfl, (by repeat (first | exact Below.refl _ _ | refine bel_alloc ?_ _ | refine bel_set ?_ (by first | exact Nat.le_refl _ | (simp; done) | (simp; omega)) _ | refine Below.drew ?_ | refine bel_trans ?_ (by assumption)))⟩

set_option maxHeartbeats 1000000 in
theorem shifts_e3 (n i j : Int) (w : World) (ht : Tab w) (h0 : ¬ i < 0) (h1 : ¬ j < 0) (h : 62 < wrap64 (i + j)) : Calls Tryd.prog 3 #[.int .i64 n, .int .i64 i, .int .i64 j] w (retP (.bool true) w) := by
  go_enter Tryd.func3, Tryd.ntmps3
  go_wp2_with fail
  refine (awake_any _ ht).mono ?_
  rintro e w1 ⟨rfl, hb1⟩
  go_wp2
  go_ret
  exact ⟨rfl, (by repeat (first | exact Below.refl _ _ | refine bel_alloc ?_ _ | refine bel_set ?_ (by first | exact Nat.le_refl _ | (simp; done) | (simp; omega)) _ | refine Below.drew ?_ | refine bel_trans ?_ (by assumption)))⟩

set_option maxHeartbeats 1000000 in
theorem shifts_e4 (n i j : Int) (w : World) (ht : Tab w) (h0 : ¬ i < 0) (h1 : ¬ j < 0) (h2 : ¬ 62 < wrap64 (i + j)) (h : 62 < i) : Calls Tryd.prog 3 #[.int .i64 n, .int .i64 i, .int .i64 j] w (retP (.bool true) w) := by
  go_enter Tryd.func3, Tryd.ntmps3
  go_wp2_with fail
  refine (awake_any _ ht).mono ?_
  rintro e w1 ⟨rfl, hb1⟩
  go_wp2
  go_ret
  exact ⟨rfl, (by repeat (first | exact Below.refl _ _ | refine bel_alloc ?_ _ | refine bel_set ?_ (by first | exact Nat.le_refl _ | (simp; done) | (simp; omega)) _ | refine Below.drew ?_ | refine bel_trans ?_ (by assumption)))⟩

set_option maxHeartbeats 1000000 in
theorem shifts_e5 (n i j : Int) (w : World) (ht : Tab w) (h0 : ¬ i < 0) (h1 : ¬ j < 0) (h2 : ¬ 62 < wrap64 (i + j)) (h3 : ¬ 62 < i) (h : 62 < j) : Calls Tryd.prog 3 #[.int .i64 n, .int .i64 i, .int .i64 j] w (retP (.bool true) w) := by
  go_enter Tryd.func3, Tryd.ntmps3
  go_wp2_with fail
  refine (awake_any _ ht).mono ?_
  rintro e w1 ⟨rfl, hb1⟩
  go_wp2
  go_ret
  exact ⟨rfl, (by repeat (first | exact Below.refl _ _ | refine bel_alloc ?_ _ | refine bel_set ?_ (by first | exact Nat.le_refl _ | (simp; done) | (simp; omega)) _ | refine Below.drew ?_ | refine bel_trans ?_ (by assumption)))⟩

set_option maxHeartbeats 1000000 in
theorem valShifts_walk (n i j : Int) (x0 : (Lit.int .i64 n).wf = true) (x1 : (Lit.int .i64 i).wf = true) (x2 : (Lit.int .i64 j).wf = true) (w : World) (ht : Tab w) :
    Calls Tryd.prog 3 #[.int .i64 n, .int .i64 i, .int .i64 j] w (retP (.bool true) w) := by
  obtain ⟨n0, n1⟩ := bnd x0
  obtain ⟨i0', i1'⟩ := bnd x1
  obtain ⟨j0', j1'⟩ := bnd x2
  by_cases hi : i < 0
  · exact shifts_e1 n i j w ht hi
  by_cases hj : j < 0
  · exact shifts_e2 n i j w ht hi hj
  by_cases hs : 62 < wrap64 (i + j)
  · exact shifts_e3 n i j w ht hi hj hs
  by_cases hi2 : 62 < i
  · exact shifts_e4 n i j w ht hi hj hs hi2
  by_cases hj2 : 62 < j
  · exact shifts_e5 n i j w ht hi hj hs hi2 hj2
  have hs2 : i + j ≤ 62 := by unfold wrap64 at hs; omega
  obtain ⟨p0, p1⟩ := p62 i.toNat (by omega)
  have hp : wrap64 (2 ^ i.toNat) = 2 ^ i.toNat := by unfold wrap64; omega
  have h4 := bin20 (n / 2 ^ i.toNat) j (by omega) (by omega)
  have h5 := bin20 n (i + j) (by omega) (by omega)
  have e5 : n / 2 ^ (i + j).toNat = n / 2 ^ i.toNat / 2 ^ j.toNat := by
    rw [Int.ediv_ediv_of_nonneg (by omega), ← Int.pow_add, show (i + j).toNat = i.toNat + j.toNat by omega]
  rw [e5] at h5
  have h6 := bin13 (n / 2 ^ i.toNat) (2 ^ i.toNat)
  have hm := Int.mul_ediv_add_emod n (2 ^ i.toNat)
  have hm0 := Int.emod_nonneg n (show (2 : Int) ^ i.toNat ≠ 0 by omega)
  have hm1 := Int.emod_lt_of_pos n (show (0 : Int) < 2 ^ i.toNat by omega)
  rw [Int.mul_comm] at hm
  have h7 := bin12 n (wrap64 (n / 2 ^ i.toNat * 2 ^ i.toNat))
  have e7 : wrap64 (n - wrap64 (n / 2 ^ i.toNat * 2 ^ i.toNat)) = n % 2 ^ i.toNat := by
    have hn : n / 2 ^ i.toNat * 2 ^ i.toNat = n - n % 2 ^ i.toNat := by omega
    rw [hn]
    generalize (n % 2 ^ i.toNat : Int) = u at *
    unfold wrap64; omega
  rw [e7] at h7
  exact shifts_core (w := w) (ht := ht) (i0 := by omega) (i1 := by omega) (j0 := by omega) (j1 := by omega) (ij := hs2) (hp := hp) (H1 := bin19 n i (by omega) (by omega)) (H2 := bin13 n _) (H3 := bin20 n i (by omega) (by omega)) (H4 := h4) (H5 := h5) (H6 := h6) (H7 := h7) (r0 := hm0) (r1 := hm1)

set_option maxRecDepth 100000 in
theorem valShifts_lifted (os : Os) (started : os.Started) (H : Type) (enc : TypeId × Value → H) :
    ReturnsInHanded {} Tryd.checked os 3 .any (fun w args => (Rows.valShiftsSpec.pre enc Tryd.prog Tryd.f3 [] false w args ∧ laidMetH Tryd.prog laid3 w) ∧ sizedMet enc Tryd.prog Tryd.f3 (OpenSpec.ofChange Rows.valShiftsSpec) false w args)
      (Rows.valShiftsSpec.post enc Tryd.prog Tryd.f3 false true false false) := by
  refine returnsInHanded_of_change_and (C := Tryd.checked) (X := fun w _ => laidMetH Tryd.prog laid3 w) (fun _ _ _ hh h => h.of_heap hh) own started (by kernel_rfl) Tryd.func3
    (ChangeSpec.witness_shaped (enc := enc) (C := Tryd.checked) (os := os) (X := fun w _ => laidMetH Tryd.prog laid3 w) false (World.doorLaid Tryd.prog 400 os) #[.int .i64 0, .int .i64 0, .int .i64 0] 8 rfl (World.shaped_of_RefB (by kernel_rfl) (by kernel_rfl)) (by kernel_rfl) (by kernel_rfl) (by kernel_rfl) (door_met os _)) ?_
  intro W base args ds gs before hval0 hW _ _ hL _
  have hval : ∀ (j : Nat) t v, Tryd.f3.params[j]? = some t → args[j]? = some v → Value.okWide Tryd.prog W .any base t v := hval0
  have hW' := hW
  obtain ⟨p, q, hA0, hV, rfl, hfz, hnd⟩ := hW
  have hA : DataW.TrodAll enc Tryd.prog W 0 (fun _ => true) true Tryd.f3.params.toList args.toList ds p := hA0
  rw [Tryd.params3] at hA hval
  obtain ⟨v0, vs0, d0, ds0, p0, q0, hargs, rfl, rfl, h0, r0⟩ := trodAll_cons hA
  obtain ⟨v1, vs1, d1, ds1, p1, q1, rfl, rfl, rfl, h1, r1⟩ := trodAll_cons r0
  obtain ⟨v2, vs2, d2, ds2, p2, q2, rfl, rfl, rfl, h2, r2⟩ := trodAll_cons r1
  obtain ⟨rfl, rfl, rfl⟩ := trodAll_nil r2
  obtain rfl : args = #[v0, v1, v2] := by cases args; simp_all
  obtain ⟨rfl, rfl⟩ := trodVars_none hV
  obtain ⟨a0, rfl, rfl, rfl, x0⟩ := open_int Tryd.underlying2 (hval 0 2 v0 rfl rfl) h0
  obtain ⟨a1, rfl, rfl, rfl, x1⟩ := open_int Tryd.underlying2 (hval 1 2 v1 rfl rfl) h1
  obtain ⟨a2, rfl, rfl, rfl, x2⟩ := open_int Tryd.underlying2 (hval 2 2 v2 rfl rfl) h2
  clear hA0 hval0
  simp only [List.append_nil] at hW'
  refine (valShifts_walk a0 a1 a2 x0 x1 x2 W (tab_of_laid hL)).mono fun e W' ⟨he, hb⟩ => ?_
  subst he
  exact ⟨_, rfl, _, _, _, [], [], [], hW', (trodAll_cons_mk (shut_bool Tryd.underlying4 _) trodAll_mk0), (trodAll_cons_mk (shut_int Tryd.underlying2 x0) (trodAll_cons_mk (shut_int Tryd.underlying2 x1) (trodAll_cons_mk (shut_int Tryd.underlying2 x2) trodAll_mk0))), rfl, hb.frame _, fun h => by cases h⟩

theorem valShifts_row : Rows.ValShiftsSaid :=
  OpenClaim.holds_of_wide 3 Tryd.f3 rfl rfl rfl rfl rfl rfl rfl ⟨rfl, rfl, rfl, rfl, rfl⟩ rfl rfl rfl rfl rfl (by kernel_rfl) Tryd.func3 (by kernel_rfl)
    (of_decide_eq_true (by kernel_rfl)) (by unfold Func.isWrapper; first | (rw [if_pos (by decide +kernel)]; kernel_rfl) | (rw [if_neg (by decide +kernel)]; exact ⟨rfl, rfl⟩))
    (fun os started H enc _ => valShifts_lifted os started H enc)

/-- THE STATEMENT. -/
theorem valShifts_holds : Rows.ValShiftsCardSaid :=
  Claim7.holds_tied_plain_at .later [] [.data, .data, .data] true (true, "6431ef41c5ed60f50f64033aaccf2b6f87d9b809db1196f6136aabae1e836a59") false
    valShifts_row (fun _ h => by cases h) (by kernel_rfl) (fun _ h => by cases h) valShifts_row_tie rfl ⟨rfl, rfl⟩ (by kernel_rfl) rfl
    (fun f fn hf hfn => by
      obtain rfl : f = 3 := Option.some.inj ((show Tryd.prog.funcNamed "plumbob/plumboblaw1.ValShifts" = some 3 by kernel_rfl).symm.trans hf) |>.symm
      obtain rfl : fn = Tryd.f3 := (Option.some.inj (Tryd.func3.symm.trans hfn)).symm
      exact ⟨by kernel_rfl, fun j t ht => by
        rw [Tryd.params3] at ht
        have hm : t ∈ [2, 2, 2] := by simpa using Array.mem_of_getElem? ht
        have hall : ([2, 2, 2].all fun u => !Tryd.prog.wantsStandIn u) = true := by kernel_rfl
        exact (show Tryd.prog.wantsStandIn t = false by simpa using List.all_eq_true.1 hall t hm)⟩)
    (by kernel_rfl)
#print axioms valShifts_holds

end Go.Proofs.YtfkalcfkbaimgabDoor
