/- For every three int64 and every operation: adding, multiplying and the bitwise operations may be grouped as one likes, multiplying is shared out over adding: the statement ValChains returns true. Conditions: the three tables of the library that the row lists start as the program's text lays them (the card ties them). -/
import Derived.Test.YtfkalcfkbaimgaaDoorDraw
import Derived.Test.YtfkalcfkbaimgaaDoorChainsM
namespace Go.Proofs.YtfkalcfkbaimgaaDoor
open Go.ChangeShapes Go.WideShapes Go.ChangeAt Go.RowKit Pl
set_option linter.unusedSimpArgs false
set_option linter.unusedVariables false

set_option maxRecDepth 100000 in
set_option maxHeartbeats 8000000 in
theorem chains_11 (a b c x y z s p q r : Int) (w : World) (ht : Tab w) (H1 : Hid (binF 11 ⟨1, a, 0⟩ ⟨1, b, 0⟩ = (⟨1, x, 0⟩, true))) (H2 : Hid (binF 11 ⟨1, x, 0⟩ ⟨1, c, 0⟩ = (⟨1, y, 0⟩, true))) (H3 : Hid (binF 11 ⟨1, b, 0⟩ ⟨1, c, 0⟩ = (⟨1, z, 0⟩, true))) (H4 : Hid (binF 11 ⟨1, a, 0⟩ ⟨1, z, 0⟩ = (⟨1, y, 0⟩, true)))
    (H5 : Hid (binF 11 ⟨1, b, 0⟩ ⟨1, c, 0⟩ = (⟨1, s, 0⟩, true))) (H6 : Hid (binF 13 ⟨1, a, 0⟩ ⟨1, s, 0⟩ = (⟨1, p, 0⟩, true))) (H7 : Hid (binF 13 ⟨1, a, 0⟩ ⟨1, b, 0⟩ = (⟨1, q, 0⟩, true))) (H8 : Hid (binF 13 ⟨1, a, 0⟩ ⟨1, c, 0⟩ = (⟨1, r, 0⟩, true))) (H9 : Hid (binF 11 ⟨1, q, 0⟩ ⟨1, r, 0⟩ = (⟨1, p, 0⟩, true))) :
    Calls Tryd.prog 7 #[.int .i64 a, .int .i64 b, .int .i64 c, .int .i64 11] w (retP (.bool true) w) := by
  go_enter Tryd.func7, Tryd.ntmps7
  go_wp2_with fail
  refine (awake_any _ ht).mono ?_
  rintro e w1 ⟨rfl, hb1⟩
  go_wp2_with fail
  refine (of_to _ _).mono ?_
  rintro e w2 ⟨rfl, hb2⟩
  go_wp2_with fail
  refine (of_to _ _).mono ?_
  rintro e w3 ⟨rfl, hb3⟩
  go_wp2_with fail
  refine (bin_to 11 1 a 0 1 b 0 1 x 0 true _ H1.out).mono ?_
  rintro e w4 ⟨rfl, hb4⟩
  go_wp2_with fail
  have hRz : w.heap.size ≤ w4.heap.size := Below.size (show Below w.heap.size w w4 from (by repeat (first | exact Below.refl _ _ | refine bel_alloc ?_ _ | refine bel_set ?_ (by first | exact Nat.le_refl _ | (simp; done) | (simp; omega)) _ | refine Below.drew ?_ | refine bel_trans ?_ (by assumption))))
  go_cut [11] (fun sv w' => ∃ B, sv = .pointer (some ⟨B, 0, none⟩) ∧ w.heap.size ≤ B ∧ (w'.cell? ⟨B, 0, none⟩ = some (.int .i64 1) ∧ w'.cell? ⟨B, 1, none⟩ = some (.int .i64 y) ∧ w'.cell? ⟨B, 2, none⟩ = some (.int .i64 0) ∧ B < w'.heap.size) ∧ (w'.cell? ⟨w4.heap.size, 0, none⟩ = some (.int .i64 1) ∧ w'.cell? ⟨w4.heap.size, 1, none⟩ = some (.int .i64 x) ∧ w'.cell? ⟨w4.heap.size, 2, none⟩ = some (.int .i64 0) ∧ w4.heap.size < w'.heap.size) ∧ Below w.heap.size w w')
  case first =>
    go_region_held3 (fun w' => (w'.cell? ⟨w4.heap.size, 0, none⟩ = some (.int .i64 1) ∧ w'.cell? ⟨w4.heap.size, 1, none⟩ = some (.int .i64 x) ∧ w'.cell? ⟨w4.heap.size, 2, none⟩ = some (.int .i64 0) ∧ w4.heap.size < w'.heap.size))
      (first | with_reducible exact callS1 hv1 (by assumption) | with_reducible exact allocS1 (by assumption) | with_reducible exact setS1 (by assumption) (by go_light; omega) | with_reducible exact reallocS1 (by assumption) (by go_light; omega) | (go_simp; done))
      (first | (go_at_call 11; refine (of_to _ _).mono ?_; rintro e v1 ⟨rfl, hv1⟩; obtain ⟨hc1, hf1⟩ := bcell hv1; have hz1 := bsize hv1; try simp only [World.size_alloc, World.size_drew, World.cell?_drew, World.frozen?_drew, Nat.add_one_le_iff] at hz1 hc1 hf1) | (go_at_call 10; refine (bin_to 11 1 x 0 1 c 0 1 y 0 true _ H2.out).mono ?_; rintro e v1 ⟨rfl, hv1⟩; obtain ⟨hc1, hf1⟩ := bcell hv1; have hz1 := bsize hv1; try simp only [World.size_alloc, World.size_drew, World.cell?_drew, World.frozen?_drew, Nat.add_one_le_iff] at hz1 hc1 hf1))
    all_goals
      go_wp2_with fail
      go_meet
      case rel =>
        rename_i hH
        exact ⟨_, rfl, by go_light; first | exact hRz | omega, C3.mk' (by go_simp) (by go_simp) (by go_simp), hH, (by repeat (first | exact Below.refl _ _ | assumption | refine bel_alloc ?_ _ | refine Below.drew ?_ | refine bel_set ?_ (by go_light; first | (simp; done) | (simp; omega) | omega) _ | refine bel_trans ?_ (by assumption)))⟩
  case rest =>
    obtain ⟨B5, rfl, yG, ⟨y0, y1, y2, yL⟩, ⟨x0, x1, x2, xL⟩, hw5⟩ := hcut
    go_wp2_with fail
    refine (of_to _ _).mono ?_
    rintro e w6 ⟨rfl, hb6⟩
    replace y0 : w6.cell? ⟨B5, 0, none⟩ = some (.int .i64 1) := keep_cell hb6 (by go_simp)
    replace y1 : w6.cell? ⟨B5, 1, none⟩ = some (.int .i64 y) := keep_cell hb6 (by go_simp)
    replace y2 : w6.cell? ⟨B5, 2, none⟩ = some (.int .i64 0) := keep_cell hb6 (by go_simp)
    replace yL : B5 < w6.heap.size := block_lt_of_cell y0
    go_wp2_with fail
    refine (of_to _ _).mono ?_
    rintro e w7 ⟨rfl, hb7⟩
    replace y0 : w7.cell? ⟨B5, 0, none⟩ = some (.int .i64 1) := keep_cell hb7 (by go_simp)
    replace y1 : w7.cell? ⟨B5, 1, none⟩ = some (.int .i64 y) := keep_cell hb7 (by go_simp)
    replace y2 : w7.cell? ⟨B5, 2, none⟩ = some (.int .i64 0) := keep_cell hb7 (by go_simp)
    replace yL : B5 < w7.heap.size := block_lt_of_cell y0
    go_wp2_with fail
    refine (bin_to 11 1 b 0 1 c 0 1 z 0 true _ H3.out).mono ?_
    rintro e w8 ⟨rfl, hb8⟩
    replace y0 : w8.cell? ⟨B5, 0, none⟩ = some (.int .i64 1) := keep_cell hb8 (by go_simp)
    replace y1 : w8.cell? ⟨B5, 1, none⟩ = some (.int .i64 y) := keep_cell hb8 (by go_simp)
    replace y2 : w8.cell? ⟨B5, 2, none⟩ = some (.int .i64 0) := keep_cell hb8 (by go_simp)
    replace yL : B5 < w8.heap.size := block_lt_of_cell y0
    go_wp2_with fail
    have hRz : w.heap.size ≤ w8.heap.size := Below.size (show Below w.heap.size w w8 from (by repeat (first | exact Below.refl _ _ | refine bel_alloc ?_ _ | refine bel_set ?_ (by first | exact Nat.le_refl _ | (simp; done) | (simp; omega)) _ | refine Below.drew ?_ | refine bel_trans ?_ (by assumption))))
    have yH : C3 (w8.alloc (.cells #[.int .i64 1, .int .i64 z, .int .i64 0] 24)) (B5) 1 y 0 := C3.alloc (C3.mk' y0 y1 y2) _
    go_cut [15] (fun sv w' => ∃ B, sv = .pointer (some ⟨B, 0, none⟩) ∧ w.heap.size ≤ B ∧ (w'.cell? ⟨B, 0, none⟩ = some (.int .i64 1) ∧ w'.cell? ⟨B, 1, none⟩ = some (.int .i64 y) ∧ w'.cell? ⟨B, 2, none⟩ = some (.int .i64 0) ∧ B < w'.heap.size) ∧ (w'.cell? ⟨w8.heap.size, 0, none⟩ = some (.int .i64 1) ∧ w'.cell? ⟨w8.heap.size, 1, none⟩ = some (.int .i64 z) ∧ w'.cell? ⟨w8.heap.size, 2, none⟩ = some (.int .i64 0) ∧ w8.heap.size < w'.heap.size) ∧ (w'.cell? ⟨B5, 0, none⟩ = some (.int .i64 1) ∧ w'.cell? ⟨B5, 1, none⟩ = some (.int .i64 y) ∧ w'.cell? ⟨B5, 2, none⟩ = some (.int .i64 0) ∧ B5 < w'.heap.size) ∧ Below w.heap.size w w')
    case first =>
      go_region_held3 (fun w' => (w'.cell? ⟨w8.heap.size, 0, none⟩ = some (.int .i64 1) ∧ w'.cell? ⟨w8.heap.size, 1, none⟩ = some (.int .i64 z) ∧ w'.cell? ⟨w8.heap.size, 2, none⟩ = some (.int .i64 0) ∧ w8.heap.size < w'.heap.size))
        (first | with_reducible exact callS1 hv1 (by assumption) | with_reducible exact allocS1 (by assumption) | with_reducible exact setS1 (by assumption) (by go_light; omega) | with_reducible exact reallocS1 (by assumption) (by go_light; omega) | (go_simp; done))
        (first | (go_at_call 11; refine (of_to _ _).mono ?_; rintro e v1 ⟨rfl, hv1⟩; obtain ⟨hc1, hf1⟩ := bcell hv1; have hz1 := bsize hv1; try simp only [World.size_alloc, World.size_drew, World.cell?_drew, World.frozen?_drew, Nat.add_one_le_iff] at hz1 hc1 hf1) | (go_at_call 10; refine (bin_to 11 1 a 0 1 z 0 1 y 0 true _ H4.out).mono ?_; rintro e v1 ⟨rfl, hv1⟩; obtain ⟨hc1, hf1⟩ := bcell hv1; have hz1 := bsize hv1; try simp only [World.size_alloc, World.size_drew, World.cell?_drew, World.frozen?_drew, Nat.add_one_le_iff] at hz1 hc1 hf1))
      all_goals
        go_wp2_with fail
        go_meet
        case rel =>
          rename_i hH
          exact ⟨_, rfl, by go_light; first | exact hRz | omega, C3.mk' (by go_simp) (by go_simp) (by go_simp), hH, C3.call yH (by repeat (first | exact Below.refl _ _ | assumption | refine bel_alloc ?_ _ | refine Below.drew ?_ | refine bel_set ?_ (by go_light; first | (simp; done) | (simp; omega) | omega) _ | refine bel_trans ?_ (by assumption))), (by repeat (first | exact Below.refl _ _ | assumption | refine bel_alloc ?_ _ | refine Below.drew ?_ | refine bel_set ?_ (by go_light; first | (simp; done) | (simp; omega) | omega) _ | refine bel_trans ?_ (by assumption)))⟩
    case rest =>
      clear yH
      obtain ⟨B9, rfl, gG, ⟨g0, g1, g2, gL⟩, ⟨z0, z1, z2, zL⟩, ⟨y0, y1, y2, yL⟩, hw9⟩ := hcut
      go_wp2_with fail
      refine (of_to _ _).mono ?_
      rintro e w10 ⟨rfl, hb10⟩
      replace y0 : w10.cell? ⟨B5, 0, none⟩ = some (.int .i64 1) := keep_cell hb10 (by go_simp)
      replace y1 : w10.cell? ⟨B5, 1, none⟩ = some (.int .i64 y) := keep_cell hb10 (by go_simp)
      replace y2 : w10.cell? ⟨B5, 2, none⟩ = some (.int .i64 0) := keep_cell hb10 (by go_simp)
      replace yL : B5 < w10.heap.size := block_lt_of_cell y0
      replace g0 : w10.cell? ⟨B9, 0, none⟩ = some (.int .i64 1) := keep_cell hb10 (by go_simp)
      replace g1 : w10.cell? ⟨B9, 1, none⟩ = some (.int .i64 y) := keep_cell hb10 (by go_simp)
      replace g2 : w10.cell? ⟨B9, 2, none⟩ = some (.int .i64 0) := keep_cell hb10 (by go_simp)
      replace gL : B9 < w10.heap.size := block_lt_of_cell g0
      go_wp2_with fail
      refine (of_to _ _).mono ?_
      rintro e w11 ⟨rfl, hb11⟩
      replace y0 : w11.cell? ⟨B5, 0, none⟩ = some (.int .i64 1) := keep_cell hb11 (by go_simp)
      replace y1 : w11.cell? ⟨B5, 1, none⟩ = some (.int .i64 y) := keep_cell hb11 (by go_simp)
      replace y2 : w11.cell? ⟨B5, 2, none⟩ = some (.int .i64 0) := keep_cell hb11 (by go_simp)
      replace yL : B5 < w11.heap.size := block_lt_of_cell y0
      replace g0 : w11.cell? ⟨B9, 0, none⟩ = some (.int .i64 1) := keep_cell hb11 (by go_simp)
      replace g1 : w11.cell? ⟨B9, 1, none⟩ = some (.int .i64 y) := keep_cell hb11 (by go_simp)
      replace g2 : w11.cell? ⟨B9, 2, none⟩ = some (.int .i64 0) := keep_cell hb11 (by go_simp)
      replace gL : B9 < w11.heap.size := block_lt_of_cell g0
      go_wp2_with fail
      refine (bin_to 11 1 b 0 1 c 0 1 s 0 true _ H5.out).mono ?_
      rintro e w12 ⟨rfl, hb12⟩
      replace y0 : w12.cell? ⟨B5, 0, none⟩ = some (.int .i64 1) := keep_cell hb12 (by go_simp)
      replace y1 : w12.cell? ⟨B5, 1, none⟩ = some (.int .i64 y) := keep_cell hb12 (by go_simp)
      replace y2 : w12.cell? ⟨B5, 2, none⟩ = some (.int .i64 0) := keep_cell hb12 (by go_simp)
      replace yL : B5 < w12.heap.size := block_lt_of_cell y0
      replace g0 : w12.cell? ⟨B9, 0, none⟩ = some (.int .i64 1) := keep_cell hb12 (by go_simp)
      replace g1 : w12.cell? ⟨B9, 1, none⟩ = some (.int .i64 y) := keep_cell hb12 (by go_simp)
      replace g2 : w12.cell? ⟨B9, 2, none⟩ = some (.int .i64 0) := keep_cell hb12 (by go_simp)
      replace gL : B9 < w12.heap.size := block_lt_of_cell g0
      go_wp2_with fail
      have hRz : w.heap.size ≤ w12.heap.size := Below.size (show Below w.heap.size w w12 from (by repeat (first | exact Below.refl _ _ | refine bel_alloc ?_ _ | refine bel_set ?_ (by first | exact Nat.le_refl _ | (simp; done) | (simp; omega)) _ | refine Below.drew ?_ | refine bel_trans ?_ (by assumption))))
      have yH : C3 (w12.alloc (.cells #[.int .i64 1, .int .i64 s, .int .i64 0] 24)) (B5) 1 y 0 := C3.alloc (C3.mk' y0 y1 y2) _
      have gH : C3 (w12.alloc (.cells #[.int .i64 1, .int .i64 s, .int .i64 0] 24)) (B9) 1 y 0 := C3.alloc (C3.mk' g0 g1 g2) _
      go_cut [19] (fun sv w' => ∃ B, sv = .pointer (some ⟨B, 0, none⟩) ∧ w.heap.size ≤ B ∧ (w'.cell? ⟨B, 0, none⟩ = some (.int .i64 1) ∧ w'.cell? ⟨B, 1, none⟩ = some (.int .i64 p) ∧ w'.cell? ⟨B, 2, none⟩ = some (.int .i64 0) ∧ B < w'.heap.size) ∧ (w'.cell? ⟨w12.heap.size, 0, none⟩ = some (.int .i64 1) ∧ w'.cell? ⟨w12.heap.size, 1, none⟩ = some (.int .i64 s) ∧ w'.cell? ⟨w12.heap.size, 2, none⟩ = some (.int .i64 0) ∧ w12.heap.size < w'.heap.size) ∧ (w'.cell? ⟨B5, 0, none⟩ = some (.int .i64 1) ∧ w'.cell? ⟨B5, 1, none⟩ = some (.int .i64 y) ∧ w'.cell? ⟨B5, 2, none⟩ = some (.int .i64 0) ∧ B5 < w'.heap.size) ∧ (w'.cell? ⟨B9, 0, none⟩ = some (.int .i64 1) ∧ w'.cell? ⟨B9, 1, none⟩ = some (.int .i64 y) ∧ w'.cell? ⟨B9, 2, none⟩ = some (.int .i64 0) ∧ B9 < w'.heap.size) ∧ Below w.heap.size w w')
      case first =>
        go_region_held3 (fun w' => (w'.cell? ⟨w12.heap.size, 0, none⟩ = some (.int .i64 1) ∧ w'.cell? ⟨w12.heap.size, 1, none⟩ = some (.int .i64 s) ∧ w'.cell? ⟨w12.heap.size, 2, none⟩ = some (.int .i64 0) ∧ w12.heap.size < w'.heap.size))
          (first | with_reducible exact callS1 hv1 (by assumption) | with_reducible exact allocS1 (by assumption) | with_reducible exact setS1 (by assumption) (by go_light; omega) | with_reducible exact reallocS1 (by assumption) (by go_light; omega) | (go_simp; done))
          (first | (go_at_call 11; refine (of_to _ _).mono ?_; rintro e v1 ⟨rfl, hv1⟩; obtain ⟨hc1, hf1⟩ := bcell hv1; have hz1 := bsize hv1; try simp only [World.size_alloc, World.size_drew, World.cell?_drew, World.frozen?_drew, Nat.add_one_le_iff] at hz1 hc1 hf1) | (go_at_call 10; refine (bin_to 13 1 a 0 1 s 0 1 p 0 true _ H6.out).mono ?_; rintro e v1 ⟨rfl, hv1⟩; obtain ⟨hc1, hf1⟩ := bcell hv1; have hz1 := bsize hv1; try simp only [World.size_alloc, World.size_drew, World.cell?_drew, World.frozen?_drew, Nat.add_one_le_iff] at hz1 hc1 hf1))
        all_goals
          go_wp2_with fail
          go_meet
          case rel =>
            rename_i hH
            exact ⟨_, rfl, by go_light; first | exact hRz | omega, C3.mk' (by go_simp) (by go_simp) (by go_simp), hH, C3.call yH (by repeat (first | exact Below.refl _ _ | assumption | refine bel_alloc ?_ _ | refine Below.drew ?_ | refine bel_set ?_ (by go_light; first | (simp; done) | (simp; omega) | omega) _ | refine bel_trans ?_ (by assumption))), C3.call gH (by repeat (first | exact Below.refl _ _ | assumption | refine bel_alloc ?_ _ | refine Below.drew ?_ | refine bel_set ?_ (by go_light; first | (simp; done) | (simp; omega) | omega) _ | refine bel_trans ?_ (by assumption))), (by repeat (first | exact Below.refl _ _ | assumption | refine bel_alloc ?_ _ | refine Below.drew ?_ | refine bel_set ?_ (by go_light; first | (simp; done) | (simp; omega) | omega) _ | refine bel_trans ?_ (by assumption)))⟩
      case rest =>
        clear yH gH
        obtain ⟨B13, rfl, pG, ⟨p0, p1, p2, pL⟩, ⟨s0, s1, s2, sL⟩, ⟨y0, y1, y2, yL⟩, ⟨g0, g1, g2, gL⟩, hw13⟩ := hcut
        go_wp2_with fail
        refine (of_to _ _).mono ?_
        rintro e w14 ⟨rfl, hb14⟩
        replace y0 : w14.cell? ⟨B5, 0, none⟩ = some (.int .i64 1) := keep_cell hb14 (by go_simp)
        replace y1 : w14.cell? ⟨B5, 1, none⟩ = some (.int .i64 y) := keep_cell hb14 (by go_simp)
        replace y2 : w14.cell? ⟨B5, 2, none⟩ = some (.int .i64 0) := keep_cell hb14 (by go_simp)
        replace yL : B5 < w14.heap.size := block_lt_of_cell y0
        replace g0 : w14.cell? ⟨B9, 0, none⟩ = some (.int .i64 1) := keep_cell hb14 (by go_simp)
        replace g1 : w14.cell? ⟨B9, 1, none⟩ = some (.int .i64 y) := keep_cell hb14 (by go_simp)
        replace g2 : w14.cell? ⟨B9, 2, none⟩ = some (.int .i64 0) := keep_cell hb14 (by go_simp)
        replace gL : B9 < w14.heap.size := block_lt_of_cell g0
        replace p0 : w14.cell? ⟨B13, 0, none⟩ = some (.int .i64 1) := keep_cell hb14 (by go_simp)
        replace p1 : w14.cell? ⟨B13, 1, none⟩ = some (.int .i64 p) := keep_cell hb14 (by go_simp)
        replace p2 : w14.cell? ⟨B13, 2, none⟩ = some (.int .i64 0) := keep_cell hb14 (by go_simp)
        replace pL : B13 < w14.heap.size := block_lt_of_cell p0
        go_wp2_with fail
        refine (of_to _ _).mono ?_
        rintro e w15 ⟨rfl, hb15⟩
        replace y0 : w15.cell? ⟨B5, 0, none⟩ = some (.int .i64 1) := keep_cell hb15 (by go_simp)
        replace y1 : w15.cell? ⟨B5, 1, none⟩ = some (.int .i64 y) := keep_cell hb15 (by go_simp)
        replace y2 : w15.cell? ⟨B5, 2, none⟩ = some (.int .i64 0) := keep_cell hb15 (by go_simp)
        replace yL : B5 < w15.heap.size := block_lt_of_cell y0
        replace g0 : w15.cell? ⟨B9, 0, none⟩ = some (.int .i64 1) := keep_cell hb15 (by go_simp)
        replace g1 : w15.cell? ⟨B9, 1, none⟩ = some (.int .i64 y) := keep_cell hb15 (by go_simp)
        replace g2 : w15.cell? ⟨B9, 2, none⟩ = some (.int .i64 0) := keep_cell hb15 (by go_simp)
        replace gL : B9 < w15.heap.size := block_lt_of_cell g0
        replace p0 : w15.cell? ⟨B13, 0, none⟩ = some (.int .i64 1) := keep_cell hb15 (by go_simp)
        replace p1 : w15.cell? ⟨B13, 1, none⟩ = some (.int .i64 p) := keep_cell hb15 (by go_simp)
        replace p2 : w15.cell? ⟨B13, 2, none⟩ = some (.int .i64 0) := keep_cell hb15 (by go_simp)
        replace pL : B13 < w15.heap.size := block_lt_of_cell p0
        go_wp2_with fail
        refine (bin_to 13 1 a 0 1 b 0 1 q 0 true _ H7.out).mono ?_
        rintro e w16 ⟨rfl, hb16⟩
        replace y0 : w16.cell? ⟨B5, 0, none⟩ = some (.int .i64 1) := keep_cell hb16 (by go_simp)
        replace y1 : w16.cell? ⟨B5, 1, none⟩ = some (.int .i64 y) := keep_cell hb16 (by go_simp)
        replace y2 : w16.cell? ⟨B5, 2, none⟩ = some (.int .i64 0) := keep_cell hb16 (by go_simp)
        replace yL : B5 < w16.heap.size := block_lt_of_cell y0
        replace g0 : w16.cell? ⟨B9, 0, none⟩ = some (.int .i64 1) := keep_cell hb16 (by go_simp)
        replace g1 : w16.cell? ⟨B9, 1, none⟩ = some (.int .i64 y) := keep_cell hb16 (by go_simp)
        replace g2 : w16.cell? ⟨B9, 2, none⟩ = some (.int .i64 0) := keep_cell hb16 (by go_simp)
        replace gL : B9 < w16.heap.size := block_lt_of_cell g0
        replace p0 : w16.cell? ⟨B13, 0, none⟩ = some (.int .i64 1) := keep_cell hb16 (by go_simp)
        replace p1 : w16.cell? ⟨B13, 1, none⟩ = some (.int .i64 p) := keep_cell hb16 (by go_simp)
        replace p2 : w16.cell? ⟨B13, 2, none⟩ = some (.int .i64 0) := keep_cell hb16 (by go_simp)
        replace pL : B13 < w16.heap.size := block_lt_of_cell p0
        go_wp2_with fail
        refine (of_to _ _).mono ?_
        rintro e w17 ⟨rfl, hb17⟩
        replace y0 : w17.cell? ⟨B5, 0, none⟩ = some (.int .i64 1) := keep_cell hb17 (by go_simp)
        replace y1 : w17.cell? ⟨B5, 1, none⟩ = some (.int .i64 y) := keep_cell hb17 (by go_simp)
        replace y2 : w17.cell? ⟨B5, 2, none⟩ = some (.int .i64 0) := keep_cell hb17 (by go_simp)
        replace yL : B5 < w17.heap.size := block_lt_of_cell y0
        replace g0 : w17.cell? ⟨B9, 0, none⟩ = some (.int .i64 1) := keep_cell hb17 (by go_simp)
        replace g1 : w17.cell? ⟨B9, 1, none⟩ = some (.int .i64 y) := keep_cell hb17 (by go_simp)
        replace g2 : w17.cell? ⟨B9, 2, none⟩ = some (.int .i64 0) := keep_cell hb17 (by go_simp)
        replace gL : B9 < w17.heap.size := block_lt_of_cell g0
        replace p0 : w17.cell? ⟨B13, 0, none⟩ = some (.int .i64 1) := keep_cell hb17 (by go_simp)
        replace p1 : w17.cell? ⟨B13, 1, none⟩ = some (.int .i64 p) := keep_cell hb17 (by go_simp)
        replace p2 : w17.cell? ⟨B13, 2, none⟩ = some (.int .i64 0) := keep_cell hb17 (by go_simp)
        replace pL : B13 < w17.heap.size := block_lt_of_cell p0
        have q0 : w17.cell? ⟨w16.heap.size, 0, none⟩ = some (.int .i64 1) := keep_cell hb17 (by go_simp)
        have q1 : w17.cell? ⟨w16.heap.size, 1, none⟩ = some (.int .i64 q) := keep_cell hb17 (by go_simp)
        have q2 : w17.cell? ⟨w16.heap.size, 2, none⟩ = some (.int .i64 0) := keep_cell hb17 (by go_simp)
        have qL : w16.heap.size < w17.heap.size := block_lt_of_cell q0
        go_wp2_with fail
        refine (of_to _ _).mono ?_
        rintro e w18 ⟨rfl, hb18⟩
        replace y0 : w18.cell? ⟨B5, 0, none⟩ = some (.int .i64 1) := keep_cell hb18 (by go_simp)
        replace y1 : w18.cell? ⟨B5, 1, none⟩ = some (.int .i64 y) := keep_cell hb18 (by go_simp)
        replace y2 : w18.cell? ⟨B5, 2, none⟩ = some (.int .i64 0) := keep_cell hb18 (by go_simp)
        replace yL : B5 < w18.heap.size := block_lt_of_cell y0
        replace g0 : w18.cell? ⟨B9, 0, none⟩ = some (.int .i64 1) := keep_cell hb18 (by go_simp)
        replace g1 : w18.cell? ⟨B9, 1, none⟩ = some (.int .i64 y) := keep_cell hb18 (by go_simp)
        replace g2 : w18.cell? ⟨B9, 2, none⟩ = some (.int .i64 0) := keep_cell hb18 (by go_simp)
        replace gL : B9 < w18.heap.size := block_lt_of_cell g0
        replace p0 : w18.cell? ⟨B13, 0, none⟩ = some (.int .i64 1) := keep_cell hb18 (by go_simp)
        replace p1 : w18.cell? ⟨B13, 1, none⟩ = some (.int .i64 p) := keep_cell hb18 (by go_simp)
        replace p2 : w18.cell? ⟨B13, 2, none⟩ = some (.int .i64 0) := keep_cell hb18 (by go_simp)
        replace pL : B13 < w18.heap.size := block_lt_of_cell p0
        replace q0 : w18.cell? ⟨w16.heap.size, 0, none⟩ = some (.int .i64 1) := keep_cell hb18 (by go_simp)
        replace q1 : w18.cell? ⟨w16.heap.size, 1, none⟩ = some (.int .i64 q) := keep_cell hb18 (by go_simp)
        replace q2 : w18.cell? ⟨w16.heap.size, 2, none⟩ = some (.int .i64 0) := keep_cell hb18 (by go_simp)
        replace qL : w16.heap.size < w18.heap.size := block_lt_of_cell q0
        go_wp2_with fail
        refine (bin_to 13 1 a 0 1 c 0 1 r 0 true _ H8.out).mono ?_
        rintro e w19 ⟨rfl, hb19⟩
        replace y0 : w19.cell? ⟨B5, 0, none⟩ = some (.int .i64 1) := keep_cell hb19 (by go_simp)
        replace y1 : w19.cell? ⟨B5, 1, none⟩ = some (.int .i64 y) := keep_cell hb19 (by go_simp)
        replace y2 : w19.cell? ⟨B5, 2, none⟩ = some (.int .i64 0) := keep_cell hb19 (by go_simp)
        replace yL : B5 < w19.heap.size := block_lt_of_cell y0
        replace g0 : w19.cell? ⟨B9, 0, none⟩ = some (.int .i64 1) := keep_cell hb19 (by go_simp)
        replace g1 : w19.cell? ⟨B9, 1, none⟩ = some (.int .i64 y) := keep_cell hb19 (by go_simp)
        replace g2 : w19.cell? ⟨B9, 2, none⟩ = some (.int .i64 0) := keep_cell hb19 (by go_simp)
        replace gL : B9 < w19.heap.size := block_lt_of_cell g0
        replace p0 : w19.cell? ⟨B13, 0, none⟩ = some (.int .i64 1) := keep_cell hb19 (by go_simp)
        replace p1 : w19.cell? ⟨B13, 1, none⟩ = some (.int .i64 p) := keep_cell hb19 (by go_simp)
        replace p2 : w19.cell? ⟨B13, 2, none⟩ = some (.int .i64 0) := keep_cell hb19 (by go_simp)
        replace pL : B13 < w19.heap.size := block_lt_of_cell p0
        replace q0 : w19.cell? ⟨w16.heap.size, 0, none⟩ = some (.int .i64 1) := keep_cell hb19 (by go_simp)
        replace q1 : w19.cell? ⟨w16.heap.size, 1, none⟩ = some (.int .i64 q) := keep_cell hb19 (by go_simp)
        replace q2 : w19.cell? ⟨w16.heap.size, 2, none⟩ = some (.int .i64 0) := keep_cell hb19 (by go_simp)
        replace qL : w16.heap.size < w19.heap.size := block_lt_of_cell q0
        go_wp2_with fail
        refine (bin_to 11 1 q 0 1 r 0 1 p 0 true _ H9.out).mono ?_
        rintro e w20 ⟨rfl, hb20⟩
        replace y0 : w20.cell? ⟨B5, 0, none⟩ = some (.int .i64 1) := keep_cell hb20 (by go_simp)
        replace y1 : w20.cell? ⟨B5, 1, none⟩ = some (.int .i64 y) := keep_cell hb20 (by go_simp)
        replace y2 : w20.cell? ⟨B5, 2, none⟩ = some (.int .i64 0) := keep_cell hb20 (by go_simp)
        replace yL : B5 < w20.heap.size := block_lt_of_cell y0
        replace g0 : w20.cell? ⟨B9, 0, none⟩ = some (.int .i64 1) := keep_cell hb20 (by go_simp)
        replace g1 : w20.cell? ⟨B9, 1, none⟩ = some (.int .i64 y) := keep_cell hb20 (by go_simp)
        replace g2 : w20.cell? ⟨B9, 2, none⟩ = some (.int .i64 0) := keep_cell hb20 (by go_simp)
        replace gL : B9 < w20.heap.size := block_lt_of_cell g0
        replace p0 : w20.cell? ⟨B13, 0, none⟩ = some (.int .i64 1) := keep_cell hb20 (by go_simp)
        replace p1 : w20.cell? ⟨B13, 1, none⟩ = some (.int .i64 p) := keep_cell hb20 (by go_simp)
        replace p2 : w20.cell? ⟨B13, 2, none⟩ = some (.int .i64 0) := keep_cell hb20 (by go_simp)
        replace pL : B13 < w20.heap.size := block_lt_of_cell p0
        replace q0 : w20.cell? ⟨w16.heap.size, 0, none⟩ = some (.int .i64 1) := keep_cell hb20 (by go_simp)
        replace q1 : w20.cell? ⟨w16.heap.size, 1, none⟩ = some (.int .i64 q) := keep_cell hb20 (by go_simp)
        replace q2 : w20.cell? ⟨w16.heap.size, 2, none⟩ = some (.int .i64 0) := keep_cell hb20 (by go_simp)
        replace qL : w16.heap.size < w20.heap.size := block_lt_of_cell q0
        have r0 : w20.cell? ⟨w19.heap.size, 0, none⟩ = some (.int .i64 1) := keep_cell hb20 (by go_simp)
        have r1 : w20.cell? ⟨w19.heap.size, 1, none⟩ = some (.int .i64 r) := keep_cell hb20 (by go_simp)
        have r2 : w20.cell? ⟨w19.heap.size, 2, none⟩ = some (.int .i64 0) := keep_cell hb20 (by go_simp)
        have rL : w19.heap.size < w20.heap.size := block_lt_of_cell r0
        go_wp2
        go_ret
        exact ⟨rfl, (by repeat (first | exact Below.refl _ _ | refine bel_alloc ?_ _ | refine bel_set ?_ (by first | exact Nat.le_refl _ | (simp; done) | (simp; omega)) _ | refine Below.drew ?_ | refine bel_trans ?_ (by assumption)))⟩

set_option maxRecDepth 100000 in
set_option maxHeartbeats 8000000 in
theorem chains_13 (a b c x y z s p q r : Int) (w : World) (ht : Tab w) (H1 : Hid (binF 13 ⟨1, a, 0⟩ ⟨1, b, 0⟩ = (⟨1, x, 0⟩, true))) (H2 : Hid (binF 13 ⟨1, x, 0⟩ ⟨1, c, 0⟩ = (⟨1, y, 0⟩, true))) (H3 : Hid (binF 13 ⟨1, b, 0⟩ ⟨1, c, 0⟩ = (⟨1, z, 0⟩, true))) (H4 : Hid (binF 13 ⟨1, a, 0⟩ ⟨1, z, 0⟩ = (⟨1, y, 0⟩, true)))
    (H5 : Hid (binF 11 ⟨1, b, 0⟩ ⟨1, c, 0⟩ = (⟨1, s, 0⟩, true))) (H6 : Hid (binF 13 ⟨1, a, 0⟩ ⟨1, s, 0⟩ = (⟨1, p, 0⟩, true))) (H7 : Hid (binF 13 ⟨1, a, 0⟩ ⟨1, b, 0⟩ = (⟨1, q, 0⟩, true))) (H8 : Hid (binF 13 ⟨1, a, 0⟩ ⟨1, c, 0⟩ = (⟨1, r, 0⟩, true))) (H9 : Hid (binF 11 ⟨1, q, 0⟩ ⟨1, r, 0⟩ = (⟨1, p, 0⟩, true))) :
    Calls Tryd.prog 7 #[.int .i64 a, .int .i64 b, .int .i64 c, .int .i64 13] w (retP (.bool true) w) := by
  go_enter Tryd.func7, Tryd.ntmps7
  go_wp2_with fail
  refine (awake_any _ ht).mono ?_
  rintro e w1 ⟨rfl, hb1⟩
  go_wp2_with fail
  refine (of_to _ _).mono ?_
  rintro e w2 ⟨rfl, hb2⟩
  go_wp2_with fail
  refine (of_to _ _).mono ?_
  rintro e w3 ⟨rfl, hb3⟩
  go_wp2_with fail
  refine (bin_to 13 1 a 0 1 b 0 1 x 0 true _ H1.out).mono ?_
  rintro e w4 ⟨rfl, hb4⟩
  go_wp2_with fail
  have hRz : w.heap.size ≤ w4.heap.size := Below.size (show Below w.heap.size w w4 from (by repeat (first | exact Below.refl _ _ | refine bel_alloc ?_ _ | refine bel_set ?_ (by first | exact Nat.le_refl _ | (simp; done) | (simp; omega)) _ | refine Below.drew ?_ | refine bel_trans ?_ (by assumption))))
  go_cut [11] (fun sv w' => ∃ B, sv = .pointer (some ⟨B, 0, none⟩) ∧ w.heap.size ≤ B ∧ (w'.cell? ⟨B, 0, none⟩ = some (.int .i64 1) ∧ w'.cell? ⟨B, 1, none⟩ = some (.int .i64 y) ∧ w'.cell? ⟨B, 2, none⟩ = some (.int .i64 0) ∧ B < w'.heap.size) ∧ (w'.cell? ⟨w4.heap.size, 0, none⟩ = some (.int .i64 1) ∧ w'.cell? ⟨w4.heap.size, 1, none⟩ = some (.int .i64 x) ∧ w'.cell? ⟨w4.heap.size, 2, none⟩ = some (.int .i64 0) ∧ w4.heap.size < w'.heap.size) ∧ Below w.heap.size w w')
  case first =>
    go_region_held3 (fun w' => (w'.cell? ⟨w4.heap.size, 0, none⟩ = some (.int .i64 1) ∧ w'.cell? ⟨w4.heap.size, 1, none⟩ = some (.int .i64 x) ∧ w'.cell? ⟨w4.heap.size, 2, none⟩ = some (.int .i64 0) ∧ w4.heap.size < w'.heap.size))
      (first | with_reducible exact callS1 hv1 (by assumption) | with_reducible exact allocS1 (by assumption) | with_reducible exact setS1 (by assumption) (by go_light; omega) | with_reducible exact reallocS1 (by assumption) (by go_light; omega) | (go_simp; done))
      (first | (go_at_call 11; refine (of_to _ _).mono ?_; rintro e v1 ⟨rfl, hv1⟩; obtain ⟨hc1, hf1⟩ := bcell hv1; have hz1 := bsize hv1; try simp only [World.size_alloc, World.size_drew, World.cell?_drew, World.frozen?_drew, Nat.add_one_le_iff] at hz1 hc1 hf1) | (go_at_call 10; refine (bin_to 13 1 x 0 1 c 0 1 y 0 true _ H2.out).mono ?_; rintro e v1 ⟨rfl, hv1⟩; obtain ⟨hc1, hf1⟩ := bcell hv1; have hz1 := bsize hv1; try simp only [World.size_alloc, World.size_drew, World.cell?_drew, World.frozen?_drew, Nat.add_one_le_iff] at hz1 hc1 hf1))
    all_goals
      go_wp2_with fail
      go_meet
      case rel =>
        rename_i hH
        exact ⟨_, rfl, by go_light; first | exact hRz | omega, C3.mk' (by go_simp) (by go_simp) (by go_simp), hH, (by repeat (first | exact Below.refl _ _ | assumption | refine bel_alloc ?_ _ | refine Below.drew ?_ | refine bel_set ?_ (by go_light; first | (simp; done) | (simp; omega) | omega) _ | refine bel_trans ?_ (by assumption)))⟩
  case rest =>
    obtain ⟨B5, rfl, yG, ⟨y0, y1, y2, yL⟩, ⟨x0, x1, x2, xL⟩, hw5⟩ := hcut
    go_wp2_with fail
    refine (of_to _ _).mono ?_
    rintro e w6 ⟨rfl, hb6⟩
    replace y0 : w6.cell? ⟨B5, 0, none⟩ = some (.int .i64 1) := keep_cell hb6 (by go_simp)
    replace y1 : w6.cell? ⟨B5, 1, none⟩ = some (.int .i64 y) := keep_cell hb6 (by go_simp)
    replace y2 : w6.cell? ⟨B5, 2, none⟩ = some (.int .i64 0) := keep_cell hb6 (by go_simp)
    replace yL : B5 < w6.heap.size := block_lt_of_cell y0
    go_wp2_with fail
    refine (of_to _ _).mono ?_
    rintro e w7 ⟨rfl, hb7⟩
    replace y0 : w7.cell? ⟨B5, 0, none⟩ = some (.int .i64 1) := keep_cell hb7 (by go_simp)
    replace y1 : w7.cell? ⟨B5, 1, none⟩ = some (.int .i64 y) := keep_cell hb7 (by go_simp)
    replace y2 : w7.cell? ⟨B5, 2, none⟩ = some (.int .i64 0) := keep_cell hb7 (by go_simp)
    replace yL : B5 < w7.heap.size := block_lt_of_cell y0
    go_wp2_with fail
    refine (bin_to 13 1 b 0 1 c 0 1 z 0 true _ H3.out).mono ?_
    rintro e w8 ⟨rfl, hb8⟩
    replace y0 : w8.cell? ⟨B5, 0, none⟩ = some (.int .i64 1) := keep_cell hb8 (by go_simp)
    replace y1 : w8.cell? ⟨B5, 1, none⟩ = some (.int .i64 y) := keep_cell hb8 (by go_simp)
    replace y2 : w8.cell? ⟨B5, 2, none⟩ = some (.int .i64 0) := keep_cell hb8 (by go_simp)
    replace yL : B5 < w8.heap.size := block_lt_of_cell y0
    go_wp2_with fail
    have hRz : w.heap.size ≤ w8.heap.size := Below.size (show Below w.heap.size w w8 from (by repeat (first | exact Below.refl _ _ | refine bel_alloc ?_ _ | refine bel_set ?_ (by first | exact Nat.le_refl _ | (simp; done) | (simp; omega)) _ | refine Below.drew ?_ | refine bel_trans ?_ (by assumption))))
    have yH : C3 (w8.alloc (.cells #[.int .i64 1, .int .i64 z, .int .i64 0] 24)) (B5) 1 y 0 := C3.alloc (C3.mk' y0 y1 y2) _
    go_cut [15] (fun sv w' => ∃ B, sv = .pointer (some ⟨B, 0, none⟩) ∧ w.heap.size ≤ B ∧ (w'.cell? ⟨B, 0, none⟩ = some (.int .i64 1) ∧ w'.cell? ⟨B, 1, none⟩ = some (.int .i64 y) ∧ w'.cell? ⟨B, 2, none⟩ = some (.int .i64 0) ∧ B < w'.heap.size) ∧ (w'.cell? ⟨w8.heap.size, 0, none⟩ = some (.int .i64 1) ∧ w'.cell? ⟨w8.heap.size, 1, none⟩ = some (.int .i64 z) ∧ w'.cell? ⟨w8.heap.size, 2, none⟩ = some (.int .i64 0) ∧ w8.heap.size < w'.heap.size) ∧ (w'.cell? ⟨B5, 0, none⟩ = some (.int .i64 1) ∧ w'.cell? ⟨B5, 1, none⟩ = some (.int .i64 y) ∧ w'.cell? ⟨B5, 2, none⟩ = some (.int .i64 0) ∧ B5 < w'.heap.size) ∧ Below w.heap.size w w')
    case first =>
      go_region_held3 (fun w' => (w'.cell? ⟨w8.heap.size, 0, none⟩ = some (.int .i64 1) ∧ w'.cell? ⟨w8.heap.size, 1, none⟩ = some (.int .i64 z) ∧ w'.cell? ⟨w8.heap.size, 2, none⟩ = some (.int .i64 0) ∧ w8.heap.size < w'.heap.size))
        (first | with_reducible exact callS1 hv1 (by assumption) | with_reducible exact allocS1 (by assumption) | with_reducible exact setS1 (by assumption) (by go_light; omega) | with_reducible exact reallocS1 (by assumption) (by go_light; omega) | (go_simp; done))
        (first | (go_at_call 11; refine (of_to _ _).mono ?_; rintro e v1 ⟨rfl, hv1⟩; obtain ⟨hc1, hf1⟩ := bcell hv1; have hz1 := bsize hv1; try simp only [World.size_alloc, World.size_drew, World.cell?_drew, World.frozen?_drew, Nat.add_one_le_iff] at hz1 hc1 hf1) | (go_at_call 10; refine (bin_to 13 1 a 0 1 z 0 1 y 0 true _ H4.out).mono ?_; rintro e v1 ⟨rfl, hv1⟩; obtain ⟨hc1, hf1⟩ := bcell hv1; have hz1 := bsize hv1; try simp only [World.size_alloc, World.size_drew, World.cell?_drew, World.frozen?_drew, Nat.add_one_le_iff] at hz1 hc1 hf1))
      all_goals
        go_wp2_with fail
        go_meet
        case rel =>
          rename_i hH
          exact ⟨_, rfl, by go_light; first | exact hRz | omega, C3.mk' (by go_simp) (by go_simp) (by go_simp), hH, C3.call yH (by repeat (first | exact Below.refl _ _ | assumption | refine bel_alloc ?_ _ | refine Below.drew ?_ | refine bel_set ?_ (by go_light; first | (simp; done) | (simp; omega) | omega) _ | refine bel_trans ?_ (by assumption))), (by repeat (first | exact Below.refl _ _ | assumption | refine bel_alloc ?_ _ | refine Below.drew ?_ | refine bel_set ?_ (by go_light; first | (simp; done) | (simp; omega) | omega) _ | refine bel_trans ?_ (by assumption)))⟩
    case rest =>
      clear yH
      obtain ⟨B9, rfl, gG, ⟨g0, g1, g2, gL⟩, ⟨z0, z1, z2, zL⟩, ⟨y0, y1, y2, yL⟩, hw9⟩ := hcut
      go_wp2_with fail
      refine (of_to _ _).mono ?_
      rintro e w10 ⟨rfl, hb10⟩
      replace y0 : w10.cell? ⟨B5, 0, none⟩ = some (.int .i64 1) := keep_cell hb10 (by go_simp)
      replace y1 : w10.cell? ⟨B5, 1, none⟩ = some (.int .i64 y) := keep_cell hb10 (by go_simp)
      replace y2 : w10.cell? ⟨B5, 2, none⟩ = some (.int .i64 0) := keep_cell hb10 (by go_simp)
      replace yL : B5 < w10.heap.size := block_lt_of_cell y0
      replace g0 : w10.cell? ⟨B9, 0, none⟩ = some (.int .i64 1) := keep_cell hb10 (by go_simp)
      replace g1 : w10.cell? ⟨B9, 1, none⟩ = some (.int .i64 y) := keep_cell hb10 (by go_simp)
      replace g2 : w10.cell? ⟨B9, 2, none⟩ = some (.int .i64 0) := keep_cell hb10 (by go_simp)
      replace gL : B9 < w10.heap.size := block_lt_of_cell g0
      go_wp2_with fail
      refine (of_to _ _).mono ?_
      rintro e w11 ⟨rfl, hb11⟩
      replace y0 : w11.cell? ⟨B5, 0, none⟩ = some (.int .i64 1) := keep_cell hb11 (by go_simp)
      replace y1 : w11.cell? ⟨B5, 1, none⟩ = some (.int .i64 y) := keep_cell hb11 (by go_simp)
      replace y2 : w11.cell? ⟨B5, 2, none⟩ = some (.int .i64 0) := keep_cell hb11 (by go_simp)
      replace yL : B5 < w11.heap.size := block_lt_of_cell y0
      replace g0 : w11.cell? ⟨B9, 0, none⟩ = some (.int .i64 1) := keep_cell hb11 (by go_simp)
      replace g1 : w11.cell? ⟨B9, 1, none⟩ = some (.int .i64 y) := keep_cell hb11 (by go_simp)
      replace g2 : w11.cell? ⟨B9, 2, none⟩ = some (.int .i64 0) := keep_cell hb11 (by go_simp)
      replace gL : B9 < w11.heap.size := block_lt_of_cell g0
      go_wp2_with fail
      refine (bin_to 11 1 b 0 1 c 0 1 s 0 true _ H5.out).mono ?_
      rintro e w12 ⟨rfl, hb12⟩
      replace y0 : w12.cell? ⟨B5, 0, none⟩ = some (.int .i64 1) := keep_cell hb12 (by go_simp)
      replace y1 : w12.cell? ⟨B5, 1, none⟩ = some (.int .i64 y) := keep_cell hb12 (by go_simp)
      replace y2 : w12.cell? ⟨B5, 2, none⟩ = some (.int .i64 0) := keep_cell hb12 (by go_simp)
      replace yL : B5 < w12.heap.size := block_lt_of_cell y0
      replace g0 : w12.cell? ⟨B9, 0, none⟩ = some (.int .i64 1) := keep_cell hb12 (by go_simp)
      replace g1 : w12.cell? ⟨B9, 1, none⟩ = some (.int .i64 y) := keep_cell hb12 (by go_simp)
      replace g2 : w12.cell? ⟨B9, 2, none⟩ = some (.int .i64 0) := keep_cell hb12 (by go_simp)
      replace gL : B9 < w12.heap.size := block_lt_of_cell g0
      go_wp2_with fail
      have hRz : w.heap.size ≤ w12.heap.size := Below.size (show Below w.heap.size w w12 from (by repeat (first | exact Below.refl _ _ | refine bel_alloc ?_ _ | refine bel_set ?_ (by first | exact Nat.le_refl _ | (simp; done) | (simp; omega)) _ | refine Below.drew ?_ | refine bel_trans ?_ (by assumption))))
      have yH : C3 (w12.alloc (.cells #[.int .i64 1, .int .i64 s, .int .i64 0] 24)) (B5) 1 y 0 := C3.alloc (C3.mk' y0 y1 y2) _
      have gH : C3 (w12.alloc (.cells #[.int .i64 1, .int .i64 s, .int .i64 0] 24)) (B9) 1 y 0 := C3.alloc (C3.mk' g0 g1 g2) _
      go_cut [19] (fun sv w' => ∃ B, sv = .pointer (some ⟨B, 0, none⟩) ∧ w.heap.size ≤ B ∧ (w'.cell? ⟨B, 0, none⟩ = some (.int .i64 1) ∧ w'.cell? ⟨B, 1, none⟩ = some (.int .i64 p) ∧ w'.cell? ⟨B, 2, none⟩ = some (.int .i64 0) ∧ B < w'.heap.size) ∧ (w'.cell? ⟨w12.heap.size, 0, none⟩ = some (.int .i64 1) ∧ w'.cell? ⟨w12.heap.size, 1, none⟩ = some (.int .i64 s) ∧ w'.cell? ⟨w12.heap.size, 2, none⟩ = some (.int .i64 0) ∧ w12.heap.size < w'.heap.size) ∧ (w'.cell? ⟨B5, 0, none⟩ = some (.int .i64 1) ∧ w'.cell? ⟨B5, 1, none⟩ = some (.int .i64 y) ∧ w'.cell? ⟨B5, 2, none⟩ = some (.int .i64 0) ∧ B5 < w'.heap.size) ∧ (w'.cell? ⟨B9, 0, none⟩ = some (.int .i64 1) ∧ w'.cell? ⟨B9, 1, none⟩ = some (.int .i64 y) ∧ w'.cell? ⟨B9, 2, none⟩ = some (.int .i64 0) ∧ B9 < w'.heap.size) ∧ Below w.heap.size w w')
      case first =>
        go_region_held3 (fun w' => (w'.cell? ⟨w12.heap.size, 0, none⟩ = some (.int .i64 1) ∧ w'.cell? ⟨w12.heap.size, 1, none⟩ = some (.int .i64 s) ∧ w'.cell? ⟨w12.heap.size, 2, none⟩ = some (.int .i64 0) ∧ w12.heap.size < w'.heap.size))
          (first | with_reducible exact callS1 hv1 (by assumption) | with_reducible exact allocS1 (by assumption) | with_reducible exact setS1 (by assumption) (by go_light; omega) | with_reducible exact reallocS1 (by assumption) (by go_light; omega) | (go_simp; done))
          (first | (go_at_call 11; refine (of_to _ _).mono ?_; rintro e v1 ⟨rfl, hv1⟩; obtain ⟨hc1, hf1⟩ := bcell hv1; have hz1 := bsize hv1; try simp only [World.size_alloc, World.size_drew, World.cell?_drew, World.frozen?_drew, Nat.add_one_le_iff] at hz1 hc1 hf1) | (go_at_call 10; refine (bin_to 13 1 a 0 1 s 0 1 p 0 true _ H6.out).mono ?_; rintro e v1 ⟨rfl, hv1⟩; obtain ⟨hc1, hf1⟩ := bcell hv1; have hz1 := bsize hv1; try simp only [World.size_alloc, World.size_drew, World.cell?_drew, World.frozen?_drew, Nat.add_one_le_iff] at hz1 hc1 hf1))
        all_goals
          go_wp2_with fail
          go_meet
          case rel =>
            rename_i hH
            exact ⟨_, rfl, by go_light; first | exact hRz | omega, C3.mk' (by go_simp) (by go_simp) (by go_simp), hH, C3.call yH (by repeat (first | exact Below.refl _ _ | assumption | refine bel_alloc ?_ _ | refine Below.drew ?_ | refine bel_set ?_ (by go_light; first | (simp; done) | (simp; omega) | omega) _ | refine bel_trans ?_ (by assumption))), C3.call gH (by repeat (first | exact Below.refl _ _ | assumption | refine bel_alloc ?_ _ | refine Below.drew ?_ | refine bel_set ?_ (by go_light; first | (simp; done) | (simp; omega) | omega) _ | refine bel_trans ?_ (by assumption))), (by repeat (first | exact Below.refl _ _ | assumption | refine bel_alloc ?_ _ | refine Below.drew ?_ | refine bel_set ?_ (by go_light; first | (simp; done) | (simp; omega) | omega) _ | refine bel_trans ?_ (by assumption)))⟩
      case rest =>
        clear yH gH
        obtain ⟨B13, rfl, pG, ⟨p0, p1, p2, pL⟩, ⟨s0, s1, s2, sL⟩, ⟨y0, y1, y2, yL⟩, ⟨g0, g1, g2, gL⟩, hw13⟩ := hcut
        go_wp2_with fail
        refine (of_to _ _).mono ?_
        rintro e w14 ⟨rfl, hb14⟩
        replace y0 : w14.cell? ⟨B5, 0, none⟩ = some (.int .i64 1) := keep_cell hb14 (by go_simp)
        replace y1 : w14.cell? ⟨B5, 1, none⟩ = some (.int .i64 y) := keep_cell hb14 (by go_simp)
        replace y2 : w14.cell? ⟨B5, 2, none⟩ = some (.int .i64 0) := keep_cell hb14 (by go_simp)
        replace yL : B5 < w14.heap.size := block_lt_of_cell y0
        replace g0 : w14.cell? ⟨B9, 0, none⟩ = some (.int .i64 1) := keep_cell hb14 (by go_simp)
        replace g1 : w14.cell? ⟨B9, 1, none⟩ = some (.int .i64 y) := keep_cell hb14 (by go_simp)
        replace g2 : w14.cell? ⟨B9, 2, none⟩ = some (.int .i64 0) := keep_cell hb14 (by go_simp)
        replace gL : B9 < w14.heap.size := block_lt_of_cell g0
        replace p0 : w14.cell? ⟨B13, 0, none⟩ = some (.int .i64 1) := keep_cell hb14 (by go_simp)
        replace p1 : w14.cell? ⟨B13, 1, none⟩ = some (.int .i64 p) := keep_cell hb14 (by go_simp)
        replace p2 : w14.cell? ⟨B13, 2, none⟩ = some (.int .i64 0) := keep_cell hb14 (by go_simp)
        replace pL : B13 < w14.heap.size := block_lt_of_cell p0
        go_wp2_with fail
        refine (of_to _ _).mono ?_
        rintro e w15 ⟨rfl, hb15⟩
        replace y0 : w15.cell? ⟨B5, 0, none⟩ = some (.int .i64 1) := keep_cell hb15 (by go_simp)
        replace y1 : w15.cell? ⟨B5, 1, none⟩ = some (.int .i64 y) := keep_cell hb15 (by go_simp)
        replace y2 : w15.cell? ⟨B5, 2, none⟩ = some (.int .i64 0) := keep_cell hb15 (by go_simp)
        replace yL : B5 < w15.heap.size := block_lt_of_cell y0
        replace g0 : w15.cell? ⟨B9, 0, none⟩ = some (.int .i64 1) := keep_cell hb15 (by go_simp)
        replace g1 : w15.cell? ⟨B9, 1, none⟩ = some (.int .i64 y) := keep_cell hb15 (by go_simp)
        replace g2 : w15.cell? ⟨B9, 2, none⟩ = some (.int .i64 0) := keep_cell hb15 (by go_simp)
        replace gL : B9 < w15.heap.size := block_lt_of_cell g0
        replace p0 : w15.cell? ⟨B13, 0, none⟩ = some (.int .i64 1) := keep_cell hb15 (by go_simp)
        replace p1 : w15.cell? ⟨B13, 1, none⟩ = some (.int .i64 p) := keep_cell hb15 (by go_simp)
        replace p2 : w15.cell? ⟨B13, 2, none⟩ = some (.int .i64 0) := keep_cell hb15 (by go_simp)
        replace pL : B13 < w15.heap.size := block_lt_of_cell p0
        go_wp2_with fail
        refine (bin_to 13 1 a 0 1 b 0 1 q 0 true _ H7.out).mono ?_
        rintro e w16 ⟨rfl, hb16⟩
        replace y0 : w16.cell? ⟨B5, 0, none⟩ = some (.int .i64 1) := keep_cell hb16 (by go_simp)
        replace y1 : w16.cell? ⟨B5, 1, none⟩ = some (.int .i64 y) := keep_cell hb16 (by go_simp)
        replace y2 : w16.cell? ⟨B5, 2, none⟩ = some (.int .i64 0) := keep_cell hb16 (by go_simp)
        replace yL : B5 < w16.heap.size := block_lt_of_cell y0
        replace g0 : w16.cell? ⟨B9, 0, none⟩ = some (.int .i64 1) := keep_cell hb16 (by go_simp)
        replace g1 : w16.cell? ⟨B9, 1, none⟩ = some (.int .i64 y) := keep_cell hb16 (by go_simp)
        replace g2 : w16.cell? ⟨B9, 2, none⟩ = some (.int .i64 0) := keep_cell hb16 (by go_simp)
        replace gL : B9 < w16.heap.size := block_lt_of_cell g0
        replace p0 : w16.cell? ⟨B13, 0, none⟩ = some (.int .i64 1) := keep_cell hb16 (by go_simp)
        replace p1 : w16.cell? ⟨B13, 1, none⟩ = some (.int .i64 p) := keep_cell hb16 (by go_simp)
        replace p2 : w16.cell? ⟨B13, 2, none⟩ = some (.int .i64 0) := keep_cell hb16 (by go_simp)
        replace pL : B13 < w16.heap.size := block_lt_of_cell p0
        go_wp2_with fail
        refine (of_to _ _).mono ?_
        rintro e w17 ⟨rfl, hb17⟩
        replace y0 : w17.cell? ⟨B5, 0, none⟩ = some (.int .i64 1) := keep_cell hb17 (by go_simp)
        replace y1 : w17.cell? ⟨B5, 1, none⟩ = some (.int .i64 y) := keep_cell hb17 (by go_simp)
        replace y2 : w17.cell? ⟨B5, 2, none⟩ = some (.int .i64 0) := keep_cell hb17 (by go_simp)
        replace yL : B5 < w17.heap.size := block_lt_of_cell y0
        replace g0 : w17.cell? ⟨B9, 0, none⟩ = some (.int .i64 1) := keep_cell hb17 (by go_simp)
        replace g1 : w17.cell? ⟨B9, 1, none⟩ = some (.int .i64 y) := keep_cell hb17 (by go_simp)
        replace g2 : w17.cell? ⟨B9, 2, none⟩ = some (.int .i64 0) := keep_cell hb17 (by go_simp)
        replace gL : B9 < w17.heap.size := block_lt_of_cell g0
        replace p0 : w17.cell? ⟨B13, 0, none⟩ = some (.int .i64 1) := keep_cell hb17 (by go_simp)
        replace p1 : w17.cell? ⟨B13, 1, none⟩ = some (.int .i64 p) := keep_cell hb17 (by go_simp)
        replace p2 : w17.cell? ⟨B13, 2, none⟩ = some (.int .i64 0) := keep_cell hb17 (by go_simp)
        replace pL : B13 < w17.heap.size := block_lt_of_cell p0
        have q0 : w17.cell? ⟨w16.heap.size, 0, none⟩ = some (.int .i64 1) := keep_cell hb17 (by go_simp)
        have q1 : w17.cell? ⟨w16.heap.size, 1, none⟩ = some (.int .i64 q) := keep_cell hb17 (by go_simp)
        have q2 : w17.cell? ⟨w16.heap.size, 2, none⟩ = some (.int .i64 0) := keep_cell hb17 (by go_simp)
        have qL : w16.heap.size < w17.heap.size := block_lt_of_cell q0
        go_wp2_with fail
        refine (of_to _ _).mono ?_
        rintro e w18 ⟨rfl, hb18⟩
        replace y0 : w18.cell? ⟨B5, 0, none⟩ = some (.int .i64 1) := keep_cell hb18 (by go_simp)
        replace y1 : w18.cell? ⟨B5, 1, none⟩ = some (.int .i64 y) := keep_cell hb18 (by go_simp)
        replace y2 : w18.cell? ⟨B5, 2, none⟩ = some (.int .i64 0) := keep_cell hb18 (by go_simp)
        replace yL : B5 < w18.heap.size := block_lt_of_cell y0
        replace g0 : w18.cell? ⟨B9, 0, none⟩ = some (.int .i64 1) := keep_cell hb18 (by go_simp)
        replace g1 : w18.cell? ⟨B9, 1, none⟩ = some (.int .i64 y) := keep_cell hb18 (by go_simp)
        replace g2 : w18.cell? ⟨B9, 2, none⟩ = some (.int .i64 0) := keep_cell hb18 (by go_simp)
        replace gL : B9 < w18.heap.size := block_lt_of_cell g0
        replace p0 : w18.cell? ⟨B13, 0, none⟩ = some (.int .i64 1) := keep_cell hb18 (by go_simp)
        replace p1 : w18.cell? ⟨B13, 1, none⟩ = some (.int .i64 p) := keep_cell hb18 (by go_simp)
        replace p2 : w18.cell? ⟨B13, 2, none⟩ = some (.int .i64 0) := keep_cell hb18 (by go_simp)
        replace pL : B13 < w18.heap.size := block_lt_of_cell p0
        replace q0 : w18.cell? ⟨w16.heap.size, 0, none⟩ = some (.int .i64 1) := keep_cell hb18 (by go_simp)
        replace q1 : w18.cell? ⟨w16.heap.size, 1, none⟩ = some (.int .i64 q) := keep_cell hb18 (by go_simp)
        replace q2 : w18.cell? ⟨w16.heap.size, 2, none⟩ = some (.int .i64 0) := keep_cell hb18 (by go_simp)
        replace qL : w16.heap.size < w18.heap.size := block_lt_of_cell q0
        go_wp2_with fail
        refine (bin_to 13 1 a 0 1 c 0 1 r 0 true _ H8.out).mono ?_
        rintro e w19 ⟨rfl, hb19⟩
        replace y0 : w19.cell? ⟨B5, 0, none⟩ = some (.int .i64 1) := keep_cell hb19 (by go_simp)
        replace y1 : w19.cell? ⟨B5, 1, none⟩ = some (.int .i64 y) := keep_cell hb19 (by go_simp)
        replace y2 : w19.cell? ⟨B5, 2, none⟩ = some (.int .i64 0) := keep_cell hb19 (by go_simp)
        replace yL : B5 < w19.heap.size := block_lt_of_cell y0
        replace g0 : w19.cell? ⟨B9, 0, none⟩ = some (.int .i64 1) := keep_cell hb19 (by go_simp)
        replace g1 : w19.cell? ⟨B9, 1, none⟩ = some (.int .i64 y) := keep_cell hb19 (by go_simp)
        replace g2 : w19.cell? ⟨B9, 2, none⟩ = some (.int .i64 0) := keep_cell hb19 (by go_simp)
        replace gL : B9 < w19.heap.size := block_lt_of_cell g0
        replace p0 : w19.cell? ⟨B13, 0, none⟩ = some (.int .i64 1) := keep_cell hb19 (by go_simp)
        replace p1 : w19.cell? ⟨B13, 1, none⟩ = some (.int .i64 p) := keep_cell hb19 (by go_simp)
        replace p2 : w19.cell? ⟨B13, 2, none⟩ = some (.int .i64 0) := keep_cell hb19 (by go_simp)
        replace pL : B13 < w19.heap.size := block_lt_of_cell p0
        replace q0 : w19.cell? ⟨w16.heap.size, 0, none⟩ = some (.int .i64 1) := keep_cell hb19 (by go_simp)
        replace q1 : w19.cell? ⟨w16.heap.size, 1, none⟩ = some (.int .i64 q) := keep_cell hb19 (by go_simp)
        replace q2 : w19.cell? ⟨w16.heap.size, 2, none⟩ = some (.int .i64 0) := keep_cell hb19 (by go_simp)
        replace qL : w16.heap.size < w19.heap.size := block_lt_of_cell q0
        go_wp2_with fail
        refine (bin_to 11 1 q 0 1 r 0 1 p 0 true _ H9.out).mono ?_
        rintro e w20 ⟨rfl, hb20⟩
        replace y0 : w20.cell? ⟨B5, 0, none⟩ = some (.int .i64 1) := keep_cell hb20 (by go_simp)
        replace y1 : w20.cell? ⟨B5, 1, none⟩ = some (.int .i64 y) := keep_cell hb20 (by go_simp)
        replace y2 : w20.cell? ⟨B5, 2, none⟩ = some (.int .i64 0) := keep_cell hb20 (by go_simp)
        replace yL : B5 < w20.heap.size := block_lt_of_cell y0
        replace g0 : w20.cell? ⟨B9, 0, none⟩ = some (.int .i64 1) := keep_cell hb20 (by go_simp)
        replace g1 : w20.cell? ⟨B9, 1, none⟩ = some (.int .i64 y) := keep_cell hb20 (by go_simp)
        replace g2 : w20.cell? ⟨B9, 2, none⟩ = some (.int .i64 0) := keep_cell hb20 (by go_simp)
        replace gL : B9 < w20.heap.size := block_lt_of_cell g0
        replace p0 : w20.cell? ⟨B13, 0, none⟩ = some (.int .i64 1) := keep_cell hb20 (by go_simp)
        replace p1 : w20.cell? ⟨B13, 1, none⟩ = some (.int .i64 p) := keep_cell hb20 (by go_simp)
        replace p2 : w20.cell? ⟨B13, 2, none⟩ = some (.int .i64 0) := keep_cell hb20 (by go_simp)
        replace pL : B13 < w20.heap.size := block_lt_of_cell p0
        replace q0 : w20.cell? ⟨w16.heap.size, 0, none⟩ = some (.int .i64 1) := keep_cell hb20 (by go_simp)
        replace q1 : w20.cell? ⟨w16.heap.size, 1, none⟩ = some (.int .i64 q) := keep_cell hb20 (by go_simp)
        replace q2 : w20.cell? ⟨w16.heap.size, 2, none⟩ = some (.int .i64 0) := keep_cell hb20 (by go_simp)
        replace qL : w16.heap.size < w20.heap.size := block_lt_of_cell q0
        have r0 : w20.cell? ⟨w19.heap.size, 0, none⟩ = some (.int .i64 1) := keep_cell hb20 (by go_simp)
        have r1 : w20.cell? ⟨w19.heap.size, 1, none⟩ = some (.int .i64 r) := keep_cell hb20 (by go_simp)
        have r2 : w20.cell? ⟨w19.heap.size, 2, none⟩ = some (.int .i64 0) := keep_cell hb20 (by go_simp)
        have rL : w19.heap.size < w20.heap.size := block_lt_of_cell r0
        go_wp2
        go_ret
        exact ⟨rfl, (by repeat (first | exact Below.refl _ _ | refine bel_alloc ?_ _ | refine bel_set ?_ (by first | exact Nat.le_refl _ | (simp; done) | (simp; omega)) _ | refine Below.drew ?_ | refine bel_trans ?_ (by assumption)))⟩

set_option maxRecDepth 100000 in
set_option maxHeartbeats 8000000 in
theorem chains_16 (a b c x y z s p q r : Int) (w : World) (ht : Tab w) (H1 : Hid (binF 16 ⟨1, a, 0⟩ ⟨1, b, 0⟩ = (⟨1, x, 0⟩, true))) (H2 : Hid (binF 16 ⟨1, x, 0⟩ ⟨1, c, 0⟩ = (⟨1, y, 0⟩, true))) (H3 : Hid (binF 16 ⟨1, b, 0⟩ ⟨1, c, 0⟩ = (⟨1, z, 0⟩, true))) (H4 : Hid (binF 16 ⟨1, a, 0⟩ ⟨1, z, 0⟩ = (⟨1, y, 0⟩, true)))
    (H5 : Hid (binF 11 ⟨1, b, 0⟩ ⟨1, c, 0⟩ = (⟨1, s, 0⟩, true))) (H6 : Hid (binF 13 ⟨1, a, 0⟩ ⟨1, s, 0⟩ = (⟨1, p, 0⟩, true))) (H7 : Hid (binF 13 ⟨1, a, 0⟩ ⟨1, b, 0⟩ = (⟨1, q, 0⟩, true))) (H8 : Hid (binF 13 ⟨1, a, 0⟩ ⟨1, c, 0⟩ = (⟨1, r, 0⟩, true))) (H9 : Hid (binF 11 ⟨1, q, 0⟩ ⟨1, r, 0⟩ = (⟨1, p, 0⟩, true))) :
    Calls Tryd.prog 7 #[.int .i64 a, .int .i64 b, .int .i64 c, .int .i64 16] w (retP (.bool true) w) := by
  go_enter Tryd.func7, Tryd.ntmps7
  go_wp2_with fail
  refine (awake_any _ ht).mono ?_
  rintro e w1 ⟨rfl, hb1⟩
  go_wp2_with fail
  refine (of_to _ _).mono ?_
  rintro e w2 ⟨rfl, hb2⟩
  go_wp2_with fail
  refine (of_to _ _).mono ?_
  rintro e w3 ⟨rfl, hb3⟩
  go_wp2_with fail
  refine (bin_to 16 1 a 0 1 b 0 1 x 0 true _ H1.out).mono ?_
  rintro e w4 ⟨rfl, hb4⟩
  go_wp2_with fail
  have hRz : w.heap.size ≤ w4.heap.size := Below.size (show Below w.heap.size w w4 from (by repeat (first | exact Below.refl _ _ | refine bel_alloc ?_ _ | refine bel_set ?_ (by first | exact Nat.le_refl _ | (simp; done) | (simp; omega)) _ | refine Below.drew ?_ | refine bel_trans ?_ (by assumption))))
  go_cut [11] (fun sv w' => ∃ B, sv = .pointer (some ⟨B, 0, none⟩) ∧ w.heap.size ≤ B ∧ (w'.cell? ⟨B, 0, none⟩ = some (.int .i64 1) ∧ w'.cell? ⟨B, 1, none⟩ = some (.int .i64 y) ∧ w'.cell? ⟨B, 2, none⟩ = some (.int .i64 0) ∧ B < w'.heap.size) ∧ (w'.cell? ⟨w4.heap.size, 0, none⟩ = some (.int .i64 1) ∧ w'.cell? ⟨w4.heap.size, 1, none⟩ = some (.int .i64 x) ∧ w'.cell? ⟨w4.heap.size, 2, none⟩ = some (.int .i64 0) ∧ w4.heap.size < w'.heap.size) ∧ Below w.heap.size w w')
  case first =>
    go_region_held3 (fun w' => (w'.cell? ⟨w4.heap.size, 0, none⟩ = some (.int .i64 1) ∧ w'.cell? ⟨w4.heap.size, 1, none⟩ = some (.int .i64 x) ∧ w'.cell? ⟨w4.heap.size, 2, none⟩ = some (.int .i64 0) ∧ w4.heap.size < w'.heap.size))
      (first | with_reducible exact callS1 hv1 (by assumption) | with_reducible exact allocS1 (by assumption) | with_reducible exact setS1 (by assumption) (by go_light; omega) | with_reducible exact reallocS1 (by assumption) (by go_light; omega) | (go_simp; done))
      (first | (go_at_call 11; refine (of_to _ _).mono ?_; rintro e v1 ⟨rfl, hv1⟩; obtain ⟨hc1, hf1⟩ := bcell hv1; have hz1 := bsize hv1; try simp only [World.size_alloc, World.size_drew, World.cell?_drew, World.frozen?_drew, Nat.add_one_le_iff] at hz1 hc1 hf1) | (go_at_call 10; refine (bin_to 16 1 x 0 1 c 0 1 y 0 true _ H2.out).mono ?_; rintro e v1 ⟨rfl, hv1⟩; obtain ⟨hc1, hf1⟩ := bcell hv1; have hz1 := bsize hv1; try simp only [World.size_alloc, World.size_drew, World.cell?_drew, World.frozen?_drew, Nat.add_one_le_iff] at hz1 hc1 hf1))
    all_goals
      go_wp2_with fail
      go_meet
      case rel =>
        rename_i hH
        exact ⟨_, rfl, by go_light; first | exact hRz | omega, C3.mk' (by go_simp) (by go_simp) (by go_simp), hH, (by repeat (first | exact Below.refl _ _ | assumption | refine bel_alloc ?_ _ | refine Below.drew ?_ | refine bel_set ?_ (by go_light; first | (simp; done) | (simp; omega) | omega) _ | refine bel_trans ?_ (by assumption)))⟩
  case rest =>
    obtain ⟨B5, rfl, yG, ⟨y0, y1, y2, yL⟩, ⟨x0, x1, x2, xL⟩, hw5⟩ := hcut
    go_wp2_with fail
    refine (of_to _ _).mono ?_
    rintro e w6 ⟨rfl, hb6⟩
    replace y0 : w6.cell? ⟨B5, 0, none⟩ = some (.int .i64 1) := keep_cell hb6 (by go_simp)
    replace y1 : w6.cell? ⟨B5, 1, none⟩ = some (.int .i64 y) := keep_cell hb6 (by go_simp)
    replace y2 : w6.cell? ⟨B5, 2, none⟩ = some (.int .i64 0) := keep_cell hb6 (by go_simp)
    replace yL : B5 < w6.heap.size := block_lt_of_cell y0
    go_wp2_with fail
    refine (of_to _ _).mono ?_
    rintro e w7 ⟨rfl, hb7⟩
    replace y0 : w7.cell? ⟨B5, 0, none⟩ = some (.int .i64 1) := keep_cell hb7 (by go_simp)
    replace y1 : w7.cell? ⟨B5, 1, none⟩ = some (.int .i64 y) := keep_cell hb7 (by go_simp)
    replace y2 : w7.cell? ⟨B5, 2, none⟩ = some (.int .i64 0) := keep_cell hb7 (by go_simp)
    replace yL : B5 < w7.heap.size := block_lt_of_cell y0
    go_wp2_with fail
    refine (bin_to 16 1 b 0 1 c 0 1 z 0 true _ H3.out).mono ?_
    rintro e w8 ⟨rfl, hb8⟩
    replace y0 : w8.cell? ⟨B5, 0, none⟩ = some (.int .i64 1) := keep_cell hb8 (by go_simp)
    replace y1 : w8.cell? ⟨B5, 1, none⟩ = some (.int .i64 y) := keep_cell hb8 (by go_simp)
    replace y2 : w8.cell? ⟨B5, 2, none⟩ = some (.int .i64 0) := keep_cell hb8 (by go_simp)
    replace yL : B5 < w8.heap.size := block_lt_of_cell y0
    go_wp2_with fail
    have hRz : w.heap.size ≤ w8.heap.size := Below.size (show Below w.heap.size w w8 from (by repeat (first | exact Below.refl _ _ | refine bel_alloc ?_ _ | refine bel_set ?_ (by first | exact Nat.le_refl _ | (simp; done) | (simp; omega)) _ | refine Below.drew ?_ | refine bel_trans ?_ (by assumption))))
    have yH : C3 (w8.alloc (.cells #[.int .i64 1, .int .i64 z, .int .i64 0] 24)) (B5) 1 y 0 := C3.alloc (C3.mk' y0 y1 y2) _
    go_cut [15] (fun sv w' => ∃ B, sv = .pointer (some ⟨B, 0, none⟩) ∧ w.heap.size ≤ B ∧ (w'.cell? ⟨B, 0, none⟩ = some (.int .i64 1) ∧ w'.cell? ⟨B, 1, none⟩ = some (.int .i64 y) ∧ w'.cell? ⟨B, 2, none⟩ = some (.int .i64 0) ∧ B < w'.heap.size) ∧ (w'.cell? ⟨w8.heap.size, 0, none⟩ = some (.int .i64 1) ∧ w'.cell? ⟨w8.heap.size, 1, none⟩ = some (.int .i64 z) ∧ w'.cell? ⟨w8.heap.size, 2, none⟩ = some (.int .i64 0) ∧ w8.heap.size < w'.heap.size) ∧ (w'.cell? ⟨B5, 0, none⟩ = some (.int .i64 1) ∧ w'.cell? ⟨B5, 1, none⟩ = some (.int .i64 y) ∧ w'.cell? ⟨B5, 2, none⟩ = some (.int .i64 0) ∧ B5 < w'.heap.size) ∧ Below w.heap.size w w')
    case first =>
      go_region_held3 (fun w' => (w'.cell? ⟨w8.heap.size, 0, none⟩ = some (.int .i64 1) ∧ w'.cell? ⟨w8.heap.size, 1, none⟩ = some (.int .i64 z) ∧ w'.cell? ⟨w8.heap.size, 2, none⟩ = some (.int .i64 0) ∧ w8.heap.size < w'.heap.size))
        (first | with_reducible exact callS1 hv1 (by assumption) | with_reducible exact allocS1 (by assumption) | with_reducible exact setS1 (by assumption) (by go_light; omega) | with_reducible exact reallocS1 (by assumption) (by go_light; omega) | (go_simp; done))
        (first | (go_at_call 11; refine (of_to _ _).mono ?_; rintro e v1 ⟨rfl, hv1⟩; obtain ⟨hc1, hf1⟩ := bcell hv1; have hz1 := bsize hv1; try simp only [World.size_alloc, World.size_drew, World.cell?_drew, World.frozen?_drew, Nat.add_one_le_iff] at hz1 hc1 hf1) | (go_at_call 10; refine (bin_to 16 1 a 0 1 z 0 1 y 0 true _ H4.out).mono ?_; rintro e v1 ⟨rfl, hv1⟩; obtain ⟨hc1, hf1⟩ := bcell hv1; have hz1 := bsize hv1; try simp only [World.size_alloc, World.size_drew, World.cell?_drew, World.frozen?_drew, Nat.add_one_le_iff] at hz1 hc1 hf1))
      all_goals
        go_wp2_with fail
        go_meet
        case rel =>
          rename_i hH
          exact ⟨_, rfl, by go_light; first | exact hRz | omega, C3.mk' (by go_simp) (by go_simp) (by go_simp), hH, C3.call yH (by repeat (first | exact Below.refl _ _ | assumption | refine bel_alloc ?_ _ | refine Below.drew ?_ | refine bel_set ?_ (by go_light; first | (simp; done) | (simp; omega) | omega) _ | refine bel_trans ?_ (by assumption))), (by repeat (first | exact Below.refl _ _ | assumption | refine bel_alloc ?_ _ | refine Below.drew ?_ | refine bel_set ?_ (by go_light; first | (simp; done) | (simp; omega) | omega) _ | refine bel_trans ?_ (by assumption)))⟩
    case rest =>
      clear yH
      obtain ⟨B9, rfl, gG, ⟨g0, g1, g2, gL⟩, ⟨z0, z1, z2, zL⟩, ⟨y0, y1, y2, yL⟩, hw9⟩ := hcut
      go_wp2_with fail
      refine (of_to _ _).mono ?_
      rintro e w10 ⟨rfl, hb10⟩
      replace y0 : w10.cell? ⟨B5, 0, none⟩ = some (.int .i64 1) := keep_cell hb10 (by go_simp)
      replace y1 : w10.cell? ⟨B5, 1, none⟩ = some (.int .i64 y) := keep_cell hb10 (by go_simp)
      replace y2 : w10.cell? ⟨B5, 2, none⟩ = some (.int .i64 0) := keep_cell hb10 (by go_simp)
      replace yL : B5 < w10.heap.size := block_lt_of_cell y0
      replace g0 : w10.cell? ⟨B9, 0, none⟩ = some (.int .i64 1) := keep_cell hb10 (by go_simp)
      replace g1 : w10.cell? ⟨B9, 1, none⟩ = some (.int .i64 y) := keep_cell hb10 (by go_simp)
      replace g2 : w10.cell? ⟨B9, 2, none⟩ = some (.int .i64 0) := keep_cell hb10 (by go_simp)
      replace gL : B9 < w10.heap.size := block_lt_of_cell g0
      go_wp2_with fail
      refine (of_to _ _).mono ?_
      rintro e w11 ⟨rfl, hb11⟩
      replace y0 : w11.cell? ⟨B5, 0, none⟩ = some (.int .i64 1) := keep_cell hb11 (by go_simp)
      replace y1 : w11.cell? ⟨B5, 1, none⟩ = some (.int .i64 y) := keep_cell hb11 (by go_simp)
      replace y2 : w11.cell? ⟨B5, 2, none⟩ = some (.int .i64 0) := keep_cell hb11 (by go_simp)
      replace yL : B5 < w11.heap.size := block_lt_of_cell y0
      replace g0 : w11.cell? ⟨B9, 0, none⟩ = some (.int .i64 1) := keep_cell hb11 (by go_simp)
      replace g1 : w11.cell? ⟨B9, 1, none⟩ = some (.int .i64 y) := keep_cell hb11 (by go_simp)
      replace g2 : w11.cell? ⟨B9, 2, none⟩ = some (.int .i64 0) := keep_cell hb11 (by go_simp)
      replace gL : B9 < w11.heap.size := block_lt_of_cell g0
      go_wp2_with fail
      refine (bin_to 11 1 b 0 1 c 0 1 s 0 true _ H5.out).mono ?_
      rintro e w12 ⟨rfl, hb12⟩
      replace y0 : w12.cell? ⟨B5, 0, none⟩ = some (.int .i64 1) := keep_cell hb12 (by go_simp)
      replace y1 : w12.cell? ⟨B5, 1, none⟩ = some (.int .i64 y) := keep_cell hb12 (by go_simp)
      replace y2 : w12.cell? ⟨B5, 2, none⟩ = some (.int .i64 0) := keep_cell hb12 (by go_simp)
      replace yL : B5 < w12.heap.size := block_lt_of_cell y0
      replace g0 : w12.cell? ⟨B9, 0, none⟩ = some (.int .i64 1) := keep_cell hb12 (by go_simp)
      replace g1 : w12.cell? ⟨B9, 1, none⟩ = some (.int .i64 y) := keep_cell hb12 (by go_simp)
      replace g2 : w12.cell? ⟨B9, 2, none⟩ = some (.int .i64 0) := keep_cell hb12 (by go_simp)
      replace gL : B9 < w12.heap.size := block_lt_of_cell g0
      go_wp2_with fail
      have hRz : w.heap.size ≤ w12.heap.size := Below.size (show Below w.heap.size w w12 from (by repeat (first | exact Below.refl _ _ | refine bel_alloc ?_ _ | refine bel_set ?_ (by first | exact Nat.le_refl _ | (simp; done) | (simp; omega)) _ | refine Below.drew ?_ | refine bel_trans ?_ (by assumption))))
      have yH : C3 (w12.alloc (.cells #[.int .i64 1, .int .i64 s, .int .i64 0] 24)) (B5) 1 y 0 := C3.alloc (C3.mk' y0 y1 y2) _
      have gH : C3 (w12.alloc (.cells #[.int .i64 1, .int .i64 s, .int .i64 0] 24)) (B9) 1 y 0 := C3.alloc (C3.mk' g0 g1 g2) _
      go_cut [19] (fun sv w' => ∃ B, sv = .pointer (some ⟨B, 0, none⟩) ∧ w.heap.size ≤ B ∧ (w'.cell? ⟨B, 0, none⟩ = some (.int .i64 1) ∧ w'.cell? ⟨B, 1, none⟩ = some (.int .i64 p) ∧ w'.cell? ⟨B, 2, none⟩ = some (.int .i64 0) ∧ B < w'.heap.size) ∧ (w'.cell? ⟨w12.heap.size, 0, none⟩ = some (.int .i64 1) ∧ w'.cell? ⟨w12.heap.size, 1, none⟩ = some (.int .i64 s) ∧ w'.cell? ⟨w12.heap.size, 2, none⟩ = some (.int .i64 0) ∧ w12.heap.size < w'.heap.size) ∧ (w'.cell? ⟨B5, 0, none⟩ = some (.int .i64 1) ∧ w'.cell? ⟨B5, 1, none⟩ = some (.int .i64 y) ∧ w'.cell? ⟨B5, 2, none⟩ = some (.int .i64 0) ∧ B5 < w'.heap.size) ∧ (w'.cell? ⟨B9, 0, none⟩ = some (.int .i64 1) ∧ w'.cell? ⟨B9, 1, none⟩ = some (.int .i64 y) ∧ w'.cell? ⟨B9, 2, none⟩ = some (.int .i64 0) ∧ B9 < w'.heap.size) ∧ Below w.heap.size w w')
      case first =>
        go_region_held3 (fun w' => (w'.cell? ⟨w12.heap.size, 0, none⟩ = some (.int .i64 1) ∧ w'.cell? ⟨w12.heap.size, 1, none⟩ = some (.int .i64 s) ∧ w'.cell? ⟨w12.heap.size, 2, none⟩ = some (.int .i64 0) ∧ w12.heap.size < w'.heap.size))
          (first | with_reducible exact callS1 hv1 (by assumption) | with_reducible exact allocS1 (by assumption) | with_reducible exact setS1 (by assumption) (by go_light; omega) | with_reducible exact reallocS1 (by assumption) (by go_light; omega) | (go_simp; done))
          (first | (go_at_call 11; refine (of_to _ _).mono ?_; rintro e v1 ⟨rfl, hv1⟩; obtain ⟨hc1, hf1⟩ := bcell hv1; have hz1 := bsize hv1; try simp only [World.size_alloc, World.size_drew, World.cell?_drew, World.frozen?_drew, Nat.add_one_le_iff] at hz1 hc1 hf1) | (go_at_call 10; refine (bin_to 13 1 a 0 1 s 0 1 p 0 true _ H6.out).mono ?_; rintro e v1 ⟨rfl, hv1⟩; obtain ⟨hc1, hf1⟩ := bcell hv1; have hz1 := bsize hv1; try simp only [World.size_alloc, World.size_drew, World.cell?_drew, World.frozen?_drew, Nat.add_one_le_iff] at hz1 hc1 hf1))
        all_goals
          go_wp2_with fail
          go_meet
          case rel =>
            rename_i hH
            exact ⟨_, rfl, by go_light; first | exact hRz | omega, C3.mk' (by go_simp) (by go_simp) (by go_simp), hH, C3.call yH (by repeat (first | exact Below.refl _ _ | assumption | refine bel_alloc ?_ _ | refine Below.drew ?_ | refine bel_set ?_ (by go_light; first | (simp; done) | (simp; omega) | omega) _ | refine bel_trans ?_ (by assumption))), C3.call gH (by repeat (first | exact Below.refl _ _ | assumption | refine bel_alloc ?_ _ | refine Below.drew ?_ | refine bel_set ?_ (by go_light; first | (simp; done) | (simp; omega) | omega) _ | refine bel_trans ?_ (by assumption))), (by repeat (first | exact Below.refl _ _ | assumption | refine bel_alloc ?_ _ | refine Below.drew ?_ | refine bel_set ?_ (by go_light; first | (simp; done) | (simp; omega) | omega) _ | refine bel_trans ?_ (by assumption)))⟩
      case rest =>
        clear yH gH
        obtain ⟨B13, rfl, pG, ⟨p0, p1, p2, pL⟩, ⟨s0, s1, s2, sL⟩, ⟨y0, y1, y2, yL⟩, ⟨g0, g1, g2, gL⟩, hw13⟩ := hcut
        go_wp2_with fail
        refine (of_to _ _).mono ?_
        rintro e w14 ⟨rfl, hb14⟩
        replace y0 : w14.cell? ⟨B5, 0, none⟩ = some (.int .i64 1) := keep_cell hb14 (by go_simp)
        replace y1 : w14.cell? ⟨B5, 1, none⟩ = some (.int .i64 y) := keep_cell hb14 (by go_simp)
        replace y2 : w14.cell? ⟨B5, 2, none⟩ = some (.int .i64 0) := keep_cell hb14 (by go_simp)
        replace yL : B5 < w14.heap.size := block_lt_of_cell y0
        replace g0 : w14.cell? ⟨B9, 0, none⟩ = some (.int .i64 1) := keep_cell hb14 (by go_simp)
        replace g1 : w14.cell? ⟨B9, 1, none⟩ = some (.int .i64 y) := keep_cell hb14 (by go_simp)
        replace g2 : w14.cell? ⟨B9, 2, none⟩ = some (.int .i64 0) := keep_cell hb14 (by go_simp)
        replace gL : B9 < w14.heap.size := block_lt_of_cell g0
        replace p0 : w14.cell? ⟨B13, 0, none⟩ = some (.int .i64 1) := keep_cell hb14 (by go_simp)
        replace p1 : w14.cell? ⟨B13, 1, none⟩ = some (.int .i64 p) := keep_cell hb14 (by go_simp)
        replace p2 : w14.cell? ⟨B13, 2, none⟩ = some (.int .i64 0) := keep_cell hb14 (by go_simp)
        replace pL : B13 < w14.heap.size := block_lt_of_cell p0
        go_wp2_with fail
        refine (of_to _ _).mono ?_
        rintro e w15 ⟨rfl, hb15⟩
        replace y0 : w15.cell? ⟨B5, 0, none⟩ = some (.int .i64 1) := keep_cell hb15 (by go_simp)
        replace y1 : w15.cell? ⟨B5, 1, none⟩ = some (.int .i64 y) := keep_cell hb15 (by go_simp)
        replace y2 : w15.cell? ⟨B5, 2, none⟩ = some (.int .i64 0) := keep_cell hb15 (by go_simp)
        replace yL : B5 < w15.heap.size := block_lt_of_cell y0
        replace g0 : w15.cell? ⟨B9, 0, none⟩ = some (.int .i64 1) := keep_cell hb15 (by go_simp)
        replace g1 : w15.cell? ⟨B9, 1, none⟩ = some (.int .i64 y) := keep_cell hb15 (by go_simp)
        replace g2 : w15.cell? ⟨B9, 2, none⟩ = some (.int .i64 0) := keep_cell hb15 (by go_simp)
        replace gL : B9 < w15.heap.size := block_lt_of_cell g0
        replace p0 : w15.cell? ⟨B13, 0, none⟩ = some (.int .i64 1) := keep_cell hb15 (by go_simp)
        replace p1 : w15.cell? ⟨B13, 1, none⟩ = some (.int .i64 p) := keep_cell hb15 (by go_simp)
        replace p2 : w15.cell? ⟨B13, 2, none⟩ = some (.int .i64 0) := keep_cell hb15 (by go_simp)
        replace pL : B13 < w15.heap.size := block_lt_of_cell p0
        go_wp2_with fail
        refine (bin_to 13 1 a 0 1 b 0 1 q 0 true _ H7.out).mono ?_
        rintro e w16 ⟨rfl, hb16⟩
        replace y0 : w16.cell? ⟨B5, 0, none⟩ = some (.int .i64 1) := keep_cell hb16 (by go_simp)
        replace y1 : w16.cell? ⟨B5, 1, none⟩ = some (.int .i64 y) := keep_cell hb16 (by go_simp)
        replace y2 : w16.cell? ⟨B5, 2, none⟩ = some (.int .i64 0) := keep_cell hb16 (by go_simp)
        replace yL : B5 < w16.heap.size := block_lt_of_cell y0
        replace g0 : w16.cell? ⟨B9, 0, none⟩ = some (.int .i64 1) := keep_cell hb16 (by go_simp)
        replace g1 : w16.cell? ⟨B9, 1, none⟩ = some (.int .i64 y) := keep_cell hb16 (by go_simp)
        replace g2 : w16.cell? ⟨B9, 2, none⟩ = some (.int .i64 0) := keep_cell hb16 (by go_simp)
        replace gL : B9 < w16.heap.size := block_lt_of_cell g0
        replace p0 : w16.cell? ⟨B13, 0, none⟩ = some (.int .i64 1) := keep_cell hb16 (by go_simp)
        replace p1 : w16.cell? ⟨B13, 1, none⟩ = some (.int .i64 p) := keep_cell hb16 (by go_simp)
        replace p2 : w16.cell? ⟨B13, 2, none⟩ = some (.int .i64 0) := keep_cell hb16 (by go_simp)
        replace pL : B13 < w16.heap.size := block_lt_of_cell p0
        go_wp2_with fail
        refine (of_to _ _).mono ?_
        rintro e w17 ⟨rfl, hb17⟩
        replace y0 : w17.cell? ⟨B5, 0, none⟩ = some (.int .i64 1) := keep_cell hb17 (by go_simp)
        replace y1 : w17.cell? ⟨B5, 1, none⟩ = some (.int .i64 y) := keep_cell hb17 (by go_simp)
        replace y2 : w17.cell? ⟨B5, 2, none⟩ = some (.int .i64 0) := keep_cell hb17 (by go_simp)
        replace yL : B5 < w17.heap.size := block_lt_of_cell y0
        replace g0 : w17.cell? ⟨B9, 0, none⟩ = some (.int .i64 1) := keep_cell hb17 (by go_simp)
        replace g1 : w17.cell? ⟨B9, 1, none⟩ = some (.int .i64 y) := keep_cell hb17 (by go_simp)
        replace g2 : w17.cell? ⟨B9, 2, none⟩ = some (.int .i64 0) := keep_cell hb17 (by go_simp)
        replace gL : B9 < w17.heap.size := block_lt_of_cell g0
        replace p0 : w17.cell? ⟨B13, 0, none⟩ = some (.int .i64 1) := keep_cell hb17 (by go_simp)
        replace p1 : w17.cell? ⟨B13, 1, none⟩ = some (.int .i64 p) := keep_cell hb17 (by go_simp)
        replace p2 : w17.cell? ⟨B13, 2, none⟩ = some (.int .i64 0) := keep_cell hb17 (by go_simp)
        replace pL : B13 < w17.heap.size := block_lt_of_cell p0
        have q0 : w17.cell? ⟨w16.heap.size, 0, none⟩ = some (.int .i64 1) := keep_cell hb17 (by go_simp)
        have q1 : w17.cell? ⟨w16.heap.size, 1, none⟩ = some (.int .i64 q) := keep_cell hb17 (by go_simp)
        have q2 : w17.cell? ⟨w16.heap.size, 2, none⟩ = some (.int .i64 0) := keep_cell hb17 (by go_simp)
        have qL : w16.heap.size < w17.heap.size := block_lt_of_cell q0
        go_wp2_with fail
        refine (of_to _ _).mono ?_
        rintro e w18 ⟨rfl, hb18⟩
        replace y0 : w18.cell? ⟨B5, 0, none⟩ = some (.int .i64 1) := keep_cell hb18 (by go_simp)
        replace y1 : w18.cell? ⟨B5, 1, none⟩ = some (.int .i64 y) := keep_cell hb18 (by go_simp)
        replace y2 : w18.cell? ⟨B5, 2, none⟩ = some (.int .i64 0) := keep_cell hb18 (by go_simp)
        replace yL : B5 < w18.heap.size := block_lt_of_cell y0
        replace g0 : w18.cell? ⟨B9, 0, none⟩ = some (.int .i64 1) := keep_cell hb18 (by go_simp)
        replace g1 : w18.cell? ⟨B9, 1, none⟩ = some (.int .i64 y) := keep_cell hb18 (by go_simp)
        replace g2 : w18.cell? ⟨B9, 2, none⟩ = some (.int .i64 0) := keep_cell hb18 (by go_simp)
        replace gL : B9 < w18.heap.size := block_lt_of_cell g0
        replace p0 : w18.cell? ⟨B13, 0, none⟩ = some (.int .i64 1) := keep_cell hb18 (by go_simp)
        replace p1 : w18.cell? ⟨B13, 1, none⟩ = some (.int .i64 p) := keep_cell hb18 (by go_simp)
        replace p2 : w18.cell? ⟨B13, 2, none⟩ = some (.int .i64 0) := keep_cell hb18 (by go_simp)
        replace pL : B13 < w18.heap.size := block_lt_of_cell p0
        replace q0 : w18.cell? ⟨w16.heap.size, 0, none⟩ = some (.int .i64 1) := keep_cell hb18 (by go_simp)
        replace q1 : w18.cell? ⟨w16.heap.size, 1, none⟩ = some (.int .i64 q) := keep_cell hb18 (by go_simp)
        replace q2 : w18.cell? ⟨w16.heap.size, 2, none⟩ = some (.int .i64 0) := keep_cell hb18 (by go_simp)
        replace qL : w16.heap.size < w18.heap.size := block_lt_of_cell q0
        go_wp2_with fail
        refine (bin_to 13 1 a 0 1 c 0 1 r 0 true _ H8.out).mono ?_
        rintro e w19 ⟨rfl, hb19⟩
        replace y0 : w19.cell? ⟨B5, 0, none⟩ = some (.int .i64 1) := keep_cell hb19 (by go_simp)
        replace y1 : w19.cell? ⟨B5, 1, none⟩ = some (.int .i64 y) := keep_cell hb19 (by go_simp)
        replace y2 : w19.cell? ⟨B5, 2, none⟩ = some (.int .i64 0) := keep_cell hb19 (by go_simp)
        replace yL : B5 < w19.heap.size := block_lt_of_cell y0
        replace g0 : w19.cell? ⟨B9, 0, none⟩ = some (.int .i64 1) := keep_cell hb19 (by go_simp)
        replace g1 : w19.cell? ⟨B9, 1, none⟩ = some (.int .i64 y) := keep_cell hb19 (by go_simp)
        replace g2 : w19.cell? ⟨B9, 2, none⟩ = some (.int .i64 0) := keep_cell hb19 (by go_simp)
        replace gL : B9 < w19.heap.size := block_lt_of_cell g0
        replace p0 : w19.cell? ⟨B13, 0, none⟩ = some (.int .i64 1) := keep_cell hb19 (by go_simp)
        replace p1 : w19.cell? ⟨B13, 1, none⟩ = some (.int .i64 p) := keep_cell hb19 (by go_simp)
        replace p2 : w19.cell? ⟨B13, 2, none⟩ = some (.int .i64 0) := keep_cell hb19 (by go_simp)
        replace pL : B13 < w19.heap.size := block_lt_of_cell p0
        replace q0 : w19.cell? ⟨w16.heap.size, 0, none⟩ = some (.int .i64 1) := keep_cell hb19 (by go_simp)
        replace q1 : w19.cell? ⟨w16.heap.size, 1, none⟩ = some (.int .i64 q) := keep_cell hb19 (by go_simp)
        replace q2 : w19.cell? ⟨w16.heap.size, 2, none⟩ = some (.int .i64 0) := keep_cell hb19 (by go_simp)
        replace qL : w16.heap.size < w19.heap.size := block_lt_of_cell q0
        go_wp2_with fail
        refine (bin_to 11 1 q 0 1 r 0 1 p 0 true _ H9.out).mono ?_
        rintro e w20 ⟨rfl, hb20⟩
        replace y0 : w20.cell? ⟨B5, 0, none⟩ = some (.int .i64 1) := keep_cell hb20 (by go_simp)
        replace y1 : w20.cell? ⟨B5, 1, none⟩ = some (.int .i64 y) := keep_cell hb20 (by go_simp)
        replace y2 : w20.cell? ⟨B5, 2, none⟩ = some (.int .i64 0) := keep_cell hb20 (by go_simp)
        replace yL : B5 < w20.heap.size := block_lt_of_cell y0
        replace g0 : w20.cell? ⟨B9, 0, none⟩ = some (.int .i64 1) := keep_cell hb20 (by go_simp)
        replace g1 : w20.cell? ⟨B9, 1, none⟩ = some (.int .i64 y) := keep_cell hb20 (by go_simp)
        replace g2 : w20.cell? ⟨B9, 2, none⟩ = some (.int .i64 0) := keep_cell hb20 (by go_simp)
        replace gL : B9 < w20.heap.size := block_lt_of_cell g0
        replace p0 : w20.cell? ⟨B13, 0, none⟩ = some (.int .i64 1) := keep_cell hb20 (by go_simp)
        replace p1 : w20.cell? ⟨B13, 1, none⟩ = some (.int .i64 p) := keep_cell hb20 (by go_simp)
        replace p2 : w20.cell? ⟨B13, 2, none⟩ = some (.int .i64 0) := keep_cell hb20 (by go_simp)
        replace pL : B13 < w20.heap.size := block_lt_of_cell p0
        replace q0 : w20.cell? ⟨w16.heap.size, 0, none⟩ = some (.int .i64 1) := keep_cell hb20 (by go_simp)
        replace q1 : w20.cell? ⟨w16.heap.size, 1, none⟩ = some (.int .i64 q) := keep_cell hb20 (by go_simp)
        replace q2 : w20.cell? ⟨w16.heap.size, 2, none⟩ = some (.int .i64 0) := keep_cell hb20 (by go_simp)
        replace qL : w16.heap.size < w20.heap.size := block_lt_of_cell q0
        have r0 : w20.cell? ⟨w19.heap.size, 0, none⟩ = some (.int .i64 1) := keep_cell hb20 (by go_simp)
        have r1 : w20.cell? ⟨w19.heap.size, 1, none⟩ = some (.int .i64 r) := keep_cell hb20 (by go_simp)
        have r2 : w20.cell? ⟨w19.heap.size, 2, none⟩ = some (.int .i64 0) := keep_cell hb20 (by go_simp)
        have rL : w19.heap.size < w20.heap.size := block_lt_of_cell r0
        go_wp2
        go_ret
        exact ⟨rfl, (by repeat (first | exact Below.refl _ _ | refine bel_alloc ?_ _ | refine bel_set ?_ (by first | exact Nat.le_refl _ | (simp; done) | (simp; omega)) _ | refine Below.drew ?_ | refine bel_trans ?_ (by assumption)))⟩

set_option maxRecDepth 100000 in
set_option maxHeartbeats 8000000 in
theorem chains_17 (a b c x y z s p q r : Int) (w : World) (ht : Tab w) (H1 : Hid (binF 17 ⟨1, a, 0⟩ ⟨1, b, 0⟩ = (⟨1, x, 0⟩, true))) (H2 : Hid (binF 17 ⟨1, x, 0⟩ ⟨1, c, 0⟩ = (⟨1, y, 0⟩, true))) (H3 : Hid (binF 17 ⟨1, b, 0⟩ ⟨1, c, 0⟩ = (⟨1, z, 0⟩, true))) (H4 : Hid (binF 17 ⟨1, a, 0⟩ ⟨1, z, 0⟩ = (⟨1, y, 0⟩, true)))
    (H5 : Hid (binF 11 ⟨1, b, 0⟩ ⟨1, c, 0⟩ = (⟨1, s, 0⟩, true))) (H6 : Hid (binF 13 ⟨1, a, 0⟩ ⟨1, s, 0⟩ = (⟨1, p, 0⟩, true))) (H7 : Hid (binF 13 ⟨1, a, 0⟩ ⟨1, b, 0⟩ = (⟨1, q, 0⟩, true))) (H8 : Hid (binF 13 ⟨1, a, 0⟩ ⟨1, c, 0⟩ = (⟨1, r, 0⟩, true))) (H9 : Hid (binF 11 ⟨1, q, 0⟩ ⟨1, r, 0⟩ = (⟨1, p, 0⟩, true))) :
    Calls Tryd.prog 7 #[.int .i64 a, .int .i64 b, .int .i64 c, .int .i64 17] w (retP (.bool true) w) := by
  go_enter Tryd.func7, Tryd.ntmps7
  go_wp2_with fail
  refine (awake_any _ ht).mono ?_
  rintro e w1 ⟨rfl, hb1⟩
  go_wp2_with fail
  refine (of_to _ _).mono ?_
  rintro e w2 ⟨rfl, hb2⟩
  go_wp2_with fail
  refine (of_to _ _).mono ?_
  rintro e w3 ⟨rfl, hb3⟩
  go_wp2_with fail
  refine (bin_to 17 1 a 0 1 b 0 1 x 0 true _ H1.out).mono ?_
  rintro e w4 ⟨rfl, hb4⟩
  go_wp2_with fail
  have hRz : w.heap.size ≤ w4.heap.size := Below.size (show Below w.heap.size w w4 from (by repeat (first | exact Below.refl _ _ | refine bel_alloc ?_ _ | refine bel_set ?_ (by first | exact Nat.le_refl _ | (simp; done) | (simp; omega)) _ | refine Below.drew ?_ | refine bel_trans ?_ (by assumption))))
  go_cut [11] (fun sv w' => ∃ B, sv = .pointer (some ⟨B, 0, none⟩) ∧ w.heap.size ≤ B ∧ (w'.cell? ⟨B, 0, none⟩ = some (.int .i64 1) ∧ w'.cell? ⟨B, 1, none⟩ = some (.int .i64 y) ∧ w'.cell? ⟨B, 2, none⟩ = some (.int .i64 0) ∧ B < w'.heap.size) ∧ (w'.cell? ⟨w4.heap.size, 0, none⟩ = some (.int .i64 1) ∧ w'.cell? ⟨w4.heap.size, 1, none⟩ = some (.int .i64 x) ∧ w'.cell? ⟨w4.heap.size, 2, none⟩ = some (.int .i64 0) ∧ w4.heap.size < w'.heap.size) ∧ Below w.heap.size w w')
  case first =>
    go_region_held3 (fun w' => (w'.cell? ⟨w4.heap.size, 0, none⟩ = some (.int .i64 1) ∧ w'.cell? ⟨w4.heap.size, 1, none⟩ = some (.int .i64 x) ∧ w'.cell? ⟨w4.heap.size, 2, none⟩ = some (.int .i64 0) ∧ w4.heap.size < w'.heap.size))
      (first | with_reducible exact callS1 hv1 (by assumption) | with_reducible exact allocS1 (by assumption) | with_reducible exact setS1 (by assumption) (by go_light; omega) | with_reducible exact reallocS1 (by assumption) (by go_light; omega) | (go_simp; done))
      (first | (go_at_call 11; refine (of_to _ _).mono ?_; rintro e v1 ⟨rfl, hv1⟩; obtain ⟨hc1, hf1⟩ := bcell hv1; have hz1 := bsize hv1; try simp only [World.size_alloc, World.size_drew, World.cell?_drew, World.frozen?_drew, Nat.add_one_le_iff] at hz1 hc1 hf1) | (go_at_call 10; refine (bin_to 17 1 x 0 1 c 0 1 y 0 true _ H2.out).mono ?_; rintro e v1 ⟨rfl, hv1⟩; obtain ⟨hc1, hf1⟩ := bcell hv1; have hz1 := bsize hv1; try simp only [World.size_alloc, World.size_drew, World.cell?_drew, World.frozen?_drew, Nat.add_one_le_iff] at hz1 hc1 hf1))
    all_goals
      go_wp2_with fail
      go_meet
      case rel =>
        rename_i hH
        exact ⟨_, rfl, by go_light; first | exact hRz | omega, C3.mk' (by go_simp) (by go_simp) (by go_simp), hH, (by repeat (first | exact Below.refl _ _ | assumption | refine bel_alloc ?_ _ | refine Below.drew ?_ | refine bel_set ?_ (by go_light; first | (simp; done) | (simp; omega) | omega) _ | refine bel_trans ?_ (by assumption)))⟩
  case rest =>
    obtain ⟨B5, rfl, yG, ⟨y0, y1, y2, yL⟩, ⟨x0, x1, x2, xL⟩, hw5⟩ := hcut
    go_wp2_with fail
    refine (of_to _ _).mono ?_
    rintro e w6 ⟨rfl, hb6⟩
    replace y0 : w6.cell? ⟨B5, 0, none⟩ = some (.int .i64 1) := keep_cell hb6 (by go_simp)
    replace y1 : w6.cell? ⟨B5, 1, none⟩ = some (.int .i64 y) := keep_cell hb6 (by go_simp)
    replace y2 : w6.cell? ⟨B5, 2, none⟩ = some (.int .i64 0) := keep_cell hb6 (by go_simp)
    replace yL : B5 < w6.heap.size := block_lt_of_cell y0
    go_wp2_with fail
    refine (of_to _ _).mono ?_
    rintro e w7 ⟨rfl, hb7⟩
    replace y0 : w7.cell? ⟨B5, 0, none⟩ = some (.int .i64 1) := keep_cell hb7 (by go_simp)
    replace y1 : w7.cell? ⟨B5, 1, none⟩ = some (.int .i64 y) := keep_cell hb7 (by go_simp)
    replace y2 : w7.cell? ⟨B5, 2, none⟩ = some (.int .i64 0) := keep_cell hb7 (by go_simp)
    replace yL : B5 < w7.heap.size := block_lt_of_cell y0
    go_wp2_with fail
    refine (bin_to 17 1 b 0 1 c 0 1 z 0 true _ H3.out).mono ?_
    rintro e w8 ⟨rfl, hb8⟩
    replace y0 : w8.cell? ⟨B5, 0, none⟩ = some (.int .i64 1) := keep_cell hb8 (by go_simp)
    replace y1 : w8.cell? ⟨B5, 1, none⟩ = some (.int .i64 y) := keep_cell hb8 (by go_simp)
    replace y2 : w8.cell? ⟨B5, 2, none⟩ = some (.int .i64 0) := keep_cell hb8 (by go_simp)
    replace yL : B5 < w8.heap.size := block_lt_of_cell y0
    go_wp2_with fail
    have hRz : w.heap.size ≤ w8.heap.size := Below.size (show Below w.heap.size w w8 from (by repeat (first | exact Below.refl _ _ | refine bel_alloc ?_ _ | refine bel_set ?_ (by first | exact Nat.le_refl _ | (simp; done) | (simp; omega)) _ | refine Below.drew ?_ | refine bel_trans ?_ (by assumption))))
    have yH : C3 (w8.alloc (.cells #[.int .i64 1, .int .i64 z, .int .i64 0] 24)) (B5) 1 y 0 := C3.alloc (C3.mk' y0 y1 y2) _
    go_cut [15] (fun sv w' => ∃ B, sv = .pointer (some ⟨B, 0, none⟩) ∧ w.heap.size ≤ B ∧ (w'.cell? ⟨B, 0, none⟩ = some (.int .i64 1) ∧ w'.cell? ⟨B, 1, none⟩ = some (.int .i64 y) ∧ w'.cell? ⟨B, 2, none⟩ = some (.int .i64 0) ∧ B < w'.heap.size) ∧ (w'.cell? ⟨w8.heap.size, 0, none⟩ = some (.int .i64 1) ∧ w'.cell? ⟨w8.heap.size, 1, none⟩ = some (.int .i64 z) ∧ w'.cell? ⟨w8.heap.size, 2, none⟩ = some (.int .i64 0) ∧ w8.heap.size < w'.heap.size) ∧ (w'.cell? ⟨B5, 0, none⟩ = some (.int .i64 1) ∧ w'.cell? ⟨B5, 1, none⟩ = some (.int .i64 y) ∧ w'.cell? ⟨B5, 2, none⟩ = some (.int .i64 0) ∧ B5 < w'.heap.size) ∧ Below w.heap.size w w')
    case first =>
      go_region_held3 (fun w' => (w'.cell? ⟨w8.heap.size, 0, none⟩ = some (.int .i64 1) ∧ w'.cell? ⟨w8.heap.size, 1, none⟩ = some (.int .i64 z) ∧ w'.cell? ⟨w8.heap.size, 2, none⟩ = some (.int .i64 0) ∧ w8.heap.size < w'.heap.size))
        (first | with_reducible exact callS1 hv1 (by assumption) | with_reducible exact allocS1 (by assumption) | with_reducible exact setS1 (by assumption) (by go_light; omega) | with_reducible exact reallocS1 (by assumption) (by go_light; omega) | (go_simp; done))
        (first | (go_at_call 11; refine (of_to _ _).mono ?_; rintro e v1 ⟨rfl, hv1⟩; obtain ⟨hc1, hf1⟩ := bcell hv1; have hz1 := bsize hv1; try simp only [World.size_alloc, World.size_drew, World.cell?_drew, World.frozen?_drew, Nat.add_one_le_iff] at hz1 hc1 hf1) | (go_at_call 10; refine (bin_to 17 1 a 0 1 z 0 1 y 0 true _ H4.out).mono ?_; rintro e v1 ⟨rfl, hv1⟩; obtain ⟨hc1, hf1⟩ := bcell hv1; have hz1 := bsize hv1; try simp only [World.size_alloc, World.size_drew, World.cell?_drew, World.frozen?_drew, Nat.add_one_le_iff] at hz1 hc1 hf1))
      all_goals
        go_wp2_with fail
        go_meet
        case rel =>
          rename_i hH
          exact ⟨_, rfl, by go_light; first | exact hRz | omega, C3.mk' (by go_simp) (by go_simp) (by go_simp), hH, C3.call yH (by repeat (first | exact Below.refl _ _ | assumption | refine bel_alloc ?_ _ | refine Below.drew ?_ | refine bel_set ?_ (by go_light; first | (simp; done) | (simp; omega) | omega) _ | refine bel_trans ?_ (by assumption))), (by repeat (first | exact Below.refl _ _ | assumption | refine bel_alloc ?_ _ | refine Below.drew ?_ | refine bel_set ?_ (by go_light; first | (simp; done) | (simp; omega) | omega) _ | refine bel_trans ?_ (by assumption)))⟩
    case rest =>
      clear yH
      obtain ⟨B9, rfl, gG, ⟨g0, g1, g2, gL⟩, ⟨z0, z1, z2, zL⟩, ⟨y0, y1, y2, yL⟩, hw9⟩ := hcut
      go_wp2_with fail
      refine (of_to _ _).mono ?_
      rintro e w10 ⟨rfl, hb10⟩
      replace y0 : w10.cell? ⟨B5, 0, none⟩ = some (.int .i64 1) := keep_cell hb10 (by go_simp)
      replace y1 : w10.cell? ⟨B5, 1, none⟩ = some (.int .i64 y) := keep_cell hb10 (by go_simp)
      replace y2 : w10.cell? ⟨B5, 2, none⟩ = some (.int .i64 0) := keep_cell hb10 (by go_simp)
      replace yL : B5 < w10.heap.size := block_lt_of_cell y0
      replace g0 : w10.cell? ⟨B9, 0, none⟩ = some (.int .i64 1) := keep_cell hb10 (by go_simp)
      replace g1 : w10.cell? ⟨B9, 1, none⟩ = some (.int .i64 y) := keep_cell hb10 (by go_simp)
      replace g2 : w10.cell? ⟨B9, 2, none⟩ = some (.int .i64 0) := keep_cell hb10 (by go_simp)
      replace gL : B9 < w10.heap.size := block_lt_of_cell g0
      go_wp2_with fail
      refine (of_to _ _).mono ?_
      rintro e w11 ⟨rfl, hb11⟩
      replace y0 : w11.cell? ⟨B5, 0, none⟩ = some (.int .i64 1) := keep_cell hb11 (by go_simp)
      replace y1 : w11.cell? ⟨B5, 1, none⟩ = some (.int .i64 y) := keep_cell hb11 (by go_simp)
      replace y2 : w11.cell? ⟨B5, 2, none⟩ = some (.int .i64 0) := keep_cell hb11 (by go_simp)
      replace yL : B5 < w11.heap.size := block_lt_of_cell y0
      replace g0 : w11.cell? ⟨B9, 0, none⟩ = some (.int .i64 1) := keep_cell hb11 (by go_simp)
      replace g1 : w11.cell? ⟨B9, 1, none⟩ = some (.int .i64 y) := keep_cell hb11 (by go_simp)
      replace g2 : w11.cell? ⟨B9, 2, none⟩ = some (.int .i64 0) := keep_cell hb11 (by go_simp)
      replace gL : B9 < w11.heap.size := block_lt_of_cell g0
      go_wp2_with fail
      refine (bin_to 11 1 b 0 1 c 0 1 s 0 true _ H5.out).mono ?_
      rintro e w12 ⟨rfl, hb12⟩
      replace y0 : w12.cell? ⟨B5, 0, none⟩ = some (.int .i64 1) := keep_cell hb12 (by go_simp)
      replace y1 : w12.cell? ⟨B5, 1, none⟩ = some (.int .i64 y) := keep_cell hb12 (by go_simp)
      replace y2 : w12.cell? ⟨B5, 2, none⟩ = some (.int .i64 0) := keep_cell hb12 (by go_simp)
      replace yL : B5 < w12.heap.size := block_lt_of_cell y0
      replace g0 : w12.cell? ⟨B9, 0, none⟩ = some (.int .i64 1) := keep_cell hb12 (by go_simp)
      replace g1 : w12.cell? ⟨B9, 1, none⟩ = some (.int .i64 y) := keep_cell hb12 (by go_simp)
      replace g2 : w12.cell? ⟨B9, 2, none⟩ = some (.int .i64 0) := keep_cell hb12 (by go_simp)
      replace gL : B9 < w12.heap.size := block_lt_of_cell g0
      go_wp2_with fail
      have hRz : w.heap.size ≤ w12.heap.size := Below.size (show Below w.heap.size w w12 from (by repeat (first | exact Below.refl _ _ | refine bel_alloc ?_ _ | refine bel_set ?_ (by first | exact Nat.le_refl _ | (simp; done) | (simp; omega)) _ | refine Below.drew ?_ | refine bel_trans ?_ (by assumption))))
      have yH : C3 (w12.alloc (.cells #[.int .i64 1, .int .i64 s, .int .i64 0] 24)) (B5) 1 y 0 := C3.alloc (C3.mk' y0 y1 y2) _
      have gH : C3 (w12.alloc (.cells #[.int .i64 1, .int .i64 s, .int .i64 0] 24)) (B9) 1 y 0 := C3.alloc (C3.mk' g0 g1 g2) _
      go_cut [19] (fun sv w' => ∃ B, sv = .pointer (some ⟨B, 0, none⟩) ∧ w.heap.size ≤ B ∧ (w'.cell? ⟨B, 0, none⟩ = some (.int .i64 1) ∧ w'.cell? ⟨B, 1, none⟩ = some (.int .i64 p) ∧ w'.cell? ⟨B, 2, none⟩ = some (.int .i64 0) ∧ B < w'.heap.size) ∧ (w'.cell? ⟨w12.heap.size, 0, none⟩ = some (.int .i64 1) ∧ w'.cell? ⟨w12.heap.size, 1, none⟩ = some (.int .i64 s) ∧ w'.cell? ⟨w12.heap.size, 2, none⟩ = some (.int .i64 0) ∧ w12.heap.size < w'.heap.size) ∧ (w'.cell? ⟨B5, 0, none⟩ = some (.int .i64 1) ∧ w'.cell? ⟨B5, 1, none⟩ = some (.int .i64 y) ∧ w'.cell? ⟨B5, 2, none⟩ = some (.int .i64 0) ∧ B5 < w'.heap.size) ∧ (w'.cell? ⟨B9, 0, none⟩ = some (.int .i64 1) ∧ w'.cell? ⟨B9, 1, none⟩ = some (.int .i64 y) ∧ w'.cell? ⟨B9, 2, none⟩ = some (.int .i64 0) ∧ B9 < w'.heap.size) ∧ Below w.heap.size w w')
      case first =>
        go_region_held3 (fun w' => (w'.cell? ⟨w12.heap.size, 0, none⟩ = some (.int .i64 1) ∧ w'.cell? ⟨w12.heap.size, 1, none⟩ = some (.int .i64 s) ∧ w'.cell? ⟨w12.heap.size, 2, none⟩ = some (.int .i64 0) ∧ w12.heap.size < w'.heap.size))
          (first | with_reducible exact callS1 hv1 (by assumption) | with_reducible exact allocS1 (by assumption) | with_reducible exact setS1 (by assumption) (by go_light; omega) | with_reducible exact reallocS1 (by assumption) (by go_light; omega) | (go_simp; done))
          (first | (go_at_call 11; refine (of_to _ _).mono ?_; rintro e v1 ⟨rfl, hv1⟩; obtain ⟨hc1, hf1⟩ := bcell hv1; have hz1 := bsize hv1; try simp only [World.size_alloc, World.size_drew, World.cell?_drew, World.frozen?_drew, Nat.add_one_le_iff] at hz1 hc1 hf1) | (go_at_call 10; refine (bin_to 13 1 a 0 1 s 0 1 p 0 true _ H6.out).mono ?_; rintro e v1 ⟨rfl, hv1⟩; obtain ⟨hc1, hf1⟩ := bcell hv1; have hz1 := bsize hv1; try simp only [World.size_alloc, World.size_drew, World.cell?_drew, World.frozen?_drew, Nat.add_one_le_iff] at hz1 hc1 hf1))
        all_goals
          go_wp2_with fail
          go_meet
          case rel =>
            rename_i hH
            exact ⟨_, rfl, by go_light; first | exact hRz | omega, C3.mk' (by go_simp) (by go_simp) (by go_simp), hH, C3.call yH (by repeat (first | exact Below.refl _ _ | assumption | refine bel_alloc ?_ _ | refine Below.drew ?_ | refine bel_set ?_ (by go_light; first | (simp; done) | (simp; omega) | omega) _ | refine bel_trans ?_ (by assumption))), C3.call gH (by repeat (first | exact Below.refl _ _ | assumption | refine bel_alloc ?_ _ | refine Below.drew ?_ | refine bel_set ?_ (by go_light; first | (simp; done) | (simp; omega) | omega) _ | refine bel_trans ?_ (by assumption))), (by repeat (first | exact Below.refl _ _ | assumption | refine bel_alloc ?_ _ | refine Below.drew ?_ | refine bel_set ?_ (by go_light; first | (simp; done) | (simp; omega) | omega) _ | refine bel_trans ?_ (by assumption)))⟩
      case rest =>
        clear yH gH
        obtain ⟨B13, rfl, pG, ⟨p0, p1, p2, pL⟩, ⟨s0, s1, s2, sL⟩, ⟨y0, y1, y2, yL⟩, ⟨g0, g1, g2, gL⟩, hw13⟩ := hcut
        go_wp2_with fail
        refine (of_to _ _).mono ?_
        rintro e w14 ⟨rfl, hb14⟩
        replace y0 : w14.cell? ⟨B5, 0, none⟩ = some (.int .i64 1) := keep_cell hb14 (by go_simp)
        replace y1 : w14.cell? ⟨B5, 1, none⟩ = some (.int .i64 y) := keep_cell hb14 (by go_simp)
        replace y2 : w14.cell? ⟨B5, 2, none⟩ = some (.int .i64 0) := keep_cell hb14 (by go_simp)
        replace yL : B5 < w14.heap.size := block_lt_of_cell y0
        replace g0 : w14.cell? ⟨B9, 0, none⟩ = some (.int .i64 1) := keep_cell hb14 (by go_simp)
        replace g1 : w14.cell? ⟨B9, 1, none⟩ = some (.int .i64 y) := keep_cell hb14 (by go_simp)
        replace g2 : w14.cell? ⟨B9, 2, none⟩ = some (.int .i64 0) := keep_cell hb14 (by go_simp)
        replace gL : B9 < w14.heap.size := block_lt_of_cell g0
        replace p0 : w14.cell? ⟨B13, 0, none⟩ = some (.int .i64 1) := keep_cell hb14 (by go_simp)
        replace p1 : w14.cell? ⟨B13, 1, none⟩ = some (.int .i64 p) := keep_cell hb14 (by go_simp)
        replace p2 : w14.cell? ⟨B13, 2, none⟩ = some (.int .i64 0) := keep_cell hb14 (by go_simp)
        replace pL : B13 < w14.heap.size := block_lt_of_cell p0
        go_wp2_with fail
        refine (of_to _ _).mono ?_
        rintro e w15 ⟨rfl, hb15⟩
        replace y0 : w15.cell? ⟨B5, 0, none⟩ = some (.int .i64 1) := keep_cell hb15 (by go_simp)
        replace y1 : w15.cell? ⟨B5, 1, none⟩ = some (.int .i64 y) := keep_cell hb15 (by go_simp)
        replace y2 : w15.cell? ⟨B5, 2, none⟩ = some (.int .i64 0) := keep_cell hb15 (by go_simp)
        replace yL : B5 < w15.heap.size := block_lt_of_cell y0
        replace g0 : w15.cell? ⟨B9, 0, none⟩ = some (.int .i64 1) := keep_cell hb15 (by go_simp)
        replace g1 : w15.cell? ⟨B9, 1, none⟩ = some (.int .i64 y) := keep_cell hb15 (by go_simp)
        replace g2 : w15.cell? ⟨B9, 2, none⟩ = some (.int .i64 0) := keep_cell hb15 (by go_simp)
        replace gL : B9 < w15.heap.size := block_lt_of_cell g0
        replace p0 : w15.cell? ⟨B13, 0, none⟩ = some (.int .i64 1) := keep_cell hb15 (by go_simp)
        replace p1 : w15.cell? ⟨B13, 1, none⟩ = some (.int .i64 p) := keep_cell hb15 (by go_simp)
        replace p2 : w15.cell? ⟨B13, 2, none⟩ = some (.int .i64 0) := keep_cell hb15 (by go_simp)
        replace pL : B13 < w15.heap.size := block_lt_of_cell p0
        go_wp2_with fail
        refine (bin_to 13 1 a 0 1 b 0 1 q 0 true _ H7.out).mono ?_
        rintro e w16 ⟨rfl, hb16⟩
        replace y0 : w16.cell? ⟨B5, 0, none⟩ = some (.int .i64 1) := keep_cell hb16 (by go_simp)
        replace y1 : w16.cell? ⟨B5, 1, none⟩ = some (.int .i64 y) := keep_cell hb16 (by go_simp)
        replace y2 : w16.cell? ⟨B5, 2, none⟩ = some (.int .i64 0) := keep_cell hb16 (by go_simp)
        replace yL : B5 < w16.heap.size := block_lt_of_cell y0
        replace g0 : w16.cell? ⟨B9, 0, none⟩ = some (.int .i64 1) := keep_cell hb16 (by go_simp)
        replace g1 : w16.cell? ⟨B9, 1, none⟩ = some (.int .i64 y) := keep_cell hb16 (by go_simp)
        replace g2 : w16.cell? ⟨B9, 2, none⟩ = some (.int .i64 0) := keep_cell hb16 (by go_simp)
        replace gL : B9 < w16.heap.size := block_lt_of_cell g0
        replace p0 : w16.cell? ⟨B13, 0, none⟩ = some (.int .i64 1) := keep_cell hb16 (by go_simp)
        replace p1 : w16.cell? ⟨B13, 1, none⟩ = some (.int .i64 p) := keep_cell hb16 (by go_simp)
        replace p2 : w16.cell? ⟨B13, 2, none⟩ = some (.int .i64 0) := keep_cell hb16 (by go_simp)
        replace pL : B13 < w16.heap.size := block_lt_of_cell p0
        go_wp2_with fail
        refine (of_to _ _).mono ?_
        rintro e w17 ⟨rfl, hb17⟩
        replace y0 : w17.cell? ⟨B5, 0, none⟩ = some (.int .i64 1) := keep_cell hb17 (by go_simp)
        replace y1 : w17.cell? ⟨B5, 1, none⟩ = some (.int .i64 y) := keep_cell hb17 (by go_simp)
        replace y2 : w17.cell? ⟨B5, 2, none⟩ = some (.int .i64 0) := keep_cell hb17 (by go_simp)
        replace yL : B5 < w17.heap.size := block_lt_of_cell y0
        replace g0 : w17.cell? ⟨B9, 0, none⟩ = some (.int .i64 1) := keep_cell hb17 (by go_simp)
        replace g1 : w17.cell? ⟨B9, 1, none⟩ = some (.int .i64 y) := keep_cell hb17 (by go_simp)
        replace g2 : w17.cell? ⟨B9, 2, none⟩ = some (.int .i64 0) := keep_cell hb17 (by go_simp)
        replace gL : B9 < w17.heap.size := block_lt_of_cell g0
        replace p0 : w17.cell? ⟨B13, 0, none⟩ = some (.int .i64 1) := keep_cell hb17 (by go_simp)
        replace p1 : w17.cell? ⟨B13, 1, none⟩ = some (.int .i64 p) := keep_cell hb17 (by go_simp)
        replace p2 : w17.cell? ⟨B13, 2, none⟩ = some (.int .i64 0) := keep_cell hb17 (by go_simp)
        replace pL : B13 < w17.heap.size := block_lt_of_cell p0
        have q0 : w17.cell? ⟨w16.heap.size, 0, none⟩ = some (.int .i64 1) := keep_cell hb17 (by go_simp)
        have q1 : w17.cell? ⟨w16.heap.size, 1, none⟩ = some (.int .i64 q) := keep_cell hb17 (by go_simp)
        have q2 : w17.cell? ⟨w16.heap.size, 2, none⟩ = some (.int .i64 0) := keep_cell hb17 (by go_simp)
        have qL : w16.heap.size < w17.heap.size := block_lt_of_cell q0
        go_wp2_with fail
        refine (of_to _ _).mono ?_
        rintro e w18 ⟨rfl, hb18⟩
        replace y0 : w18.cell? ⟨B5, 0, none⟩ = some (.int .i64 1) := keep_cell hb18 (by go_simp)
        replace y1 : w18.cell? ⟨B5, 1, none⟩ = some (.int .i64 y) := keep_cell hb18 (by go_simp)
        replace y2 : w18.cell? ⟨B5, 2, none⟩ = some (.int .i64 0) := keep_cell hb18 (by go_simp)
        replace yL : B5 < w18.heap.size := block_lt_of_cell y0
        replace g0 : w18.cell? ⟨B9, 0, none⟩ = some (.int .i64 1) := keep_cell hb18 (by go_simp)
        replace g1 : w18.cell? ⟨B9, 1, none⟩ = some (.int .i64 y) := keep_cell hb18 (by go_simp)
        replace g2 : w18.cell? ⟨B9, 2, none⟩ = some (.int .i64 0) := keep_cell hb18 (by go_simp)
        replace gL : B9 < w18.heap.size := block_lt_of_cell g0
        replace p0 : w18.cell? ⟨B13, 0, none⟩ = some (.int .i64 1) := keep_cell hb18 (by go_simp)
        replace p1 : w18.cell? ⟨B13, 1, none⟩ = some (.int .i64 p) := keep_cell hb18 (by go_simp)
        replace p2 : w18.cell? ⟨B13, 2, none⟩ = some (.int .i64 0) := keep_cell hb18 (by go_simp)
        replace pL : B13 < w18.heap.size := block_lt_of_cell p0
        replace q0 : w18.cell? ⟨w16.heap.size, 0, none⟩ = some (.int .i64 1) := keep_cell hb18 (by go_simp)
        replace q1 : w18.cell? ⟨w16.heap.size, 1, none⟩ = some (.int .i64 q) := keep_cell hb18 (by go_simp)
        replace q2 : w18.cell? ⟨w16.heap.size, 2, none⟩ = some (.int .i64 0) := keep_cell hb18 (by go_simp)
        replace qL : w16.heap.size < w18.heap.size := block_lt_of_cell q0
        go_wp2_with fail
        refine (bin_to 13 1 a 0 1 c 0 1 r 0 true _ H8.out).mono ?_
        rintro e w19 ⟨rfl, hb19⟩
        replace y0 : w19.cell? ⟨B5, 0, none⟩ = some (.int .i64 1) := keep_cell hb19 (by go_simp)
        replace y1 : w19.cell? ⟨B5, 1, none⟩ = some (.int .i64 y) := keep_cell hb19 (by go_simp)
        replace y2 : w19.cell? ⟨B5, 2, none⟩ = some (.int .i64 0) := keep_cell hb19 (by go_simp)
        replace yL : B5 < w19.heap.size := block_lt_of_cell y0
        replace g0 : w19.cell? ⟨B9, 0, none⟩ = some (.int .i64 1) := keep_cell hb19 (by go_simp)
        replace g1 : w19.cell? ⟨B9, 1, none⟩ = some (.int .i64 y) := keep_cell hb19 (by go_simp)
        replace g2 : w19.cell? ⟨B9, 2, none⟩ = some (.int .i64 0) := keep_cell hb19 (by go_simp)
        replace gL : B9 < w19.heap.size := block_lt_of_cell g0
        replace p0 : w19.cell? ⟨B13, 0, none⟩ = some (.int .i64 1) := keep_cell hb19 (by go_simp)
        replace p1 : w19.cell? ⟨B13, 1, none⟩ = some (.int .i64 p) := keep_cell hb19 (by go_simp)
        replace p2 : w19.cell? ⟨B13, 2, none⟩ = some (.int .i64 0) := keep_cell hb19 (by go_simp)
        replace pL : B13 < w19.heap.size := block_lt_of_cell p0
        replace q0 : w19.cell? ⟨w16.heap.size, 0, none⟩ = some (.int .i64 1) := keep_cell hb19 (by go_simp)
        replace q1 : w19.cell? ⟨w16.heap.size, 1, none⟩ = some (.int .i64 q) := keep_cell hb19 (by go_simp)
        replace q2 : w19.cell? ⟨w16.heap.size, 2, none⟩ = some (.int .i64 0) := keep_cell hb19 (by go_simp)
        replace qL : w16.heap.size < w19.heap.size := block_lt_of_cell q0
        go_wp2_with fail
        refine (bin_to 11 1 q 0 1 r 0 1 p 0 true _ H9.out).mono ?_
        rintro e w20 ⟨rfl, hb20⟩
        replace y0 : w20.cell? ⟨B5, 0, none⟩ = some (.int .i64 1) := keep_cell hb20 (by go_simp)
        replace y1 : w20.cell? ⟨B5, 1, none⟩ = some (.int .i64 y) := keep_cell hb20 (by go_simp)
        replace y2 : w20.cell? ⟨B5, 2, none⟩ = some (.int .i64 0) := keep_cell hb20 (by go_simp)
        replace yL : B5 < w20.heap.size := block_lt_of_cell y0
        replace g0 : w20.cell? ⟨B9, 0, none⟩ = some (.int .i64 1) := keep_cell hb20 (by go_simp)
        replace g1 : w20.cell? ⟨B9, 1, none⟩ = some (.int .i64 y) := keep_cell hb20 (by go_simp)
        replace g2 : w20.cell? ⟨B9, 2, none⟩ = some (.int .i64 0) := keep_cell hb20 (by go_simp)
        replace gL : B9 < w20.heap.size := block_lt_of_cell g0
        replace p0 : w20.cell? ⟨B13, 0, none⟩ = some (.int .i64 1) := keep_cell hb20 (by go_simp)
        replace p1 : w20.cell? ⟨B13, 1, none⟩ = some (.int .i64 p) := keep_cell hb20 (by go_simp)
        replace p2 : w20.cell? ⟨B13, 2, none⟩ = some (.int .i64 0) := keep_cell hb20 (by go_simp)
        replace pL : B13 < w20.heap.size := block_lt_of_cell p0
        replace q0 : w20.cell? ⟨w16.heap.size, 0, none⟩ = some (.int .i64 1) := keep_cell hb20 (by go_simp)
        replace q1 : w20.cell? ⟨w16.heap.size, 1, none⟩ = some (.int .i64 q) := keep_cell hb20 (by go_simp)
        replace q2 : w20.cell? ⟨w16.heap.size, 2, none⟩ = some (.int .i64 0) := keep_cell hb20 (by go_simp)
        replace qL : w16.heap.size < w20.heap.size := block_lt_of_cell q0
        have r0 : w20.cell? ⟨w19.heap.size, 0, none⟩ = some (.int .i64 1) := keep_cell hb20 (by go_simp)
        have r1 : w20.cell? ⟨w19.heap.size, 1, none⟩ = some (.int .i64 r) := keep_cell hb20 (by go_simp)
        have r2 : w20.cell? ⟨w19.heap.size, 2, none⟩ = some (.int .i64 0) := keep_cell hb20 (by go_simp)
        have rL : w19.heap.size < w20.heap.size := block_lt_of_cell r0
        go_wp2
        go_ret
        exact ⟨rfl, (by repeat (first | exact Below.refl _ _ | refine bel_alloc ?_ _ | refine bel_set ?_ (by first | exact Nat.le_refl _ | (simp; done) | (simp; omega)) _ | refine Below.drew ?_ | refine bel_trans ?_ (by assumption)))⟩

set_option maxRecDepth 100000 in
set_option maxHeartbeats 8000000 in
theorem chains_18 (a b c x y z s p q r : Int) (w : World) (ht : Tab w) (H1 : Hid (binF 18 ⟨1, a, 0⟩ ⟨1, b, 0⟩ = (⟨1, x, 0⟩, true))) (H2 : Hid (binF 18 ⟨1, x, 0⟩ ⟨1, c, 0⟩ = (⟨1, y, 0⟩, true))) (H3 : Hid (binF 18 ⟨1, b, 0⟩ ⟨1, c, 0⟩ = (⟨1, z, 0⟩, true))) (H4 : Hid (binF 18 ⟨1, a, 0⟩ ⟨1, z, 0⟩ = (⟨1, y, 0⟩, true)))
    (H5 : Hid (binF 11 ⟨1, b, 0⟩ ⟨1, c, 0⟩ = (⟨1, s, 0⟩, true))) (H6 : Hid (binF 13 ⟨1, a, 0⟩ ⟨1, s, 0⟩ = (⟨1, p, 0⟩, true))) (H7 : Hid (binF 13 ⟨1, a, 0⟩ ⟨1, b, 0⟩ = (⟨1, q, 0⟩, true))) (H8 : Hid (binF 13 ⟨1, a, 0⟩ ⟨1, c, 0⟩ = (⟨1, r, 0⟩, true))) (H9 : Hid (binF 11 ⟨1, q, 0⟩ ⟨1, r, 0⟩ = (⟨1, p, 0⟩, true))) :
    Calls Tryd.prog 7 #[.int .i64 a, .int .i64 b, .int .i64 c, .int .i64 18] w (retP (.bool true) w) := by
  go_enter Tryd.func7, Tryd.ntmps7
  go_wp2_with fail
  refine (awake_any _ ht).mono ?_
  rintro e w1 ⟨rfl, hb1⟩
  go_wp2_with fail
  refine (of_to _ _).mono ?_
  rintro e w2 ⟨rfl, hb2⟩
  go_wp2_with fail
  refine (of_to _ _).mono ?_
  rintro e w3 ⟨rfl, hb3⟩
  go_wp2_with fail
  refine (bin_to 18 1 a 0 1 b 0 1 x 0 true _ H1.out).mono ?_
  rintro e w4 ⟨rfl, hb4⟩
  go_wp2_with fail
  have hRz : w.heap.size ≤ w4.heap.size := Below.size (show Below w.heap.size w w4 from (by repeat (first | exact Below.refl _ _ | refine bel_alloc ?_ _ | refine bel_set ?_ (by first | exact Nat.le_refl _ | (simp; done) | (simp; omega)) _ | refine Below.drew ?_ | refine bel_trans ?_ (by assumption))))
  go_cut [11] (fun sv w' => ∃ B, sv = .pointer (some ⟨B, 0, none⟩) ∧ w.heap.size ≤ B ∧ (w'.cell? ⟨B, 0, none⟩ = some (.int .i64 1) ∧ w'.cell? ⟨B, 1, none⟩ = some (.int .i64 y) ∧ w'.cell? ⟨B, 2, none⟩ = some (.int .i64 0) ∧ B < w'.heap.size) ∧ (w'.cell? ⟨w4.heap.size, 0, none⟩ = some (.int .i64 1) ∧ w'.cell? ⟨w4.heap.size, 1, none⟩ = some (.int .i64 x) ∧ w'.cell? ⟨w4.heap.size, 2, none⟩ = some (.int .i64 0) ∧ w4.heap.size < w'.heap.size) ∧ Below w.heap.size w w')
  case first =>
    go_region_held3 (fun w' => (w'.cell? ⟨w4.heap.size, 0, none⟩ = some (.int .i64 1) ∧ w'.cell? ⟨w4.heap.size, 1, none⟩ = some (.int .i64 x) ∧ w'.cell? ⟨w4.heap.size, 2, none⟩ = some (.int .i64 0) ∧ w4.heap.size < w'.heap.size))
      (first | with_reducible exact callS1 hv1 (by assumption) | with_reducible exact allocS1 (by assumption) | with_reducible exact setS1 (by assumption) (by go_light; omega) | with_reducible exact reallocS1 (by assumption) (by go_light; omega) | (go_simp; done))
      (first | (go_at_call 11; refine (of_to _ _).mono ?_; rintro e v1 ⟨rfl, hv1⟩; obtain ⟨hc1, hf1⟩ := bcell hv1; have hz1 := bsize hv1; try simp only [World.size_alloc, World.size_drew, World.cell?_drew, World.frozen?_drew, Nat.add_one_le_iff] at hz1 hc1 hf1) | (go_at_call 10; refine (bin_to 18 1 x 0 1 c 0 1 y 0 true _ H2.out).mono ?_; rintro e v1 ⟨rfl, hv1⟩; obtain ⟨hc1, hf1⟩ := bcell hv1; have hz1 := bsize hv1; try simp only [World.size_alloc, World.size_drew, World.cell?_drew, World.frozen?_drew, Nat.add_one_le_iff] at hz1 hc1 hf1))
    all_goals
      go_wp2_with fail
      go_meet
      case rel =>
        rename_i hH
        exact ⟨_, rfl, by go_light; first | exact hRz | omega, C3.mk' (by go_simp) (by go_simp) (by go_simp), hH, (by repeat (first | exact Below.refl _ _ | assumption | refine bel_alloc ?_ _ | refine Below.drew ?_ | refine bel_set ?_ (by go_light; first | (simp; done) | (simp; omega) | omega) _ | refine bel_trans ?_ (by assumption)))⟩
  case rest =>
    obtain ⟨B5, rfl, yG, ⟨y0, y1, y2, yL⟩, ⟨x0, x1, x2, xL⟩, hw5⟩ := hcut
    go_wp2_with fail
    refine (of_to _ _).mono ?_
    rintro e w6 ⟨rfl, hb6⟩
    replace y0 : w6.cell? ⟨B5, 0, none⟩ = some (.int .i64 1) := keep_cell hb6 (by go_simp)
    replace y1 : w6.cell? ⟨B5, 1, none⟩ = some (.int .i64 y) := keep_cell hb6 (by go_simp)
    replace y2 : w6.cell? ⟨B5, 2, none⟩ = some (.int .i64 0) := keep_cell hb6 (by go_simp)
    replace yL : B5 < w6.heap.size := block_lt_of_cell y0
    go_wp2_with fail
    refine (of_to _ _).mono ?_
    rintro e w7 ⟨rfl, hb7⟩
    replace y0 : w7.cell? ⟨B5, 0, none⟩ = some (.int .i64 1) := keep_cell hb7 (by go_simp)
    replace y1 : w7.cell? ⟨B5, 1, none⟩ = some (.int .i64 y) := keep_cell hb7 (by go_simp)
    replace y2 : w7.cell? ⟨B5, 2, none⟩ = some (.int .i64 0) := keep_cell hb7 (by go_simp)
    replace yL : B5 < w7.heap.size := block_lt_of_cell y0
    go_wp2_with fail
    refine (bin_to 18 1 b 0 1 c 0 1 z 0 true _ H3.out).mono ?_
    rintro e w8 ⟨rfl, hb8⟩
    replace y0 : w8.cell? ⟨B5, 0, none⟩ = some (.int .i64 1) := keep_cell hb8 (by go_simp)
    replace y1 : w8.cell? ⟨B5, 1, none⟩ = some (.int .i64 y) := keep_cell hb8 (by go_simp)
    replace y2 : w8.cell? ⟨B5, 2, none⟩ = some (.int .i64 0) := keep_cell hb8 (by go_simp)
    replace yL : B5 < w8.heap.size := block_lt_of_cell y0
    go_wp2_with fail
    have hRz : w.heap.size ≤ w8.heap.size := Below.size (show Below w.heap.size w w8 from (by repeat (first | exact Below.refl _ _ | refine bel_alloc ?_ _ | refine bel_set ?_ (by first | exact Nat.le_refl _ | (simp; done) | (simp; omega)) _ | refine Below.drew ?_ | refine bel_trans ?_ (by assumption))))
    have yH : C3 (w8.alloc (.cells #[.int .i64 1, .int .i64 z, .int .i64 0] 24)) (B5) 1 y 0 := C3.alloc (C3.mk' y0 y1 y2) _
    go_cut [15] (fun sv w' => ∃ B, sv = .pointer (some ⟨B, 0, none⟩) ∧ w.heap.size ≤ B ∧ (w'.cell? ⟨B, 0, none⟩ = some (.int .i64 1) ∧ w'.cell? ⟨B, 1, none⟩ = some (.int .i64 y) ∧ w'.cell? ⟨B, 2, none⟩ = some (.int .i64 0) ∧ B < w'.heap.size) ∧ (w'.cell? ⟨w8.heap.size, 0, none⟩ = some (.int .i64 1) ∧ w'.cell? ⟨w8.heap.size, 1, none⟩ = some (.int .i64 z) ∧ w'.cell? ⟨w8.heap.size, 2, none⟩ = some (.int .i64 0) ∧ w8.heap.size < w'.heap.size) ∧ (w'.cell? ⟨B5, 0, none⟩ = some (.int .i64 1) ∧ w'.cell? ⟨B5, 1, none⟩ = some (.int .i64 y) ∧ w'.cell? ⟨B5, 2, none⟩ = some (.int .i64 0) ∧ B5 < w'.heap.size) ∧ Below w.heap.size w w')
    case first =>
      go_region_held3 (fun w' => (w'.cell? ⟨w8.heap.size, 0, none⟩ = some (.int .i64 1) ∧ w'.cell? ⟨w8.heap.size, 1, none⟩ = some (.int .i64 z) ∧ w'.cell? ⟨w8.heap.size, 2, none⟩ = some (.int .i64 0) ∧ w8.heap.size < w'.heap.size))
        (first | with_reducible exact callS1 hv1 (by assumption) | with_reducible exact allocS1 (by assumption) | with_reducible exact setS1 (by assumption) (by go_light; omega) | with_reducible exact reallocS1 (by assumption) (by go_light; omega) | (go_simp; done))
        (first | (go_at_call 11; refine (of_to _ _).mono ?_; rintro e v1 ⟨rfl, hv1⟩; obtain ⟨hc1, hf1⟩ := bcell hv1; have hz1 := bsize hv1; try simp only [World.size_alloc, World.size_drew, World.cell?_drew, World.frozen?_drew, Nat.add_one_le_iff] at hz1 hc1 hf1) | (go_at_call 10; refine (bin_to 18 1 a 0 1 z 0 1 y 0 true _ H4.out).mono ?_; rintro e v1 ⟨rfl, hv1⟩; obtain ⟨hc1, hf1⟩ := bcell hv1; have hz1 := bsize hv1; try simp only [World.size_alloc, World.size_drew, World.cell?_drew, World.frozen?_drew, Nat.add_one_le_iff] at hz1 hc1 hf1))
      all_goals
        go_wp2_with fail
        go_meet
        case rel =>
          rename_i hH
          exact ⟨_, rfl, by go_light; first | exact hRz | omega, C3.mk' (by go_simp) (by go_simp) (by go_simp), hH, C3.call yH (by repeat (first | exact Below.refl _ _ | assumption | refine bel_alloc ?_ _ | refine Below.drew ?_ | refine bel_set ?_ (by go_light; first | (simp; done) | (simp; omega) | omega) _ | refine bel_trans ?_ (by assumption))), (by repeat (first | exact Below.refl _ _ | assumption | refine bel_alloc ?_ _ | refine Below.drew ?_ | refine bel_set ?_ (by go_light; first | (simp; done) | (simp; omega) | omega) _ | refine bel_trans ?_ (by assumption)))⟩
    case rest =>
      clear yH
      obtain ⟨B9, rfl, gG, ⟨g0, g1, g2, gL⟩, ⟨z0, z1, z2, zL⟩, ⟨y0, y1, y2, yL⟩, hw9⟩ := hcut
      go_wp2_with fail
      refine (of_to _ _).mono ?_
      rintro e w10 ⟨rfl, hb10⟩
      replace y0 : w10.cell? ⟨B5, 0, none⟩ = some (.int .i64 1) := keep_cell hb10 (by go_simp)
      replace y1 : w10.cell? ⟨B5, 1, none⟩ = some (.int .i64 y) := keep_cell hb10 (by go_simp)
      replace y2 : w10.cell? ⟨B5, 2, none⟩ = some (.int .i64 0) := keep_cell hb10 (by go_simp)
      replace yL : B5 < w10.heap.size := block_lt_of_cell y0
      replace g0 : w10.cell? ⟨B9, 0, none⟩ = some (.int .i64 1) := keep_cell hb10 (by go_simp)
      replace g1 : w10.cell? ⟨B9, 1, none⟩ = some (.int .i64 y) := keep_cell hb10 (by go_simp)
      replace g2 : w10.cell? ⟨B9, 2, none⟩ = some (.int .i64 0) := keep_cell hb10 (by go_simp)
      replace gL : B9 < w10.heap.size := block_lt_of_cell g0
      go_wp2_with fail
      refine (of_to _ _).mono ?_
      rintro e w11 ⟨rfl, hb11⟩
      replace y0 : w11.cell? ⟨B5, 0, none⟩ = some (.int .i64 1) := keep_cell hb11 (by go_simp)
      replace y1 : w11.cell? ⟨B5, 1, none⟩ = some (.int .i64 y) := keep_cell hb11 (by go_simp)
      replace y2 : w11.cell? ⟨B5, 2, none⟩ = some (.int .i64 0) := keep_cell hb11 (by go_simp)
      replace yL : B5 < w11.heap.size := block_lt_of_cell y0
      replace g0 : w11.cell? ⟨B9, 0, none⟩ = some (.int .i64 1) := keep_cell hb11 (by go_simp)
      replace g1 : w11.cell? ⟨B9, 1, none⟩ = some (.int .i64 y) := keep_cell hb11 (by go_simp)
      replace g2 : w11.cell? ⟨B9, 2, none⟩ = some (.int .i64 0) := keep_cell hb11 (by go_simp)
      replace gL : B9 < w11.heap.size := block_lt_of_cell g0
      go_wp2_with fail
      refine (bin_to 11 1 b 0 1 c 0 1 s 0 true _ H5.out).mono ?_
      rintro e w12 ⟨rfl, hb12⟩
      replace y0 : w12.cell? ⟨B5, 0, none⟩ = some (.int .i64 1) := keep_cell hb12 (by go_simp)
      replace y1 : w12.cell? ⟨B5, 1, none⟩ = some (.int .i64 y) := keep_cell hb12 (by go_simp)
      replace y2 : w12.cell? ⟨B5, 2, none⟩ = some (.int .i64 0) := keep_cell hb12 (by go_simp)
      replace yL : B5 < w12.heap.size := block_lt_of_cell y0
      replace g0 : w12.cell? ⟨B9, 0, none⟩ = some (.int .i64 1) := keep_cell hb12 (by go_simp)
      replace g1 : w12.cell? ⟨B9, 1, none⟩ = some (.int .i64 y) := keep_cell hb12 (by go_simp)
      replace g2 : w12.cell? ⟨B9, 2, none⟩ = some (.int .i64 0) := keep_cell hb12 (by go_simp)
      replace gL : B9 < w12.heap.size := block_lt_of_cell g0
      go_wp2_with fail
      have hRz : w.heap.size ≤ w12.heap.size := Below.size (show Below w.heap.size w w12 from (by repeat (first | exact Below.refl _ _ | refine bel_alloc ?_ _ | refine bel_set ?_ (by first | exact Nat.le_refl _ | (simp; done) | (simp; omega)) _ | refine Below.drew ?_ | refine bel_trans ?_ (by assumption))))
      have yH : C3 (w12.alloc (.cells #[.int .i64 1, .int .i64 s, .int .i64 0] 24)) (B5) 1 y 0 := C3.alloc (C3.mk' y0 y1 y2) _
      have gH : C3 (w12.alloc (.cells #[.int .i64 1, .int .i64 s, .int .i64 0] 24)) (B9) 1 y 0 := C3.alloc (C3.mk' g0 g1 g2) _
      go_cut [19] (fun sv w' => ∃ B, sv = .pointer (some ⟨B, 0, none⟩) ∧ w.heap.size ≤ B ∧ (w'.cell? ⟨B, 0, none⟩ = some (.int .i64 1) ∧ w'.cell? ⟨B, 1, none⟩ = some (.int .i64 p) ∧ w'.cell? ⟨B, 2, none⟩ = some (.int .i64 0) ∧ B < w'.heap.size) ∧ (w'.cell? ⟨w12.heap.size, 0, none⟩ = some (.int .i64 1) ∧ w'.cell? ⟨w12.heap.size, 1, none⟩ = some (.int .i64 s) ∧ w'.cell? ⟨w12.heap.size, 2, none⟩ = some (.int .i64 0) ∧ w12.heap.size < w'.heap.size) ∧ (w'.cell? ⟨B5, 0, none⟩ = some (.int .i64 1) ∧ w'.cell? ⟨B5, 1, none⟩ = some (.int .i64 y) ∧ w'.cell? ⟨B5, 2, none⟩ = some (.int .i64 0) ∧ B5 < w'.heap.size) ∧ (w'.cell? ⟨B9, 0, none⟩ = some (.int .i64 1) ∧ w'.cell? ⟨B9, 1, none⟩ = some (.int .i64 y) ∧ w'.cell? ⟨B9, 2, none⟩ = some (.int .i64 0) ∧ B9 < w'.heap.size) ∧ Below w.heap.size w w')
      case first =>
        go_region_held3 (fun w' => (w'.cell? ⟨w12.heap.size, 0, none⟩ = some (.int .i64 1) ∧ w'.cell? ⟨w12.heap.size, 1, none⟩ = some (.int .i64 s) ∧ w'.cell? ⟨w12.heap.size, 2, none⟩ = some (.int .i64 0) ∧ w12.heap.size < w'.heap.size))
          (first | with_reducible exact callS1 hv1 (by assumption) | with_reducible exact allocS1 (by assumption) | with_reducible exact setS1 (by assumption) (by go_light; omega) | with_reducible exact reallocS1 (by assumption) (by go_light; omega) | (go_simp; done))
          (first | (go_at_call 11; refine (of_to _ _).mono ?_; rintro e v1 ⟨rfl, hv1⟩; obtain ⟨hc1, hf1⟩ := bcell hv1; have hz1 := bsize hv1; try simp only [World.size_alloc, World.size_drew, World.cell?_drew, World.frozen?_drew, Nat.add_one_le_iff] at hz1 hc1 hf1) | (go_at_call 10; refine (bin_to 13 1 a 0 1 s 0 1 p 0 true _ H6.out).mono ?_; rintro e v1 ⟨rfl, hv1⟩; obtain ⟨hc1, hf1⟩ := bcell hv1; have hz1 := bsize hv1; try simp only [World.size_alloc, World.size_drew, World.cell?_drew, World.frozen?_drew, Nat.add_one_le_iff] at hz1 hc1 hf1))
        all_goals
          go_wp2_with fail
          go_meet
          case rel =>
            rename_i hH
            exact ⟨_, rfl, by go_light; first | exact hRz | omega, C3.mk' (by go_simp) (by go_simp) (by go_simp), hH, C3.call yH (by repeat (first | exact Below.refl _ _ | assumption | refine bel_alloc ?_ _ | refine Below.drew ?_ | refine bel_set ?_ (by go_light; first | (simp; done) | (simp; omega) | omega) _ | refine bel_trans ?_ (by assumption))), C3.call gH (by repeat (first | exact Below.refl _ _ | assumption | refine bel_alloc ?_ _ | refine Below.drew ?_ | refine bel_set ?_ (by go_light; first | (simp; done) | (simp; omega) | omega) _ | refine bel_trans ?_ (by assumption))), (by repeat (first | exact Below.refl _ _ | assumption | refine bel_alloc ?_ _ | refine Below.drew ?_ | refine bel_set ?_ (by go_light; first | (simp; done) | (simp; omega) | omega) _ | refine bel_trans ?_ (by assumption)))⟩
      case rest =>
        clear yH gH
        obtain ⟨B13, rfl, pG, ⟨p0, p1, p2, pL⟩, ⟨s0, s1, s2, sL⟩, ⟨y0, y1, y2, yL⟩, ⟨g0, g1, g2, gL⟩, hw13⟩ := hcut
        go_wp2_with fail
        refine (of_to _ _).mono ?_
        rintro e w14 ⟨rfl, hb14⟩
        replace y0 : w14.cell? ⟨B5, 0, none⟩ = some (.int .i64 1) := keep_cell hb14 (by go_simp)
        replace y1 : w14.cell? ⟨B5, 1, none⟩ = some (.int .i64 y) := keep_cell hb14 (by go_simp)
        replace y2 : w14.cell? ⟨B5, 2, none⟩ = some (.int .i64 0) := keep_cell hb14 (by go_simp)
        replace yL : B5 < w14.heap.size := block_lt_of_cell y0
        replace g0 : w14.cell? ⟨B9, 0, none⟩ = some (.int .i64 1) := keep_cell hb14 (by go_simp)
        replace g1 : w14.cell? ⟨B9, 1, none⟩ = some (.int .i64 y) := keep_cell hb14 (by go_simp)
        replace g2 : w14.cell? ⟨B9, 2, none⟩ = some (.int .i64 0) := keep_cell hb14 (by go_simp)
        replace gL : B9 < w14.heap.size := block_lt_of_cell g0
        replace p0 : w14.cell? ⟨B13, 0, none⟩ = some (.int .i64 1) := keep_cell hb14 (by go_simp)
        replace p1 : w14.cell? ⟨B13, 1, none⟩ = some (.int .i64 p) := keep_cell hb14 (by go_simp)
        replace p2 : w14.cell? ⟨B13, 2, none⟩ = some (.int .i64 0) := keep_cell hb14 (by go_simp)
        replace pL : B13 < w14.heap.size := block_lt_of_cell p0
        go_wp2_with fail
        refine (of_to _ _).mono ?_
        rintro e w15 ⟨rfl, hb15⟩
        replace y0 : w15.cell? ⟨B5, 0, none⟩ = some (.int .i64 1) := keep_cell hb15 (by go_simp)
        replace y1 : w15.cell? ⟨B5, 1, none⟩ = some (.int .i64 y) := keep_cell hb15 (by go_simp)
        replace y2 : w15.cell? ⟨B5, 2, none⟩ = some (.int .i64 0) := keep_cell hb15 (by go_simp)
        replace yL : B5 < w15.heap.size := block_lt_of_cell y0
        replace g0 : w15.cell? ⟨B9, 0, none⟩ = some (.int .i64 1) := keep_cell hb15 (by go_simp)
        replace g1 : w15.cell? ⟨B9, 1, none⟩ = some (.int .i64 y) := keep_cell hb15 (by go_simp)
        replace g2 : w15.cell? ⟨B9, 2, none⟩ = some (.int .i64 0) := keep_cell hb15 (by go_simp)
        replace gL : B9 < w15.heap.size := block_lt_of_cell g0
        replace p0 : w15.cell? ⟨B13, 0, none⟩ = some (.int .i64 1) := keep_cell hb15 (by go_simp)
        replace p1 : w15.cell? ⟨B13, 1, none⟩ = some (.int .i64 p) := keep_cell hb15 (by go_simp)
        replace p2 : w15.cell? ⟨B13, 2, none⟩ = some (.int .i64 0) := keep_cell hb15 (by go_simp)
        replace pL : B13 < w15.heap.size := block_lt_of_cell p0
        go_wp2_with fail
        refine (bin_to 13 1 a 0 1 b 0 1 q 0 true _ H7.out).mono ?_
        rintro e w16 ⟨rfl, hb16⟩
        replace y0 : w16.cell? ⟨B5, 0, none⟩ = some (.int .i64 1) := keep_cell hb16 (by go_simp)
        replace y1 : w16.cell? ⟨B5, 1, none⟩ = some (.int .i64 y) := keep_cell hb16 (by go_simp)
        replace y2 : w16.cell? ⟨B5, 2, none⟩ = some (.int .i64 0) := keep_cell hb16 (by go_simp)
        replace yL : B5 < w16.heap.size := block_lt_of_cell y0
        replace g0 : w16.cell? ⟨B9, 0, none⟩ = some (.int .i64 1) := keep_cell hb16 (by go_simp)
        replace g1 : w16.cell? ⟨B9, 1, none⟩ = some (.int .i64 y) := keep_cell hb16 (by go_simp)
        replace g2 : w16.cell? ⟨B9, 2, none⟩ = some (.int .i64 0) := keep_cell hb16 (by go_simp)
        replace gL : B9 < w16.heap.size := block_lt_of_cell g0
        replace p0 : w16.cell? ⟨B13, 0, none⟩ = some (.int .i64 1) := keep_cell hb16 (by go_simp)
        replace p1 : w16.cell? ⟨B13, 1, none⟩ = some (.int .i64 p) := keep_cell hb16 (by go_simp)
        replace p2 : w16.cell? ⟨B13, 2, none⟩ = some (.int .i64 0) := keep_cell hb16 (by go_simp)
        replace pL : B13 < w16.heap.size := block_lt_of_cell p0
        go_wp2_with fail
        refine (of_to _ _).mono ?_
        rintro e w17 ⟨rfl, hb17⟩
        replace y0 : w17.cell? ⟨B5, 0, none⟩ = some (.int .i64 1) := keep_cell hb17 (by go_simp)
        replace y1 : w17.cell? ⟨B5, 1, none⟩ = some (.int .i64 y) := keep_cell hb17 (by go_simp)
        replace y2 : w17.cell? ⟨B5, 2, none⟩ = some (.int .i64 0) := keep_cell hb17 (by go_simp)
        replace yL : B5 < w17.heap.size := block_lt_of_cell y0
        replace g0 : w17.cell? ⟨B9, 0, none⟩ = some (.int .i64 1) := keep_cell hb17 (by go_simp)
        replace g1 : w17.cell? ⟨B9, 1, none⟩ = some (.int .i64 y) := keep_cell hb17 (by go_simp)
        replace g2 : w17.cell? ⟨B9, 2, none⟩ = some (.int .i64 0) := keep_cell hb17 (by go_simp)
        replace gL : B9 < w17.heap.size := block_lt_of_cell g0
        replace p0 : w17.cell? ⟨B13, 0, none⟩ = some (.int .i64 1) := keep_cell hb17 (by go_simp)
        replace p1 : w17.cell? ⟨B13, 1, none⟩ = some (.int .i64 p) := keep_cell hb17 (by go_simp)
        replace p2 : w17.cell? ⟨B13, 2, none⟩ = some (.int .i64 0) := keep_cell hb17 (by go_simp)
        replace pL : B13 < w17.heap.size := block_lt_of_cell p0
        have q0 : w17.cell? ⟨w16.heap.size, 0, none⟩ = some (.int .i64 1) := keep_cell hb17 (by go_simp)
        have q1 : w17.cell? ⟨w16.heap.size, 1, none⟩ = some (.int .i64 q) := keep_cell hb17 (by go_simp)
        have q2 : w17.cell? ⟨w16.heap.size, 2, none⟩ = some (.int .i64 0) := keep_cell hb17 (by go_simp)
        have qL : w16.heap.size < w17.heap.size := block_lt_of_cell q0
        go_wp2_with fail
        refine (of_to _ _).mono ?_
        rintro e w18 ⟨rfl, hb18⟩
        replace y0 : w18.cell? ⟨B5, 0, none⟩ = some (.int .i64 1) := keep_cell hb18 (by go_simp)
        replace y1 : w18.cell? ⟨B5, 1, none⟩ = some (.int .i64 y) := keep_cell hb18 (by go_simp)
        replace y2 : w18.cell? ⟨B5, 2, none⟩ = some (.int .i64 0) := keep_cell hb18 (by go_simp)
        replace yL : B5 < w18.heap.size := block_lt_of_cell y0
        replace g0 : w18.cell? ⟨B9, 0, none⟩ = some (.int .i64 1) := keep_cell hb18 (by go_simp)
        replace g1 : w18.cell? ⟨B9, 1, none⟩ = some (.int .i64 y) := keep_cell hb18 (by go_simp)
        replace g2 : w18.cell? ⟨B9, 2, none⟩ = some (.int .i64 0) := keep_cell hb18 (by go_simp)
        replace gL : B9 < w18.heap.size := block_lt_of_cell g0
        replace p0 : w18.cell? ⟨B13, 0, none⟩ = some (.int .i64 1) := keep_cell hb18 (by go_simp)
        replace p1 : w18.cell? ⟨B13, 1, none⟩ = some (.int .i64 p) := keep_cell hb18 (by go_simp)
        replace p2 : w18.cell? ⟨B13, 2, none⟩ = some (.int .i64 0) := keep_cell hb18 (by go_simp)
        replace pL : B13 < w18.heap.size := block_lt_of_cell p0
        replace q0 : w18.cell? ⟨w16.heap.size, 0, none⟩ = some (.int .i64 1) := keep_cell hb18 (by go_simp)
        replace q1 : w18.cell? ⟨w16.heap.size, 1, none⟩ = some (.int .i64 q) := keep_cell hb18 (by go_simp)
        replace q2 : w18.cell? ⟨w16.heap.size, 2, none⟩ = some (.int .i64 0) := keep_cell hb18 (by go_simp)
        replace qL : w16.heap.size < w18.heap.size := block_lt_of_cell q0
        go_wp2_with fail
        refine (bin_to 13 1 a 0 1 c 0 1 r 0 true _ H8.out).mono ?_
        rintro e w19 ⟨rfl, hb19⟩
        replace y0 : w19.cell? ⟨B5, 0, none⟩ = some (.int .i64 1) := keep_cell hb19 (by go_simp)
        replace y1 : w19.cell? ⟨B5, 1, none⟩ = some (.int .i64 y) := keep_cell hb19 (by go_simp)
        replace y2 : w19.cell? ⟨B5, 2, none⟩ = some (.int .i64 0) := keep_cell hb19 (by go_simp)
        replace yL : B5 < w19.heap.size := block_lt_of_cell y0
        replace g0 : w19.cell? ⟨B9, 0, none⟩ = some (.int .i64 1) := keep_cell hb19 (by go_simp)
        replace g1 : w19.cell? ⟨B9, 1, none⟩ = some (.int .i64 y) := keep_cell hb19 (by go_simp)
        replace g2 : w19.cell? ⟨B9, 2, none⟩ = some (.int .i64 0) := keep_cell hb19 (by go_simp)
        replace gL : B9 < w19.heap.size := block_lt_of_cell g0
        replace p0 : w19.cell? ⟨B13, 0, none⟩ = some (.int .i64 1) := keep_cell hb19 (by go_simp)
        replace p1 : w19.cell? ⟨B13, 1, none⟩ = some (.int .i64 p) := keep_cell hb19 (by go_simp)
        replace p2 : w19.cell? ⟨B13, 2, none⟩ = some (.int .i64 0) := keep_cell hb19 (by go_simp)
        replace pL : B13 < w19.heap.size := block_lt_of_cell p0
        replace q0 : w19.cell? ⟨w16.heap.size, 0, none⟩ = some (.int .i64 1) := keep_cell hb19 (by go_simp)
        replace q1 : w19.cell? ⟨w16.heap.size, 1, none⟩ = some (.int .i64 q) := keep_cell hb19 (by go_simp)
        replace q2 : w19.cell? ⟨w16.heap.size, 2, none⟩ = some (.int .i64 0) := keep_cell hb19 (by go_simp)
        replace qL : w16.heap.size < w19.heap.size := block_lt_of_cell q0
        go_wp2_with fail
        refine (bin_to 11 1 q 0 1 r 0 1 p 0 true _ H9.out).mono ?_
        rintro e w20 ⟨rfl, hb20⟩
        replace y0 : w20.cell? ⟨B5, 0, none⟩ = some (.int .i64 1) := keep_cell hb20 (by go_simp)
        replace y1 : w20.cell? ⟨B5, 1, none⟩ = some (.int .i64 y) := keep_cell hb20 (by go_simp)
        replace y2 : w20.cell? ⟨B5, 2, none⟩ = some (.int .i64 0) := keep_cell hb20 (by go_simp)
        replace yL : B5 < w20.heap.size := block_lt_of_cell y0
        replace g0 : w20.cell? ⟨B9, 0, none⟩ = some (.int .i64 1) := keep_cell hb20 (by go_simp)
        replace g1 : w20.cell? ⟨B9, 1, none⟩ = some (.int .i64 y) := keep_cell hb20 (by go_simp)
        replace g2 : w20.cell? ⟨B9, 2, none⟩ = some (.int .i64 0) := keep_cell hb20 (by go_simp)
        replace gL : B9 < w20.heap.size := block_lt_of_cell g0
        replace p0 : w20.cell? ⟨B13, 0, none⟩ = some (.int .i64 1) := keep_cell hb20 (by go_simp)
        replace p1 : w20.cell? ⟨B13, 1, none⟩ = some (.int .i64 p) := keep_cell hb20 (by go_simp)
        replace p2 : w20.cell? ⟨B13, 2, none⟩ = some (.int .i64 0) := keep_cell hb20 (by go_simp)
        replace pL : B13 < w20.heap.size := block_lt_of_cell p0
        replace q0 : w20.cell? ⟨w16.heap.size, 0, none⟩ = some (.int .i64 1) := keep_cell hb20 (by go_simp)
        replace q1 : w20.cell? ⟨w16.heap.size, 1, none⟩ = some (.int .i64 q) := keep_cell hb20 (by go_simp)
        replace q2 : w20.cell? ⟨w16.heap.size, 2, none⟩ = some (.int .i64 0) := keep_cell hb20 (by go_simp)
        replace qL : w16.heap.size < w20.heap.size := block_lt_of_cell q0
        have r0 : w20.cell? ⟨w19.heap.size, 0, none⟩ = some (.int .i64 1) := keep_cell hb20 (by go_simp)
        have r1 : w20.cell? ⟨w19.heap.size, 1, none⟩ = some (.int .i64 r) := keep_cell hb20 (by go_simp)
        have r2 : w20.cell? ⟨w19.heap.size, 2, none⟩ = some (.int .i64 0) := keep_cell hb20 (by go_simp)
        have rL : w19.heap.size < w20.heap.size := block_lt_of_cell r0
        go_wp2
        go_ret
        exact ⟨rfl, (by repeat (first | exact Below.refl _ _ | refine bel_alloc ?_ _ | refine bel_set ?_ (by first | exact Nat.le_refl _ | (simp; done) | (simp; omega)) _ | refine Below.drew ?_ | refine bel_trans ?_ (by assumption)))⟩

set_option maxHeartbeats 1000000 in
theorem valChains_walk (a b c op : Int) (x0 : (Lit.int .i64 a).wf = true) (x1 : (Lit.int .i64 b).wf = true) (x2 : (Lit.int .i64 c).wf = true) (x3 : (Lit.int .i64 op).wf = true) (w : World) (ht : Tab w) :
    Calls Tryd.prog 7 #[.int .i64 a, .int .i64 b, .int .i64 c, .int .i64 op] w (retP (.bool true) w) := by
  have h5 := bin11 b c
  have h6 := bin13 a (wrap64 (b + c))
  have h7 := bin13 a b
  have h8 := bin13 a c
  have h9 := bin11 (wrap64 (a * b)) (wrap64 (a * c))
  rw [← distrib64] at h9
  by_cases g11 : op = 11
  · subst g11
    have h4 := bin11 a (wrap64 (b + c))
    rw [← add_assoc64] at h4
    exact chains_11 (w := w) (ht := ht) (H1 := bin11 a b) (H2 := bin11 _ c) (H3 := bin11 b c) (H4 := h4) (H5 := h5) (H6 := h6) (H7 := h7) (H8 := h8) (H9 := h9)
  by_cases g13 : op = 13
  · subst g13
    have h4 := bin13 a (wrap64 (b * c))
    rw [← mul_assoc64] at h4
    exact chains_13 (w := w) (ht := ht) (H1 := bin13 a b) (H2 := bin13 _ c) (H3 := bin13 b c) (H4 := h4) (H5 := h5) (H6 := h6) (H7 := h7) (H8 := h8) (H9 := h9)
  by_cases g16 : op = 16
  · subst g16
    have h4 := bin16 a (bits .and .i64 b c)
    rw [← and_assoc64] at h4
    exact chains_16 (w := w) (ht := ht) (H1 := bin16 a b) (H2 := bin16 _ c) (H3 := bin16 b c) (H4 := h4) (H5 := h5) (H6 := h6) (H7 := h7) (H8 := h8) (H9 := h9)
  by_cases g17 : op = 17
  · subst g17
    have h4 := bin17 a (bits .or .i64 b c)
    rw [← or_assoc64] at h4
    exact chains_17 (w := w) (ht := ht) (H1 := bin17 a b) (H2 := bin17 _ c) (H3 := bin17 b c) (H4 := h4) (H5 := h5) (H6 := h6) (H7 := h7) (H8 := h8) (H9 := h9)
  by_cases g18 : op = 18
  · subst g18
    have h4 := bin18 a (bits .xor .i64 b c)
    rw [← xor_assoc64] at h4
    exact chains_18 (w := w) (ht := ht) (H1 := bin18 a b) (H2 := bin18 _ c) (H3 := bin18 b c) (H4 := h4) (H5 := h5) (H6 := h6) (H7 := h7) (H8 := h8) (H9 := h9)
  clear h5 h6 h7 h8 h9
  have e11 : (op == 11) = false := by simp [g11]
  have e13 : (op == 13) = false := by simp [g13]
  have e16 : (op == 16) = false := by simp [g16]
  have e17 : (op == 17) = false := by simp [g17]
  have e18 : (op == 18) = false := by simp [g18]
  go_enter Tryd.func7, Tryd.ntmps7
  go_wp2_with fail
  refine (awake_any _ ht).mono ?_
  rintro e w1 ⟨rfl, hb1⟩
  go_wp2
  go_ret
  exact ⟨rfl, (by repeat (first | exact Below.refl _ _ | refine bel_alloc ?_ _ | refine bel_set ?_ (by first | exact Nat.le_refl _ | (simp; done) | (simp; omega)) _ | refine Below.drew ?_ | refine bel_trans ?_ (by assumption)))⟩

set_option maxRecDepth 100000 in
theorem valChains_lifted (os : Os) (started : os.Started) (H : Type) (enc : TypeId × Value → H) :
    ReturnsInHanded {} Tryd.checked os 7 .any (fun w args => (Rows.valChainsSpec.pre enc Tryd.prog Tryd.f7 [] false w args ∧ laidMetH Tryd.prog laid3 w) ∧ sizedMet enc Tryd.prog Tryd.f7 (OpenSpec.ofChange Rows.valChainsSpec) false w args)
      (Rows.valChainsSpec.post enc Tryd.prog Tryd.f7 false true false false) := by
  refine returnsInHanded_of_change_and (C := Tryd.checked) (X := fun w _ => laidMetH Tryd.prog laid3 w) (fun _ _ _ hh h => h.of_heap hh) own started (by kernel_rfl) Tryd.func7
    (ChangeSpec.witness_shaped (enc := enc) (C := Tryd.checked) (os := os) (X := fun w _ => laidMetH Tryd.prog laid3 w) false (World.doorLaid Tryd.prog 400 os) #[.int .i64 0, .int .i64 0, .int .i64 0, .int .i64 0] 8 rfl (World.shaped_of_RefB (by kernel_rfl) (by kernel_rfl)) (by kernel_rfl) (by kernel_rfl) (by kernel_rfl) (door_met os _)) ?_
  intro W base args ds gs before hval0 hW _ _ hL _
  have hval : ∀ (j : Nat) t v, Tryd.f7.params[j]? = some t → args[j]? = some v → Value.okWide Tryd.prog W .any base t v := hval0
  have hW' := hW
  obtain ⟨p, q, hA0, hV, rfl, hfz, hnd⟩ := hW
  have hA : DataW.TrodAll enc Tryd.prog W 0 (fun _ => true) true Tryd.f7.params.toList args.toList ds p := hA0
  rw [Tryd.params7] at hA hval
  obtain ⟨v0, vs0, d0, ds0, p0, q0, hargs, rfl, rfl, h0, r0⟩ := trodAll_cons hA
  obtain ⟨v1, vs1, d1, ds1, p1, q1, rfl, rfl, rfl, h1, r1⟩ := trodAll_cons r0
  obtain ⟨v2, vs2, d2, ds2, p2, q2, rfl, rfl, rfl, h2, r2⟩ := trodAll_cons r1
  obtain ⟨v3, vs3, d3, ds3, p3, q3, rfl, rfl, rfl, h3, r3⟩ := trodAll_cons r2
  obtain ⟨rfl, rfl, rfl⟩ := trodAll_nil r3
  obtain rfl : args = #[v0, v1, v2, v3] := by cases args; simp_all
  obtain ⟨rfl, rfl⟩ := trodVars_none hV
  obtain ⟨a0, rfl, rfl, rfl, x0⟩ := open_int Tryd.underlying2 (hval 0 2 v0 rfl rfl) h0
  obtain ⟨a1, rfl, rfl, rfl, x1⟩ := open_int Tryd.underlying2 (hval 1 2 v1 rfl rfl) h1
  obtain ⟨a2, rfl, rfl, rfl, x2⟩ := open_int Tryd.underlying2 (hval 2 2 v2 rfl rfl) h2
  obtain ⟨a3, rfl, rfl, rfl, x3⟩ := open_int Tryd.underlying3 (hval 3 3 v3 rfl rfl) h3
  clear hA0 hval0
  simp only [List.append_nil] at hW'
  refine (valChains_walk a0 a1 a2 a3 x0 x1 x2 x3 W (tab_of_laid hL)).mono fun e W' ⟨he, hb⟩ => ?_
  subst he
  exact ⟨_, rfl, _, _, _, [], [], [], hW', (trodAll_cons_mk (shut_bool Tryd.underlying4 _) trodAll_mk0), (trodAll_cons_mk (shut_int Tryd.underlying2 x0) (trodAll_cons_mk (shut_int Tryd.underlying2 x1) (trodAll_cons_mk (shut_int Tryd.underlying2 x2) (trodAll_cons_mk (shut_int Tryd.underlying3 x3) trodAll_mk0)))), rfl, hb.frame _, fun h => by cases h⟩

theorem valChains_row : Rows.ValChainsSaid :=
  OpenClaim.holds_of_wide 7 Tryd.f7 rfl rfl rfl rfl rfl rfl rfl ⟨rfl, rfl, rfl, rfl, rfl⟩ rfl rfl rfl rfl rfl (by kernel_rfl) Tryd.func7 (by kernel_rfl)
    (of_decide_eq_true (by kernel_rfl)) (by unfold Func.isWrapper; first | (rw [if_pos (by decide +kernel)]; kernel_rfl) | (rw [if_neg (by decide +kernel)]; exact ⟨rfl, rfl⟩))
    (fun os started H enc _ => valChains_lifted os started H enc)

/-- THE STATEMENT. -/
theorem valChains_holds : Rows.ValChainsCardSaid :=
  Claim7.holds_tied_plain_at .later [] [.data, .data, .data] true (true, "b1699b2cfa1c194e16e6121e9959784bdd3e976bd84cffeee05e479fe9b5bbbd") false
    valChains_row (fun _ h => by cases h) (by kernel_rfl) (fun _ h => by cases h) valChains_row_tie rfl ⟨rfl, rfl⟩ (by kernel_rfl) rfl
    (fun f fn hf hfn => by
      obtain rfl : f = 7 := Option.some.inj ((show Tryd.prog.funcNamed "plumbob/plumboblaw1.ValChains" = some 7 by kernel_rfl).symm.trans hf) |>.symm
      obtain rfl : fn = Tryd.f7 := (Option.some.inj (Tryd.func7.symm.trans hfn)).symm
      exact ⟨by kernel_rfl, fun j t ht => by
        rw [Tryd.params7] at ht
        have hm : t ∈ [2, 2, 2, 3] := by simpa using Array.mem_of_getElem? ht
        have hall : ([2, 2, 2, 3].all fun u => !Tryd.prog.wantsStandIn u) = true := by kernel_rfl
        exact (show Tryd.prog.wantsStandIn t = false by simpa using List.all_eq_true.1 hall t hm)⟩)
    (by kernel_rfl)
#print axioms valChains_holds

end Go.Proofs.YtfkalcfkbaimgaaDoor
