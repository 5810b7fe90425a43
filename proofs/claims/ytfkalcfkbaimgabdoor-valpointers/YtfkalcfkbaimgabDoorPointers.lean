/- For every block, byte, two numbers and any other value: a pointer with numbers added in any order is the same, its block never changes, pointers are the same just if block and byte are: the statement ValPointers returns true. Conditions: the three tables of the library that the row lists start as the program's text lays them (the card ties them). -/
import Derived.Test.YtfkalcfkbaimgabDoorDraw
import Derived.Test.YtfkalcfkbaimgabDoorLawsM
import Derived.Deep.QuietTactic
import Derived.BigQuiet
namespace Go.Proofs.YtfkalcfkbaimgabDoor
open Go.ChangeShapes Go.WideShapes Go.ChangeAt Go.RowKit Pl
set_option linter.unusedSimpArgs false
set_option linter.unusedVariables false

set_option maxRecDepth 100000 in
set_option maxHeartbeats 16000000 in
theorem pointers_core (k n a b ok on ob s1 s2 s3 s4 : Int) (w : World) (ht : Tab w) (hk : ¬ k < 1) (H0 : Hid (atF k n = ⟨2, n, k⟩)) (H1 : Hid (binF 11 ⟨2, n, k⟩ ⟨1, a, 0⟩ = (⟨2, s1, k⟩, true))) (H2 : Hid (binF 11 ⟨2, s1, k⟩ ⟨1, b, 0⟩ = (⟨2, s2, k⟩, true))) (H3 : Hid (binF 11 ⟨1, b, 0⟩ ⟨2, n, k⟩ = (⟨2, s3, k⟩, true))) (H4 : Hid (binF 11 ⟨1, a, 0⟩ ⟨2, s3, k⟩ = (⟨2, s2, k⟩, true)))
    (H5 : Hid (binF 12 ⟨2, s2, k⟩ ⟨1, a, 0⟩ = (⟨2, s4, k⟩, true))) (H6 : Hid (binF 12 ⟨2, s4, k⟩ ⟨1, b, 0⟩ = (⟨2, n, k⟩, true))) (H7 : Hid (trueF ⟨2, n, k⟩ = (true, true)))
    (HC : Hid ((2 = ok ∧ n = on ∧ k = ob ∧ binF 21 ⟨2, n, k⟩ ⟨2, n, k⟩ = (⟨1, 1, 0⟩, true)) ∨ (2 = ok ∧ 1 ≤ ob ∧ (n == on) = false ∧ binF 21 ⟨2, n, k⟩ ⟨2, on, ob⟩ = (⟨1, 0, 0⟩, true)) ∨ (2 = ok ∧ 1 ≤ ob ∧ (k == ob) = false ∧ n = on ∧ binF 21 ⟨2, n, k⟩ ⟨2, n, ob⟩ = (⟨1, 0, 0⟩, true)) ∨ (ok == 2) = false ∨ (2 = ok ∧ ¬ 1 ≤ ob))) :
    Calls Tryd.prog 4 #[.int .i64 k, .int .i64 n, .int .i64 a, .int .i64 b, .agg #[.int .i64 ok, .int .i64 on, .int .i64 ob]] w (retP (.bool true) w) := by
  go_enter Tryd.func4, Tryd.ntmps4
  go_wp2_with fail
  refine (awake_any _ (tab_keep ht (by repeat (first | exact Below.refl _ _ | refine bel_alloc ?_ _ | refine bel_set ?_ (by first | exact Nat.le_refl _ | (simp; done) | (simp; omega)) _ | refine Below.drew ?_ | refine bel_trans ?_ (by assumption))))).mono ?_
  rintro e w1 ⟨rfl, hb1⟩
  have o0 : w1.cell? ⟨w.heap.size, 0, none⟩ = some (.int .i64 ok) := keep_cell hb1 (by go_simp)
  have o1 : w1.cell? ⟨w.heap.size, 1, none⟩ = some (.int .i64 on) := keep_cell hb1 (by go_simp)
  have o2 : w1.cell? ⟨w.heap.size, 2, none⟩ = some (.int .i64 ob) := keep_cell hb1 (by go_simp)
  have oL : w.heap.size < w1.heap.size := block_lt_of_cell o0
  go_wp2_with fail
  refine (at_to _ _ 2 n k _ H0.out).mono ?_
  rintro e w2 ⟨rfl, hb2⟩
  replace o0 : w2.cell? ⟨w.heap.size, 0, none⟩ = some (.int .i64 ok) := keep_cell hb2 (by go_simp)
  replace o1 : w2.cell? ⟨w.heap.size, 1, none⟩ = some (.int .i64 on) := keep_cell hb2 (by go_simp)
  replace o2 : w2.cell? ⟨w.heap.size, 2, none⟩ = some (.int .i64 ob) := keep_cell hb2 (by go_simp)
  replace oL : w.heap.size < w2.heap.size := block_lt_of_cell o0
  go_wp2_with fail
  have hRz : w.heap.size ≤ w2.heap.size := Below.size (show Below w.heap.size w w2 from (by repeat (first | exact Below.refl _ _ | refine bel_alloc ?_ _ | refine bel_set ?_ (by first | exact Nat.le_refl _ | (simp; done) | (simp; omega)) _ | refine Below.drew ?_ | refine bel_trans ?_ (by assumption))))
  have oH : C3 (w2.alloc (.cells #[.int .i64 2, .int .i64 n, .int .i64 k] 24)) (w.heap.size) ok on ob := C3.alloc (C3.mk' o0 o1 o2) _
  go_cut [12] (fun sv w' => ∃ B, sv = .pointer (some ⟨B, 0, none⟩) ∧ w.heap.size ≤ B ∧ w2.heap.size < B ∧ w.heap.size < B ∧ (w'.cell? ⟨B, 0, none⟩ = some (.int .i64 2) ∧ w'.cell? ⟨B, 1, none⟩ = some (.int .i64 s1) ∧ w'.cell? ⟨B, 2, none⟩ = some (.int .i64 k) ∧ B < w'.heap.size) ∧ w'.frozen? ⟨B, 0, none⟩ = false ∧ w'.frozen? ⟨B, 1, none⟩ = false ∧ w'.frozen? ⟨B, 2, none⟩ = false ∧ (w'.cell? ⟨w2.heap.size, 0, none⟩ = some (.int .i64 2) ∧ w'.cell? ⟨w2.heap.size, 1, none⟩ = some (.int .i64 n) ∧ w'.cell? ⟨w2.heap.size, 2, none⟩ = some (.int .i64 k) ∧ w2.heap.size < w'.heap.size) ∧ (w'.cell? ⟨w.heap.size, 0, none⟩ = some (.int .i64 ok) ∧ w'.cell? ⟨w.heap.size, 1, none⟩ = some (.int .i64 on) ∧ w'.cell? ⟨w.heap.size, 2, none⟩ = some (.int .i64 ob) ∧ w.heap.size < w'.heap.size) ∧ Below w.heap.size w w')
  case first =>
    go_region_held3 (fun w' => (w'.cell? ⟨w2.heap.size, 0, none⟩ = some (.int .i64 2) ∧ w'.cell? ⟨w2.heap.size, 1, none⟩ = some (.int .i64 n) ∧ w'.cell? ⟨w2.heap.size, 2, none⟩ = some (.int .i64 k) ∧ w2.heap.size < w'.heap.size))
      (first | with_reducible exact callS1 hv1 (by assumption) | with_reducible exact allocS1 (by assumption) | with_reducible exact setS1 (by assumption) (by go_light; omega) | with_reducible exact reallocS1 (by assumption) (by go_light; omega) | (go_simp; done))
      (first | (go_at_call 6; refine (of_to _ _).mono ?_; rintro e v1 ⟨rfl, hv1⟩; obtain ⟨hc1, hf1⟩ := bcell hv1; have hz1 := bsize hv1; try simp only [World.size_alloc, World.size_drew, World.cell?_drew, World.frozen?_drew, Nat.add_one_le_iff] at hz1 hc1 hf1) | (go_at_call 7; refine (bin_to 11 2 n k 1 a 0 2 s1 k true _ H1.out).mono ?_; rintro e v1 ⟨rfl, hv1⟩; obtain ⟨hc1, hf1⟩ := bcell hv1; have hz1 := bsize hv1; try simp only [World.size_alloc, World.size_drew, World.cell?_drew, World.frozen?_drew, Nat.add_one_le_iff] at hz1 hc1 hf1))
    all_goals
      go_wp2_with fail
      go_meet
      case rel =>
        rename_i hH
        exact ⟨_, rfl, by go_light; first | exact hRz | omega, by go_light; omega, by go_light; omega, C3.mk' (by go_simp) (by go_simp) (by go_simp), by go_simp, by go_simp, by go_simp, hH, C3.call oH (by repeat (first | exact Below.refl _ _ | assumption | refine bel_alloc ?_ _ | refine Below.drew ?_ | refine bel_drewN ?_ _ | refine bel_set ?_ (by go_light; first | (simp; done) | (simp; omega) | omega) _ | refine bel_trans ?_ (by assumption))), (by repeat (first | exact Below.refl _ _ | assumption | refine bel_alloc ?_ _ | refine Below.drew ?_ | refine bel_drewN ?_ _ | refine bel_set ?_ (by go_light; first | (simp; done) | (simp; omega) | omega) _ | refine bel_trans ?_ (by assumption)))⟩
  case rest =>
    clear oH
    obtain ⟨B3, rfl, xG, xQ0, xQ1, ⟨x0, x1, x2, xL⟩, xZ0, xZ1, xZ2, ⟨p0, p1, p2, pL⟩, ⟨o0, o1, o2, oL⟩, hw3⟩ := hcut
    go_wp2_with fail
    have hRz : w.heap.size ≤ wc.heap.size := Below.size (show Below w.heap.size w wc from (by repeat (first | exact Below.refl _ _ | refine bel_alloc ?_ _ | refine bel_set ?_ (by first | exact Nat.le_refl _ | (simp; done) | (simp; omega)) _ | refine Below.drew ?_ | refine bel_trans ?_ (by assumption))))
    have oH : C3 wc (w.heap.size) ok on ob := C3.mk' o0 o1 o2
    have pH : C3 wc (w2.heap.size) 2 n k := C3.mk' p0 p1 p2
    go_cut [] (fun w' => (w'.cell? ⟨B3, 0, none⟩ = some (.int .i64 2) ∧ w'.cell? ⟨B3, 1, none⟩ = some (.int .i64 s2) ∧ w'.cell? ⟨B3, 2, none⟩ = some (.int .i64 k) ∧ B3 < w'.heap.size) ∧ (w'.cell? ⟨w.heap.size, 0, none⟩ = some (.int .i64 ok) ∧ w'.cell? ⟨w.heap.size, 1, none⟩ = some (.int .i64 on) ∧ w'.cell? ⟨w.heap.size, 2, none⟩ = some (.int .i64 ob) ∧ w.heap.size < w'.heap.size) ∧ (w'.cell? ⟨w2.heap.size, 0, none⟩ = some (.int .i64 2) ∧ w'.cell? ⟨w2.heap.size, 1, none⟩ = some (.int .i64 n) ∧ w'.cell? ⟨w2.heap.size, 2, none⟩ = some (.int .i64 k) ∧ w2.heap.size < w'.heap.size) ∧ Below w.heap.size w w')
    case first =>
      go_region_with (first | (go_at_call 6; refine (of_to _ _).mono ?_; rintro e v1 ⟨rfl, hv1⟩; have hz1 := bsize hv1; (try simp only [World.size_alloc, World.size_drew, Nat.add_one_le_iff] at hz1); have x0 := keep_cell hv1 (p := ⟨B3, 0, none⟩) (v := .int .i64 2) (by go_simp); have x1 := keep_cell hv1 (p := ⟨B3, 1, none⟩) (v := .int .i64 s1) (by go_simp); have x2 := keep_cell hv1 (p := ⟨B3, 2, none⟩) (v := .int .i64 k) (by go_simp); have xZ0 := keep_frozen hv1 (p := ⟨B3, 0, none⟩) (v := .int .i64 2) (by go_simp) (by go_simp); have xZ1 := keep_frozen hv1 (p := ⟨B3, 1, none⟩) (v := .int .i64 s1) (by go_simp) (by go_simp); have xZ2 := keep_frozen hv1 (p := ⟨B3, 2, none⟩) (v := .int .i64 k) (by go_simp) (by go_simp)) | (go_at_call 7; refine (bin_to 11 2 s1 k 1 b 0 2 s2 k true _ H2.out).mono ?_; rintro e v1 ⟨rfl, hv1⟩; have hz1 := bsize hv1; (try simp only [World.size_alloc, World.size_drew, Nat.add_one_le_iff] at hz1); have x0 := keep_cell hv1 (p := ⟨B3, 0, none⟩) (v := .int .i64 2) (by go_simp); have x1 := keep_cell hv1 (p := ⟨B3, 1, none⟩) (v := .int .i64 s1) (by go_simp); have x2 := keep_cell hv1 (p := ⟨B3, 2, none⟩) (v := .int .i64 k) (by go_simp); have xZ0 := keep_frozen hv1 (p := ⟨B3, 0, none⟩) (v := .int .i64 2) (by go_simp) (by go_simp); have xZ1 := keep_frozen hv1 (p := ⟨B3, 1, none⟩) (v := .int .i64 s1) (by go_simp) (by go_simp); have xZ2 := keep_frozen hv1 (p := ⟨B3, 2, none⟩) (v := .int .i64 k) (by go_simp) (by go_simp)))
      all_goals
        go_wp2_with fail
        go_meet
        case rel =>
          exact ⟨C3.mk' (by go_simp) (by go_simp) (by go_simp), C3.set (C3.call oH (by repeat (first | exact Below.refl _ _ | assumption | refine bel_alloc ?_ _ | refine Below.drew ?_ | refine bel_drewN ?_ _ | refine bel_set ?_ (by go_light; first | (simp; done) | (simp; omega) | omega) _ | refine bel_trans ?_ (by assumption)))) (by go_light; omega), C3.set (C3.call pH (by repeat (first | exact Below.refl _ _ | assumption | refine bel_alloc ?_ _ | refine Below.drew ?_ | refine bel_drewN ?_ _ | refine bel_set ?_ (by go_light; first | (simp; done) | (simp; omega) | omega) _ | refine bel_trans ?_ (by assumption)))) (by go_light; omega), (by repeat (first | exact Below.refl _ _ | assumption | refine bel_alloc ?_ _ | refine Below.drew ?_ | refine bel_drewN ?_ _ | refine bel_set ?_ (by go_light; first | (simp; done) | (simp; omega) | omega) _ | refine bel_trans ?_ (by assumption)))⟩
    case rest =>
      clear oH pH
      clear o0 o1 o2 oL p0 p1 p2 pL x0 x1 x2 xL
      obtain ⟨⟨x0, x1, x2, xL⟩, ⟨o0, o1, o2, oL⟩, ⟨p0, p1, p2, pL⟩, hw4⟩ := hcut
      go_wp2_with fail
      have hRz : w.heap.size ≤ wc.heap.size := Below.size (show Below w.heap.size w wc from (by repeat (first | exact Below.refl _ _ | refine bel_alloc ?_ _ | refine bel_set ?_ (by first | exact Nat.le_refl _ | (simp; done) | (simp; omega)) _ | refine Below.drew ?_ | refine bel_trans ?_ (by assumption))))
      have oH : C3 wc (w.heap.size) ok on ob := C3.mk' o0 o1 o2
      have xH : C3 wc (B3) 2 s2 k := C3.mk' x0 x1 x2
      go_cut [14] (fun sv w' => ∃ B, sv = .pointer (some ⟨B, 0, none⟩) ∧ w.heap.size ≤ B ∧ w2.heap.size < B ∧ w.heap.size < B ∧ B3 < B ∧ (w'.cell? ⟨B, 0, none⟩ = some (.int .i64 2) ∧ w'.cell? ⟨B, 1, none⟩ = some (.int .i64 s3) ∧ w'.cell? ⟨B, 2, none⟩ = some (.int .i64 k) ∧ B < w'.heap.size) ∧ w'.frozen? ⟨B, 0, none⟩ = false ∧ w'.frozen? ⟨B, 1, none⟩ = false ∧ w'.frozen? ⟨B, 2, none⟩ = false ∧ (w'.cell? ⟨w2.heap.size, 0, none⟩ = some (.int .i64 2) ∧ w'.cell? ⟨w2.heap.size, 1, none⟩ = some (.int .i64 n) ∧ w'.cell? ⟨w2.heap.size, 2, none⟩ = some (.int .i64 k) ∧ w2.heap.size < w'.heap.size) ∧ (w'.cell? ⟨w.heap.size, 0, none⟩ = some (.int .i64 ok) ∧ w'.cell? ⟨w.heap.size, 1, none⟩ = some (.int .i64 on) ∧ w'.cell? ⟨w.heap.size, 2, none⟩ = some (.int .i64 ob) ∧ w.heap.size < w'.heap.size) ∧ (w'.cell? ⟨B3, 0, none⟩ = some (.int .i64 2) ∧ w'.cell? ⟨B3, 1, none⟩ = some (.int .i64 s2) ∧ w'.cell? ⟨B3, 2, none⟩ = some (.int .i64 k) ∧ B3 < w'.heap.size) ∧ Below w.heap.size w w')
      case first =>
        go_region_held3 (fun w' => (w'.cell? ⟨w2.heap.size, 0, none⟩ = some (.int .i64 2) ∧ w'.cell? ⟨w2.heap.size, 1, none⟩ = some (.int .i64 n) ∧ w'.cell? ⟨w2.heap.size, 2, none⟩ = some (.int .i64 k) ∧ w2.heap.size < w'.heap.size))
          (first | with_reducible exact callS1 hv1 (by assumption) | with_reducible exact allocS1 (by assumption) | with_reducible exact setS1 (by assumption) (by go_light; omega) | with_reducible exact reallocS1 (by assumption) (by go_light; omega) | (go_simp; done))
          (first | (go_at_call 6; refine (of_to _ _).mono ?_; rintro e v1 ⟨rfl, hv1⟩; obtain ⟨hc1, hf1⟩ := bcell hv1; have hz1 := bsize hv1; try simp only [World.size_alloc, World.size_drew, World.cell?_drew, World.frozen?_drew, Nat.add_one_le_iff] at hz1 hc1 hf1) | (go_at_call 7; refine (bin_to 11 1 b 0 2 n k 2 s3 k true _ H3.out).mono ?_; rintro e v1 ⟨rfl, hv1⟩; obtain ⟨hc1, hf1⟩ := bcell hv1; have hz1 := bsize hv1; try simp only [World.size_alloc, World.size_drew, World.cell?_drew, World.frozen?_drew, Nat.add_one_le_iff] at hz1 hc1 hf1))
        all_goals
          go_wp2_with fail
          go_meet
          case rel =>
            rename_i hH
            exact ⟨_, rfl, by go_light; first | exact hRz | omega, by go_light; omega, by go_light; omega, by go_light; omega, C3.mk' (by go_simp) (by go_simp) (by go_simp), by go_simp, by go_simp, by go_simp, hH, C3.call oH (by repeat (first | exact Below.refl _ _ | assumption | refine bel_alloc ?_ _ | refine Below.drew ?_ | refine bel_drewN ?_ _ | refine bel_set ?_ (by go_light; first | (simp; done) | (simp; omega) | omega) _ | refine bel_trans ?_ (by assumption))), C3.call xH (by repeat (first | exact Below.refl _ _ | assumption | refine bel_alloc ?_ _ | refine Below.drew ?_ | refine bel_drewN ?_ _ | refine bel_set ?_ (by go_light; first | (simp; done) | (simp; omega) | omega) _ | refine bel_trans ?_ (by assumption))), (by repeat (first | exact Below.refl _ _ | assumption | refine bel_alloc ?_ _ | refine Below.drew ?_ | refine bel_drewN ?_ _ | refine bel_set ?_ (by go_light; first | (simp; done) | (simp; omega) | omega) _ | refine bel_trans ?_ (by assumption)))⟩
      case rest =>
        clear oH xH
        obtain ⟨B5, rfl, yG, yQ0, yQ1, yQ2, ⟨y0, y1, y2, yL⟩, yZ0, yZ1, yZ2, ⟨p0, p1, p2, pL⟩, ⟨o0, o1, o2, oL⟩, ⟨x0, x1, x2, xL⟩, hw5⟩ := hcut
        go_wp2_with fail
        have hRz : w.heap.size ≤ wc.heap.size := Below.size (show Below w.heap.size w wc from (by repeat (first | exact Below.refl _ _ | refine bel_alloc ?_ _ | refine bel_set ?_ (by first | exact Nat.le_refl _ | (simp; done) | (simp; omega)) _ | refine Below.drew ?_ | refine bel_trans ?_ (by assumption))))
        have oH : C3 wc (w.heap.size) ok on ob := C3.mk' o0 o1 o2
        have pH : C3 wc (w2.heap.size) 2 n k := C3.mk' p0 p1 p2
        have xH : C3 wc (B3) 2 s2 k := C3.mk' x0 x1 x2
        go_cut [] (fun w' => (w'.cell? ⟨B5, 0, none⟩ = some (.int .i64 2) ∧ w'.cell? ⟨B5, 1, none⟩ = some (.int .i64 s2) ∧ w'.cell? ⟨B5, 2, none⟩ = some (.int .i64 k) ∧ B5 < w'.heap.size) ∧ (w'.cell? ⟨w.heap.size, 0, none⟩ = some (.int .i64 ok) ∧ w'.cell? ⟨w.heap.size, 1, none⟩ = some (.int .i64 on) ∧ w'.cell? ⟨w.heap.size, 2, none⟩ = some (.int .i64 ob) ∧ w.heap.size < w'.heap.size) ∧ (w'.cell? ⟨w2.heap.size, 0, none⟩ = some (.int .i64 2) ∧ w'.cell? ⟨w2.heap.size, 1, none⟩ = some (.int .i64 n) ∧ w'.cell? ⟨w2.heap.size, 2, none⟩ = some (.int .i64 k) ∧ w2.heap.size < w'.heap.size) ∧ (w'.cell? ⟨B3, 0, none⟩ = some (.int .i64 2) ∧ w'.cell? ⟨B3, 1, none⟩ = some (.int .i64 s2) ∧ w'.cell? ⟨B3, 2, none⟩ = some (.int .i64 k) ∧ B3 < w'.heap.size) ∧ Below w.heap.size w w')
        case first =>
          go_region_with (first | (go_at_call 6; refine (of_to _ _).mono ?_; rintro e v1 ⟨rfl, hv1⟩; have hz1 := bsize hv1; (try simp only [World.size_alloc, World.size_drew, Nat.add_one_le_iff] at hz1); have y0 := keep_cell hv1 (p := ⟨B5, 0, none⟩) (v := .int .i64 2) (by go_simp); have y1 := keep_cell hv1 (p := ⟨B5, 1, none⟩) (v := .int .i64 s3) (by go_simp); have y2 := keep_cell hv1 (p := ⟨B5, 2, none⟩) (v := .int .i64 k) (by go_simp); have yZ0 := keep_frozen hv1 (p := ⟨B5, 0, none⟩) (v := .int .i64 2) (by go_simp) (by go_simp); have yZ1 := keep_frozen hv1 (p := ⟨B5, 1, none⟩) (v := .int .i64 s3) (by go_simp) (by go_simp); have yZ2 := keep_frozen hv1 (p := ⟨B5, 2, none⟩) (v := .int .i64 k) (by go_simp) (by go_simp)) | (go_at_call 7; refine (bin_to 11 1 a 0 2 s3 k 2 s2 k true _ H4.out).mono ?_; rintro e v1 ⟨rfl, hv1⟩; have hz1 := bsize hv1; (try simp only [World.size_alloc, World.size_drew, Nat.add_one_le_iff] at hz1); have y0 := keep_cell hv1 (p := ⟨B5, 0, none⟩) (v := .int .i64 2) (by go_simp); have y1 := keep_cell hv1 (p := ⟨B5, 1, none⟩) (v := .int .i64 s3) (by go_simp); have y2 := keep_cell hv1 (p := ⟨B5, 2, none⟩) (v := .int .i64 k) (by go_simp); have yZ0 := keep_frozen hv1 (p := ⟨B5, 0, none⟩) (v := .int .i64 2) (by go_simp) (by go_simp); have yZ1 := keep_frozen hv1 (p := ⟨B5, 1, none⟩) (v := .int .i64 s3) (by go_simp) (by go_simp); have yZ2 := keep_frozen hv1 (p := ⟨B5, 2, none⟩) (v := .int .i64 k) (by go_simp) (by go_simp)))
          all_goals
            go_wp2_with fail
            go_meet
            case rel =>
              exact ⟨C3.mk' (by go_simp) (by go_simp) (by go_simp), C3.set (C3.call oH (by repeat (first | exact Below.refl _ _ | assumption | refine bel_alloc ?_ _ | refine Below.drew ?_ | refine bel_drewN ?_ _ | refine bel_set ?_ (by go_light; first | (simp; done) | (simp; omega) | omega) _ | refine bel_trans ?_ (by assumption)))) (by go_light; omega), C3.set (C3.call pH (by repeat (first | exact Below.refl _ _ | assumption | refine bel_alloc ?_ _ | refine Below.drew ?_ | refine bel_drewN ?_ _ | refine bel_set ?_ (by go_light; first | (simp; done) | (simp; omega) | omega) _ | refine bel_trans ?_ (by assumption)))) (by go_light; omega), C3.set (C3.call xH (by repeat (first | exact Below.refl _ _ | assumption | refine bel_alloc ?_ _ | refine Below.drew ?_ | refine bel_drewN ?_ _ | refine bel_set ?_ (by go_light; first | (simp; done) | (simp; omega) | omega) _ | refine bel_trans ?_ (by assumption)))) (by go_light; omega), (by repeat (first | exact Below.refl _ _ | assumption | refine bel_alloc ?_ _ | refine Below.drew ?_ | refine bel_drewN ?_ _ | refine bel_set ?_ (by go_light; first | (simp; done) | (simp; omega) | omega) _ | refine bel_trans ?_ (by assumption)))⟩
        case rest =>
          clear oH pH xH
          clear o0 o1 o2 oL p0 p1 p2 pL x0 x1 x2 xL y0 y1 y2 yL
          obtain ⟨⟨y0, y1, y2, yL⟩, ⟨o0, o1, o2, oL⟩, ⟨p0, p1, p2, pL⟩, ⟨x0, x1, x2, xL⟩, hw6⟩ := hcut
          go_wp2_with fail
          have hRz : w.heap.size ≤ wc.heap.size := Below.size (show Below w.heap.size w wc from (by repeat (first | exact Below.refl _ _ | refine bel_alloc ?_ _ | refine bel_set ?_ (by first | exact Nat.le_refl _ | (simp; done) | (simp; omega)) _ | refine Below.drew ?_ | refine bel_trans ?_ (by assumption))))
          have oH : C3 wc (w.heap.size) ok on ob := C3.mk' o0 o1 o2
          have pH : C3 wc (w2.heap.size) 2 n k := C3.mk' p0 p1 p2
          have yH : C3 wc (B5) 2 s2 k := C3.mk' y0 y1 y2
          go_cut [16] (fun sv w' => ∃ B, sv = .pointer (some ⟨B, 0, none⟩) ∧ w.heap.size ≤ B ∧ B3 < B ∧ w.heap.size < B ∧ w2.heap.size < B ∧ B5 < B ∧ (w'.cell? ⟨B, 0, none⟩ = some (.int .i64 2) ∧ w'.cell? ⟨B, 1, none⟩ = some (.int .i64 s4) ∧ w'.cell? ⟨B, 2, none⟩ = some (.int .i64 k) ∧ B < w'.heap.size) ∧ w'.frozen? ⟨B, 0, none⟩ = false ∧ w'.frozen? ⟨B, 1, none⟩ = false ∧ w'.frozen? ⟨B, 2, none⟩ = false ∧ (w'.cell? ⟨B3, 0, none⟩ = some (.int .i64 2) ∧ w'.cell? ⟨B3, 1, none⟩ = some (.int .i64 s2) ∧ w'.cell? ⟨B3, 2, none⟩ = some (.int .i64 k) ∧ B3 < w'.heap.size) ∧ (w'.cell? ⟨w.heap.size, 0, none⟩ = some (.int .i64 ok) ∧ w'.cell? ⟨w.heap.size, 1, none⟩ = some (.int .i64 on) ∧ w'.cell? ⟨w.heap.size, 2, none⟩ = some (.int .i64 ob) ∧ w.heap.size < w'.heap.size) ∧ (w'.cell? ⟨w2.heap.size, 0, none⟩ = some (.int .i64 2) ∧ w'.cell? ⟨w2.heap.size, 1, none⟩ = some (.int .i64 n) ∧ w'.cell? ⟨w2.heap.size, 2, none⟩ = some (.int .i64 k) ∧ w2.heap.size < w'.heap.size) ∧ (w'.cell? ⟨B5, 0, none⟩ = some (.int .i64 2) ∧ w'.cell? ⟨B5, 1, none⟩ = some (.int .i64 s2) ∧ w'.cell? ⟨B5, 2, none⟩ = some (.int .i64 k) ∧ B5 < w'.heap.size) ∧ Below w.heap.size w w')
          case first =>
            go_region_held3 (fun w' => (w'.cell? ⟨B3, 0, none⟩ = some (.int .i64 2) ∧ w'.cell? ⟨B3, 1, none⟩ = some (.int .i64 s2) ∧ w'.cell? ⟨B3, 2, none⟩ = some (.int .i64 k) ∧ B3 < w'.heap.size))
              (first | with_reducible exact callS1 hv1 (by assumption) | with_reducible exact allocS1 (by assumption) | with_reducible exact setS1 (by assumption) (by go_light; omega) | with_reducible exact reallocS1 (by assumption) (by go_light; omega) | (go_simp; done))
              (first | (go_at_call 6; refine (of_to _ _).mono ?_; rintro e v1 ⟨rfl, hv1⟩; obtain ⟨hc1, hf1⟩ := bcell hv1; have hz1 := bsize hv1; try simp only [World.size_alloc, World.size_drew, World.cell?_drew, World.frozen?_drew, Nat.add_one_le_iff] at hz1 hc1 hf1) | (go_at_call 7; refine (bin_to 12 2 s2 k 1 a 0 2 s4 k true _ H5.out).mono ?_; rintro e v1 ⟨rfl, hv1⟩; obtain ⟨hc1, hf1⟩ := bcell hv1; have hz1 := bsize hv1; try simp only [World.size_alloc, World.size_drew, World.cell?_drew, World.frozen?_drew, Nat.add_one_le_iff] at hz1 hc1 hf1))
            all_goals
              go_wp2_with fail
              go_meet
              case rel =>
                rename_i hH
                exact ⟨_, rfl, by go_light; first | exact hRz | omega, by go_light; omega, by go_light; omega, by go_light; omega, by go_light; omega, C3.mk' (by go_simp) (by go_simp) (by go_simp), by go_simp, by go_simp, by go_simp, hH, C3.call oH (by repeat (first | exact Below.refl _ _ | assumption | refine bel_alloc ?_ _ | refine Below.drew ?_ | refine bel_drewN ?_ _ | refine bel_set ?_ (by go_light; first | (simp; done) | (simp; omega) | omega) _ | refine bel_trans ?_ (by assumption))), C3.call pH (by repeat (first | exact Below.refl _ _ | assumption | refine bel_alloc ?_ _ | refine Below.drew ?_ | refine bel_drewN ?_ _ | refine bel_set ?_ (by go_light; first | (simp; done) | (simp; omega) | omega) _ | refine bel_trans ?_ (by assumption))), C3.call yH (by repeat (first | exact Below.refl _ _ | assumption | refine bel_alloc ?_ _ | refine Below.drew ?_ | refine bel_drewN ?_ _ | refine bel_set ?_ (by go_light; first | (simp; done) | (simp; omega) | omega) _ | refine bel_trans ?_ (by assumption))), (by repeat (first | exact Below.refl _ _ | assumption | refine bel_alloc ?_ _ | refine Below.drew ?_ | refine bel_drewN ?_ _ | refine bel_set ?_ (by go_light; first | (simp; done) | (simp; omega) | omega) _ | refine bel_trans ?_ (by assumption)))⟩
          case rest =>
            clear oH pH yH
            obtain ⟨B7, rfl, zG, zQ0, zQ1, zQ2, zQ3, ⟨z0, z1, z2, zL⟩, zZ0, zZ1, zZ2, ⟨x0, x1, x2, xL⟩, ⟨o0, o1, o2, oL⟩, ⟨p0, p1, p2, pL⟩, ⟨y0, y1, y2, yL⟩, hw7⟩ := hcut
            go_wp2_with fail
            have hRz : w.heap.size ≤ wc.heap.size := Below.size (show Below w.heap.size w wc from (by repeat (first | exact Below.refl _ _ | refine bel_alloc ?_ _ | refine bel_set ?_ (by first | exact Nat.le_refl _ | (simp; done) | (simp; omega)) _ | refine Below.drew ?_ | refine bel_trans ?_ (by assumption))))
            have oH : C3 wc (w.heap.size) ok on ob := C3.mk' o0 o1 o2
            have pH : C3 wc (w2.heap.size) 2 n k := C3.mk' p0 p1 p2
            have xH : C3 wc (B3) 2 s2 k := C3.mk' x0 x1 x2
            have yH : C3 wc (B5) 2 s2 k := C3.mk' y0 y1 y2
            go_cut [] (fun w' => (w'.cell? ⟨B7, 0, none⟩ = some (.int .i64 2) ∧ w'.cell? ⟨B7, 1, none⟩ = some (.int .i64 n) ∧ w'.cell? ⟨B7, 2, none⟩ = some (.int .i64 k) ∧ B7 < w'.heap.size) ∧ (w'.cell? ⟨w.heap.size, 0, none⟩ = some (.int .i64 ok) ∧ w'.cell? ⟨w.heap.size, 1, none⟩ = some (.int .i64 on) ∧ w'.cell? ⟨w.heap.size, 2, none⟩ = some (.int .i64 ob) ∧ w.heap.size < w'.heap.size) ∧ (w'.cell? ⟨w2.heap.size, 0, none⟩ = some (.int .i64 2) ∧ w'.cell? ⟨w2.heap.size, 1, none⟩ = some (.int .i64 n) ∧ w'.cell? ⟨w2.heap.size, 2, none⟩ = some (.int .i64 k) ∧ w2.heap.size < w'.heap.size) ∧ (w'.cell? ⟨B3, 0, none⟩ = some (.int .i64 2) ∧ w'.cell? ⟨B3, 1, none⟩ = some (.int .i64 s2) ∧ w'.cell? ⟨B3, 2, none⟩ = some (.int .i64 k) ∧ B3 < w'.heap.size) ∧ (w'.cell? ⟨B5, 0, none⟩ = some (.int .i64 2) ∧ w'.cell? ⟨B5, 1, none⟩ = some (.int .i64 s2) ∧ w'.cell? ⟨B5, 2, none⟩ = some (.int .i64 k) ∧ B5 < w'.heap.size) ∧ Below w.heap.size w w')
            case first =>
              go_region_with (first | (go_at_call 6; refine (of_to _ _).mono ?_; rintro e v1 ⟨rfl, hv1⟩; have hz1 := bsize hv1; (try simp only [World.size_alloc, World.size_drew, Nat.add_one_le_iff] at hz1); have z0 := keep_cell hv1 (p := ⟨B7, 0, none⟩) (v := .int .i64 2) (by go_simp); have z1 := keep_cell hv1 (p := ⟨B7, 1, none⟩) (v := .int .i64 s4) (by go_simp); have z2 := keep_cell hv1 (p := ⟨B7, 2, none⟩) (v := .int .i64 k) (by go_simp); have zZ0 := keep_frozen hv1 (p := ⟨B7, 0, none⟩) (v := .int .i64 2) (by go_simp) (by go_simp); have zZ1 := keep_frozen hv1 (p := ⟨B7, 1, none⟩) (v := .int .i64 s4) (by go_simp) (by go_simp); have zZ2 := keep_frozen hv1 (p := ⟨B7, 2, none⟩) (v := .int .i64 k) (by go_simp) (by go_simp)) | (go_at_call 7; refine (bin_to 12 2 s4 k 1 b 0 2 n k true _ H6.out).mono ?_; rintro e v1 ⟨rfl, hv1⟩; have hz1 := bsize hv1; (try simp only [World.size_alloc, World.size_drew, Nat.add_one_le_iff] at hz1); have z0 := keep_cell hv1 (p := ⟨B7, 0, none⟩) (v := .int .i64 2) (by go_simp); have z1 := keep_cell hv1 (p := ⟨B7, 1, none⟩) (v := .int .i64 s4) (by go_simp); have z2 := keep_cell hv1 (p := ⟨B7, 2, none⟩) (v := .int .i64 k) (by go_simp); have zZ0 := keep_frozen hv1 (p := ⟨B7, 0, none⟩) (v := .int .i64 2) (by go_simp) (by go_simp); have zZ1 := keep_frozen hv1 (p := ⟨B7, 1, none⟩) (v := .int .i64 s4) (by go_simp) (by go_simp); have zZ2 := keep_frozen hv1 (p := ⟨B7, 2, none⟩) (v := .int .i64 k) (by go_simp) (by go_simp)))
              all_goals
                go_wp2_with fail
                go_meet
                case rel =>
                  exact ⟨C3.mk' (by go_simp) (by go_simp) (by go_simp), C3.set (C3.call oH (by repeat (first | exact Below.refl _ _ | assumption | refine bel_alloc ?_ _ | refine Below.drew ?_ | refine bel_drewN ?_ _ | refine bel_set ?_ (by go_light; first | (simp; done) | (simp; omega) | omega) _ | refine bel_trans ?_ (by assumption)))) (by go_light; omega), C3.set (C3.call pH (by repeat (first | exact Below.refl _ _ | assumption | refine bel_alloc ?_ _ | refine Below.drew ?_ | refine bel_drewN ?_ _ | refine bel_set ?_ (by go_light; first | (simp; done) | (simp; omega) | omega) _ | refine bel_trans ?_ (by assumption)))) (by go_light; omega), C3.set (C3.call xH (by repeat (first | exact Below.refl _ _ | assumption | refine bel_alloc ?_ _ | refine Below.drew ?_ | refine bel_drewN ?_ _ | refine bel_set ?_ (by go_light; first | (simp; done) | (simp; omega) | omega) _ | refine bel_trans ?_ (by assumption)))) (by go_light; omega), C3.set (C3.call yH (by repeat (first | exact Below.refl _ _ | assumption | refine bel_alloc ?_ _ | refine Below.drew ?_ | refine bel_drewN ?_ _ | refine bel_set ?_ (by go_light; first | (simp; done) | (simp; omega) | omega) _ | refine bel_trans ?_ (by assumption)))) (by go_light; omega), (by repeat (first | exact Below.refl _ _ | assumption | refine bel_alloc ?_ _ | refine Below.drew ?_ | refine bel_drewN ?_ _ | refine bel_set ?_ (by go_light; first | (simp; done) | (simp; omega) | omega) _ | refine bel_trans ?_ (by assumption)))⟩
            case rest =>
              clear oH pH xH yH
              clear o0 o1 o2 oL p0 p1 p2 pL x0 x1 x2 xL y0 y1 y2 yL z0 z1 z2 zL
              obtain ⟨⟨z0, z1, z2, zL⟩, ⟨o0, o1, o2, oL⟩, ⟨p0, p1, p2, pL⟩, ⟨x0, x1, x2, xL⟩, ⟨y0, y1, y2, yL⟩, hw8⟩ := hcut
              rcases HC.out with ⟨rfl, rfl, rfl, hE⟩ | ⟨rfl, h1, hne, hE⟩ | ⟨rfl, h1, hne, rfl, hE⟩ | hK | ⟨rfl, hK⟩
              · skip
                go_wp2_with fail
                refine (bin_to 21 2 n k 2 n k 1 1 0 true _ hE).mono ?_
                rintro e w9 ⟨rfl, hb9⟩
                replace o0 : w9.cell? ⟨w.heap.size, 0, none⟩ = some (.int .i64 2) := keep_cell hb9 (by go_simp)
                replace o1 : w9.cell? ⟨w.heap.size, 1, none⟩ = some (.int .i64 n) := keep_cell hb9 (by go_simp)
                replace o2 : w9.cell? ⟨w.heap.size, 2, none⟩ = some (.int .i64 k) := keep_cell hb9 (by go_simp)
                replace oL : w.heap.size < w9.heap.size := block_lt_of_cell o0
                replace p0 : w9.cell? ⟨w2.heap.size, 0, none⟩ = some (.int .i64 2) := keep_cell hb9 (by go_simp)
                replace p1 : w9.cell? ⟨w2.heap.size, 1, none⟩ = some (.int .i64 n) := keep_cell hb9 (by go_simp)
                replace p2 : w9.cell? ⟨w2.heap.size, 2, none⟩ = some (.int .i64 k) := keep_cell hb9 (by go_simp)
                replace pL : w2.heap.size < w9.heap.size := block_lt_of_cell p0
                replace x0 : w9.cell? ⟨B3, 0, none⟩ = some (.int .i64 2) := keep_cell hb9 (by go_simp)
                replace x1 : w9.cell? ⟨B3, 1, none⟩ = some (.int .i64 s2) := keep_cell hb9 (by go_simp)
                replace x2 : w9.cell? ⟨B3, 2, none⟩ = some (.int .i64 k) := keep_cell hb9 (by go_simp)
                replace xL : B3 < w9.heap.size := block_lt_of_cell x0
                replace y0 : w9.cell? ⟨B5, 0, none⟩ = some (.int .i64 2) := keep_cell hb9 (by go_simp)
                replace y1 : w9.cell? ⟨B5, 1, none⟩ = some (.int .i64 s2) := keep_cell hb9 (by go_simp)
                replace y2 : w9.cell? ⟨B5, 2, none⟩ = some (.int .i64 k) := keep_cell hb9 (by go_simp)
                replace yL : B5 < w9.heap.size := block_lt_of_cell y0
                replace z0 : w9.cell? ⟨B7, 0, none⟩ = some (.int .i64 2) := keep_cell hb9 (by go_simp)
                replace z1 : w9.cell? ⟨B7, 1, none⟩ = some (.int .i64 n) := keep_cell hb9 (by go_simp)
                replace z2 : w9.cell? ⟨B7, 2, none⟩ = some (.int .i64 k) := keep_cell hb9 (by go_simp)
                replace zL : B7 < w9.heap.size := block_lt_of_cell z0
                go_wp2_with fail
                go_quiet (fail)
                go_wp2_with fail
                refine (true_to 2 n k true true _ H7.out).mono ?_
                rintro e w10 ⟨rfl, hb10⟩
                replace o0 : w10.cell? ⟨w.heap.size, 0, none⟩ = some (.int .i64 2) := keep_cell hb10 (by go_simp)
                replace o1 : w10.cell? ⟨w.heap.size, 1, none⟩ = some (.int .i64 n) := keep_cell hb10 (by go_simp)
                replace o2 : w10.cell? ⟨w.heap.size, 2, none⟩ = some (.int .i64 k) := keep_cell hb10 (by go_simp)
                replace oL : w.heap.size < w10.heap.size := block_lt_of_cell o0
                replace p0 : w10.cell? ⟨w2.heap.size, 0, none⟩ = some (.int .i64 2) := keep_cell hb10 (by go_simp)
                replace p1 : w10.cell? ⟨w2.heap.size, 1, none⟩ = some (.int .i64 n) := keep_cell hb10 (by go_simp)
                replace p2 : w10.cell? ⟨w2.heap.size, 2, none⟩ = some (.int .i64 k) := keep_cell hb10 (by go_simp)
                replace pL : w2.heap.size < w10.heap.size := block_lt_of_cell p0
                replace x0 : w10.cell? ⟨B3, 0, none⟩ = some (.int .i64 2) := keep_cell hb10 (by go_simp)
                replace x1 : w10.cell? ⟨B3, 1, none⟩ = some (.int .i64 s2) := keep_cell hb10 (by go_simp)
                replace x2 : w10.cell? ⟨B3, 2, none⟩ = some (.int .i64 k) := keep_cell hb10 (by go_simp)
                replace xL : B3 < w10.heap.size := block_lt_of_cell x0
                replace y0 : w10.cell? ⟨B5, 0, none⟩ = some (.int .i64 2) := keep_cell hb10 (by go_simp)
                replace y1 : w10.cell? ⟨B5, 1, none⟩ = some (.int .i64 s2) := keep_cell hb10 (by go_simp)
                replace y2 : w10.cell? ⟨B5, 2, none⟩ = some (.int .i64 k) := keep_cell hb10 (by go_simp)
                replace yL : B5 < w10.heap.size := block_lt_of_cell y0
                replace z0 : w10.cell? ⟨B7, 0, none⟩ = some (.int .i64 2) := keep_cell hb10 (by go_simp)
                replace z1 : w10.cell? ⟨B7, 1, none⟩ = some (.int .i64 n) := keep_cell hb10 (by go_simp)
                replace z2 : w10.cell? ⟨B7, 2, none⟩ = some (.int .i64 k) := keep_cell hb10 (by go_simp)
                replace zL : B7 < w10.heap.size := block_lt_of_cell z0
                have e0 : w10.cell? ⟨w9.heap.size, 0, none⟩ = some (.int .i64 1) := keep_cell hb10 (by go_simp)
                have e1 : w10.cell? ⟨w9.heap.size, 1, none⟩ = some (.int .i64 1) := keep_cell hb10 (by go_simp)
                have e2 : w10.cell? ⟨w9.heap.size, 2, none⟩ = some (.int .i64 0) := keep_cell hb10 (by go_simp)
                have eL : w9.heap.size < w10.heap.size := block_lt_of_cell e0
                go_wp2
                go_ret
                exact ⟨rfl, (by repeat (first | exact Below.refl _ _ | assumption | refine bel_alloc ?_ _ | refine Below.drew ?_ | refine bel_drewN ?_ _ | refine bel_set ?_ (by go_light; first | (simp; done) | (simp; omega) | omega) _ | refine bel_trans ?_ (by assumption)))⟩
              · skip
                go_wp2_with fail
                refine (bin_to 21 2 n k 2 on ob 1 0 0 true _ hE).mono ?_
                rintro e w9 ⟨rfl, hb9⟩
                replace o0 : w9.cell? ⟨w.heap.size, 0, none⟩ = some (.int .i64 2) := keep_cell hb9 (by go_simp)
                replace o1 : w9.cell? ⟨w.heap.size, 1, none⟩ = some (.int .i64 on) := keep_cell hb9 (by go_simp)
                replace o2 : w9.cell? ⟨w.heap.size, 2, none⟩ = some (.int .i64 ob) := keep_cell hb9 (by go_simp)
                replace oL : w.heap.size < w9.heap.size := block_lt_of_cell o0
                replace p0 : w9.cell? ⟨w2.heap.size, 0, none⟩ = some (.int .i64 2) := keep_cell hb9 (by go_simp)
                replace p1 : w9.cell? ⟨w2.heap.size, 1, none⟩ = some (.int .i64 n) := keep_cell hb9 (by go_simp)
                replace p2 : w9.cell? ⟨w2.heap.size, 2, none⟩ = some (.int .i64 k) := keep_cell hb9 (by go_simp)
                replace pL : w2.heap.size < w9.heap.size := block_lt_of_cell p0
                replace x0 : w9.cell? ⟨B3, 0, none⟩ = some (.int .i64 2) := keep_cell hb9 (by go_simp)
                replace x1 : w9.cell? ⟨B3, 1, none⟩ = some (.int .i64 s2) := keep_cell hb9 (by go_simp)
                replace x2 : w9.cell? ⟨B3, 2, none⟩ = some (.int .i64 k) := keep_cell hb9 (by go_simp)
                replace xL : B3 < w9.heap.size := block_lt_of_cell x0
                replace y0 : w9.cell? ⟨B5, 0, none⟩ = some (.int .i64 2) := keep_cell hb9 (by go_simp)
                replace y1 : w9.cell? ⟨B5, 1, none⟩ = some (.int .i64 s2) := keep_cell hb9 (by go_simp)
                replace y2 : w9.cell? ⟨B5, 2, none⟩ = some (.int .i64 k) := keep_cell hb9 (by go_simp)
                replace yL : B5 < w9.heap.size := block_lt_of_cell y0
                replace z0 : w9.cell? ⟨B7, 0, none⟩ = some (.int .i64 2) := keep_cell hb9 (by go_simp)
                replace z1 : w9.cell? ⟨B7, 1, none⟩ = some (.int .i64 n) := keep_cell hb9 (by go_simp)
                replace z2 : w9.cell? ⟨B7, 2, none⟩ = some (.int .i64 k) := keep_cell hb9 (by go_simp)
                replace zL : B7 < w9.heap.size := block_lt_of_cell z0
                go_wp2_with fail
                go_quiet (fail)
                go_wp2_with fail
                refine (true_to 2 n k true true _ H7.out).mono ?_
                rintro e w10 ⟨rfl, hb10⟩
                replace o0 : w10.cell? ⟨w.heap.size, 0, none⟩ = some (.int .i64 2) := keep_cell hb10 (by go_simp)
                replace o1 : w10.cell? ⟨w.heap.size, 1, none⟩ = some (.int .i64 on) := keep_cell hb10 (by go_simp)
                replace o2 : w10.cell? ⟨w.heap.size, 2, none⟩ = some (.int .i64 ob) := keep_cell hb10 (by go_simp)
                replace oL : w.heap.size < w10.heap.size := block_lt_of_cell o0
                replace p0 : w10.cell? ⟨w2.heap.size, 0, none⟩ = some (.int .i64 2) := keep_cell hb10 (by go_simp)
                replace p1 : w10.cell? ⟨w2.heap.size, 1, none⟩ = some (.int .i64 n) := keep_cell hb10 (by go_simp)
                replace p2 : w10.cell? ⟨w2.heap.size, 2, none⟩ = some (.int .i64 k) := keep_cell hb10 (by go_simp)
                replace pL : w2.heap.size < w10.heap.size := block_lt_of_cell p0
                replace x0 : w10.cell? ⟨B3, 0, none⟩ = some (.int .i64 2) := keep_cell hb10 (by go_simp)
                replace x1 : w10.cell? ⟨B3, 1, none⟩ = some (.int .i64 s2) := keep_cell hb10 (by go_simp)
                replace x2 : w10.cell? ⟨B3, 2, none⟩ = some (.int .i64 k) := keep_cell hb10 (by go_simp)
                replace xL : B3 < w10.heap.size := block_lt_of_cell x0
                replace y0 : w10.cell? ⟨B5, 0, none⟩ = some (.int .i64 2) := keep_cell hb10 (by go_simp)
                replace y1 : w10.cell? ⟨B5, 1, none⟩ = some (.int .i64 s2) := keep_cell hb10 (by go_simp)
                replace y2 : w10.cell? ⟨B5, 2, none⟩ = some (.int .i64 k) := keep_cell hb10 (by go_simp)
                replace yL : B5 < w10.heap.size := block_lt_of_cell y0
                replace z0 : w10.cell? ⟨B7, 0, none⟩ = some (.int .i64 2) := keep_cell hb10 (by go_simp)
                replace z1 : w10.cell? ⟨B7, 1, none⟩ = some (.int .i64 n) := keep_cell hb10 (by go_simp)
                replace z2 : w10.cell? ⟨B7, 2, none⟩ = some (.int .i64 k) := keep_cell hb10 (by go_simp)
                replace zL : B7 < w10.heap.size := block_lt_of_cell z0
                have e0 : w10.cell? ⟨w9.heap.size, 0, none⟩ = some (.int .i64 1) := keep_cell hb10 (by go_simp)
                have e1 : w10.cell? ⟨w9.heap.size, 1, none⟩ = some (.int .i64 0) := keep_cell hb10 (by go_simp)
                have e2 : w10.cell? ⟨w9.heap.size, 2, none⟩ = some (.int .i64 0) := keep_cell hb10 (by go_simp)
                have eL : w9.heap.size < w10.heap.size := block_lt_of_cell e0
                go_wp2
                go_ret
                exact ⟨rfl, (by repeat (first | exact Below.refl _ _ | assumption | refine bel_alloc ?_ _ | refine Below.drew ?_ | refine bel_drewN ?_ _ | refine bel_set ?_ (by go_light; first | (simp; done) | (simp; omega) | omega) _ | refine bel_trans ?_ (by assumption)))⟩
              · skip
                go_wp2_with fail
                refine (bin_to 21 2 n k 2 n ob 1 0 0 true _ hE).mono ?_
                rintro e w9 ⟨rfl, hb9⟩
                replace o0 : w9.cell? ⟨w.heap.size, 0, none⟩ = some (.int .i64 2) := keep_cell hb9 (by go_simp)
                replace o1 : w9.cell? ⟨w.heap.size, 1, none⟩ = some (.int .i64 n) := keep_cell hb9 (by go_simp)
                replace o2 : w9.cell? ⟨w.heap.size, 2, none⟩ = some (.int .i64 ob) := keep_cell hb9 (by go_simp)
                replace oL : w.heap.size < w9.heap.size := block_lt_of_cell o0
                replace p0 : w9.cell? ⟨w2.heap.size, 0, none⟩ = some (.int .i64 2) := keep_cell hb9 (by go_simp)
                replace p1 : w9.cell? ⟨w2.heap.size, 1, none⟩ = some (.int .i64 n) := keep_cell hb9 (by go_simp)
                replace p2 : w9.cell? ⟨w2.heap.size, 2, none⟩ = some (.int .i64 k) := keep_cell hb9 (by go_simp)
                replace pL : w2.heap.size < w9.heap.size := block_lt_of_cell p0
                replace x0 : w9.cell? ⟨B3, 0, none⟩ = some (.int .i64 2) := keep_cell hb9 (by go_simp)
                replace x1 : w9.cell? ⟨B3, 1, none⟩ = some (.int .i64 s2) := keep_cell hb9 (by go_simp)
                replace x2 : w9.cell? ⟨B3, 2, none⟩ = some (.int .i64 k) := keep_cell hb9 (by go_simp)
                replace xL : B3 < w9.heap.size := block_lt_of_cell x0
                replace y0 : w9.cell? ⟨B5, 0, none⟩ = some (.int .i64 2) := keep_cell hb9 (by go_simp)
                replace y1 : w9.cell? ⟨B5, 1, none⟩ = some (.int .i64 s2) := keep_cell hb9 (by go_simp)
                replace y2 : w9.cell? ⟨B5, 2, none⟩ = some (.int .i64 k) := keep_cell hb9 (by go_simp)
                replace yL : B5 < w9.heap.size := block_lt_of_cell y0
                replace z0 : w9.cell? ⟨B7, 0, none⟩ = some (.int .i64 2) := keep_cell hb9 (by go_simp)
                replace z1 : w9.cell? ⟨B7, 1, none⟩ = some (.int .i64 n) := keep_cell hb9 (by go_simp)
                replace z2 : w9.cell? ⟨B7, 2, none⟩ = some (.int .i64 k) := keep_cell hb9 (by go_simp)
                replace zL : B7 < w9.heap.size := block_lt_of_cell z0
                go_wp2_with fail
                go_quiet (fail)
                go_wp2_with fail
                refine (true_to 2 n k true true _ H7.out).mono ?_
                rintro e w10 ⟨rfl, hb10⟩
                replace o0 : w10.cell? ⟨w.heap.size, 0, none⟩ = some (.int .i64 2) := keep_cell hb10 (by go_simp)
                replace o1 : w10.cell? ⟨w.heap.size, 1, none⟩ = some (.int .i64 n) := keep_cell hb10 (by go_simp)
                replace o2 : w10.cell? ⟨w.heap.size, 2, none⟩ = some (.int .i64 ob) := keep_cell hb10 (by go_simp)
                replace oL : w.heap.size < w10.heap.size := block_lt_of_cell o0
                replace p0 : w10.cell? ⟨w2.heap.size, 0, none⟩ = some (.int .i64 2) := keep_cell hb10 (by go_simp)
                replace p1 : w10.cell? ⟨w2.heap.size, 1, none⟩ = some (.int .i64 n) := keep_cell hb10 (by go_simp)
                replace p2 : w10.cell? ⟨w2.heap.size, 2, none⟩ = some (.int .i64 k) := keep_cell hb10 (by go_simp)
                replace pL : w2.heap.size < w10.heap.size := block_lt_of_cell p0
                replace x0 : w10.cell? ⟨B3, 0, none⟩ = some (.int .i64 2) := keep_cell hb10 (by go_simp)
                replace x1 : w10.cell? ⟨B3, 1, none⟩ = some (.int .i64 s2) := keep_cell hb10 (by go_simp)
                replace x2 : w10.cell? ⟨B3, 2, none⟩ = some (.int .i64 k) := keep_cell hb10 (by go_simp)
                replace xL : B3 < w10.heap.size := block_lt_of_cell x0
                replace y0 : w10.cell? ⟨B5, 0, none⟩ = some (.int .i64 2) := keep_cell hb10 (by go_simp)
                replace y1 : w10.cell? ⟨B5, 1, none⟩ = some (.int .i64 s2) := keep_cell hb10 (by go_simp)
                replace y2 : w10.cell? ⟨B5, 2, none⟩ = some (.int .i64 k) := keep_cell hb10 (by go_simp)
                replace yL : B5 < w10.heap.size := block_lt_of_cell y0
                replace z0 : w10.cell? ⟨B7, 0, none⟩ = some (.int .i64 2) := keep_cell hb10 (by go_simp)
                replace z1 : w10.cell? ⟨B7, 1, none⟩ = some (.int .i64 n) := keep_cell hb10 (by go_simp)
                replace z2 : w10.cell? ⟨B7, 2, none⟩ = some (.int .i64 k) := keep_cell hb10 (by go_simp)
                replace zL : B7 < w10.heap.size := block_lt_of_cell z0
                have e0 : w10.cell? ⟨w9.heap.size, 0, none⟩ = some (.int .i64 1) := keep_cell hb10 (by go_simp)
                have e1 : w10.cell? ⟨w9.heap.size, 1, none⟩ = some (.int .i64 0) := keep_cell hb10 (by go_simp)
                have e2 : w10.cell? ⟨w9.heap.size, 2, none⟩ = some (.int .i64 0) := keep_cell hb10 (by go_simp)
                have eL : w9.heap.size < w10.heap.size := block_lt_of_cell e0
                go_wp2
                go_ret
                exact ⟨rfl, (by repeat (first | exact Below.refl _ _ | assumption | refine bel_alloc ?_ _ | refine Below.drew ?_ | refine bel_drewN ?_ _ | refine bel_set ?_ (by go_light; first | (simp; done) | (simp; omega) | omega) _ | refine bel_trans ?_ (by assumption)))⟩
              · rcases hE : binF 21 ⟨2, n, k⟩ ⟨ok, on, ob⟩ with ⟨⟨ek, en, eb⟩, fine⟩
                have HE : Hid (binF 21 ⟨2, n, k⟩ ⟨ok, on, ob⟩ = (⟨ek, en, eb⟩, fine)) := hE
                clear hE
                go_wp2_with fail
                refine (bin_to 21 2 n k ok on ob ek en eb fine _ HE.out).mono ?_
                rintro e w9 ⟨rfl, hb9⟩
                replace o0 : w9.cell? ⟨w.heap.size, 0, none⟩ = some (.int .i64 ok) := keep_cell hb9 (by go_simp)
                replace o1 : w9.cell? ⟨w.heap.size, 1, none⟩ = some (.int .i64 on) := keep_cell hb9 (by go_simp)
                replace o2 : w9.cell? ⟨w.heap.size, 2, none⟩ = some (.int .i64 ob) := keep_cell hb9 (by go_simp)
                replace oL : w.heap.size < w9.heap.size := block_lt_of_cell o0
                replace p0 : w9.cell? ⟨w2.heap.size, 0, none⟩ = some (.int .i64 2) := keep_cell hb9 (by go_simp)
                replace p1 : w9.cell? ⟨w2.heap.size, 1, none⟩ = some (.int .i64 n) := keep_cell hb9 (by go_simp)
                replace p2 : w9.cell? ⟨w2.heap.size, 2, none⟩ = some (.int .i64 k) := keep_cell hb9 (by go_simp)
                replace pL : w2.heap.size < w9.heap.size := block_lt_of_cell p0
                replace x0 : w9.cell? ⟨B3, 0, none⟩ = some (.int .i64 2) := keep_cell hb9 (by go_simp)
                replace x1 : w9.cell? ⟨B3, 1, none⟩ = some (.int .i64 s2) := keep_cell hb9 (by go_simp)
                replace x2 : w9.cell? ⟨B3, 2, none⟩ = some (.int .i64 k) := keep_cell hb9 (by go_simp)
                replace xL : B3 < w9.heap.size := block_lt_of_cell x0
                replace y0 : w9.cell? ⟨B5, 0, none⟩ = some (.int .i64 2) := keep_cell hb9 (by go_simp)
                replace y1 : w9.cell? ⟨B5, 1, none⟩ = some (.int .i64 s2) := keep_cell hb9 (by go_simp)
                replace y2 : w9.cell? ⟨B5, 2, none⟩ = some (.int .i64 k) := keep_cell hb9 (by go_simp)
                replace yL : B5 < w9.heap.size := block_lt_of_cell y0
                replace z0 : w9.cell? ⟨B7, 0, none⟩ = some (.int .i64 2) := keep_cell hb9 (by go_simp)
                replace z1 : w9.cell? ⟨B7, 1, none⟩ = some (.int .i64 n) := keep_cell hb9 (by go_simp)
                replace z2 : w9.cell? ⟨B7, 2, none⟩ = some (.int .i64 k) := keep_cell hb9 (by go_simp)
                replace zL : B7 < w9.heap.size := block_lt_of_cell z0
                go_wp2_with fail
                refine (true_to 2 n k true true _ H7.out).mono ?_
                rintro e w10 ⟨rfl, hb10⟩
                replace o0 : w10.cell? ⟨w.heap.size, 0, none⟩ = some (.int .i64 ok) := keep_cell hb10 (by go_simp)
                replace o1 : w10.cell? ⟨w.heap.size, 1, none⟩ = some (.int .i64 on) := keep_cell hb10 (by go_simp)
                replace o2 : w10.cell? ⟨w.heap.size, 2, none⟩ = some (.int .i64 ob) := keep_cell hb10 (by go_simp)
                replace oL : w.heap.size < w10.heap.size := block_lt_of_cell o0
                replace p0 : w10.cell? ⟨w2.heap.size, 0, none⟩ = some (.int .i64 2) := keep_cell hb10 (by go_simp)
                replace p1 : w10.cell? ⟨w2.heap.size, 1, none⟩ = some (.int .i64 n) := keep_cell hb10 (by go_simp)
                replace p2 : w10.cell? ⟨w2.heap.size, 2, none⟩ = some (.int .i64 k) := keep_cell hb10 (by go_simp)
                replace pL : w2.heap.size < w10.heap.size := block_lt_of_cell p0
                replace x0 : w10.cell? ⟨B3, 0, none⟩ = some (.int .i64 2) := keep_cell hb10 (by go_simp)
                replace x1 : w10.cell? ⟨B3, 1, none⟩ = some (.int .i64 s2) := keep_cell hb10 (by go_simp)
                replace x2 : w10.cell? ⟨B3, 2, none⟩ = some (.int .i64 k) := keep_cell hb10 (by go_simp)
                replace xL : B3 < w10.heap.size := block_lt_of_cell x0
                replace y0 : w10.cell? ⟨B5, 0, none⟩ = some (.int .i64 2) := keep_cell hb10 (by go_simp)
                replace y1 : w10.cell? ⟨B5, 1, none⟩ = some (.int .i64 s2) := keep_cell hb10 (by go_simp)
                replace y2 : w10.cell? ⟨B5, 2, none⟩ = some (.int .i64 k) := keep_cell hb10 (by go_simp)
                replace yL : B5 < w10.heap.size := block_lt_of_cell y0
                replace z0 : w10.cell? ⟨B7, 0, none⟩ = some (.int .i64 2) := keep_cell hb10 (by go_simp)
                replace z1 : w10.cell? ⟨B7, 1, none⟩ = some (.int .i64 n) := keep_cell hb10 (by go_simp)
                replace z2 : w10.cell? ⟨B7, 2, none⟩ = some (.int .i64 k) := keep_cell hb10 (by go_simp)
                replace zL : B7 < w10.heap.size := block_lt_of_cell z0
                have e0 : w10.cell? ⟨w9.heap.size, 0, none⟩ = some (.int .i64 ek) := keep_cell hb10 (by go_simp)
                have e1 : w10.cell? ⟨w9.heap.size, 1, none⟩ = some (.int .i64 en) := keep_cell hb10 (by go_simp)
                have e2 : w10.cell? ⟨w9.heap.size, 2, none⟩ = some (.int .i64 eb) := keep_cell hb10 (by go_simp)
                have eL : w9.heap.size < w10.heap.size := block_lt_of_cell e0
                go_wp2
                go_ret
                exact ⟨rfl, (by repeat (first | exact Below.refl _ _ | assumption | refine bel_alloc ?_ _ | refine Below.drew ?_ | refine bel_drewN ?_ _ | refine bel_set ?_ (by go_light; first | (simp; done) | (simp; omega) | omega) _ | refine bel_trans ?_ (by assumption)))⟩
              · rcases hE : binF 21 ⟨2, n, k⟩ ⟨2, on, ob⟩ with ⟨⟨ek, en, eb⟩, fine⟩
                have HE : Hid (binF 21 ⟨2, n, k⟩ ⟨2, on, ob⟩ = (⟨ek, en, eb⟩, fine)) := hE
                clear hE
                go_wp2_with fail
                refine (bin_to 21 2 n k 2 on ob ek en eb fine _ HE.out).mono ?_
                rintro e w9 ⟨rfl, hb9⟩
                replace o0 : w9.cell? ⟨w.heap.size, 0, none⟩ = some (.int .i64 2) := keep_cell hb9 (by go_simp)
                replace o1 : w9.cell? ⟨w.heap.size, 1, none⟩ = some (.int .i64 on) := keep_cell hb9 (by go_simp)
                replace o2 : w9.cell? ⟨w.heap.size, 2, none⟩ = some (.int .i64 ob) := keep_cell hb9 (by go_simp)
                replace oL : w.heap.size < w9.heap.size := block_lt_of_cell o0
                replace p0 : w9.cell? ⟨w2.heap.size, 0, none⟩ = some (.int .i64 2) := keep_cell hb9 (by go_simp)
                replace p1 : w9.cell? ⟨w2.heap.size, 1, none⟩ = some (.int .i64 n) := keep_cell hb9 (by go_simp)
                replace p2 : w9.cell? ⟨w2.heap.size, 2, none⟩ = some (.int .i64 k) := keep_cell hb9 (by go_simp)
                replace pL : w2.heap.size < w9.heap.size := block_lt_of_cell p0
                replace x0 : w9.cell? ⟨B3, 0, none⟩ = some (.int .i64 2) := keep_cell hb9 (by go_simp)
                replace x1 : w9.cell? ⟨B3, 1, none⟩ = some (.int .i64 s2) := keep_cell hb9 (by go_simp)
                replace x2 : w9.cell? ⟨B3, 2, none⟩ = some (.int .i64 k) := keep_cell hb9 (by go_simp)
                replace xL : B3 < w9.heap.size := block_lt_of_cell x0
                replace y0 : w9.cell? ⟨B5, 0, none⟩ = some (.int .i64 2) := keep_cell hb9 (by go_simp)
                replace y1 : w9.cell? ⟨B5, 1, none⟩ = some (.int .i64 s2) := keep_cell hb9 (by go_simp)
                replace y2 : w9.cell? ⟨B5, 2, none⟩ = some (.int .i64 k) := keep_cell hb9 (by go_simp)
                replace yL : B5 < w9.heap.size := block_lt_of_cell y0
                replace z0 : w9.cell? ⟨B7, 0, none⟩ = some (.int .i64 2) := keep_cell hb9 (by go_simp)
                replace z1 : w9.cell? ⟨B7, 1, none⟩ = some (.int .i64 n) := keep_cell hb9 (by go_simp)
                replace z2 : w9.cell? ⟨B7, 2, none⟩ = some (.int .i64 k) := keep_cell hb9 (by go_simp)
                replace zL : B7 < w9.heap.size := block_lt_of_cell z0
                go_wp2_with fail
                refine (true_to 2 n k true true _ H7.out).mono ?_
                rintro e w10 ⟨rfl, hb10⟩
                replace o0 : w10.cell? ⟨w.heap.size, 0, none⟩ = some (.int .i64 2) := keep_cell hb10 (by go_simp)
                replace o1 : w10.cell? ⟨w.heap.size, 1, none⟩ = some (.int .i64 on) := keep_cell hb10 (by go_simp)
                replace o2 : w10.cell? ⟨w.heap.size, 2, none⟩ = some (.int .i64 ob) := keep_cell hb10 (by go_simp)
                replace oL : w.heap.size < w10.heap.size := block_lt_of_cell o0
                replace p0 : w10.cell? ⟨w2.heap.size, 0, none⟩ = some (.int .i64 2) := keep_cell hb10 (by go_simp)
                replace p1 : w10.cell? ⟨w2.heap.size, 1, none⟩ = some (.int .i64 n) := keep_cell hb10 (by go_simp)
                replace p2 : w10.cell? ⟨w2.heap.size, 2, none⟩ = some (.int .i64 k) := keep_cell hb10 (by go_simp)
                replace pL : w2.heap.size < w10.heap.size := block_lt_of_cell p0
                replace x0 : w10.cell? ⟨B3, 0, none⟩ = some (.int .i64 2) := keep_cell hb10 (by go_simp)
                replace x1 : w10.cell? ⟨B3, 1, none⟩ = some (.int .i64 s2) := keep_cell hb10 (by go_simp)
                replace x2 : w10.cell? ⟨B3, 2, none⟩ = some (.int .i64 k) := keep_cell hb10 (by go_simp)
                replace xL : B3 < w10.heap.size := block_lt_of_cell x0
                replace y0 : w10.cell? ⟨B5, 0, none⟩ = some (.int .i64 2) := keep_cell hb10 (by go_simp)
                replace y1 : w10.cell? ⟨B5, 1, none⟩ = some (.int .i64 s2) := keep_cell hb10 (by go_simp)
                replace y2 : w10.cell? ⟨B5, 2, none⟩ = some (.int .i64 k) := keep_cell hb10 (by go_simp)
                replace yL : B5 < w10.heap.size := block_lt_of_cell y0
                replace z0 : w10.cell? ⟨B7, 0, none⟩ = some (.int .i64 2) := keep_cell hb10 (by go_simp)
                replace z1 : w10.cell? ⟨B7, 1, none⟩ = some (.int .i64 n) := keep_cell hb10 (by go_simp)
                replace z2 : w10.cell? ⟨B7, 2, none⟩ = some (.int .i64 k) := keep_cell hb10 (by go_simp)
                replace zL : B7 < w10.heap.size := block_lt_of_cell z0
                have e0 : w10.cell? ⟨w9.heap.size, 0, none⟩ = some (.int .i64 ek) := keep_cell hb10 (by go_simp)
                have e1 : w10.cell? ⟨w9.heap.size, 1, none⟩ = some (.int .i64 en) := keep_cell hb10 (by go_simp)
                have e2 : w10.cell? ⟨w9.heap.size, 2, none⟩ = some (.int .i64 eb) := keep_cell hb10 (by go_simp)
                have eL : w9.heap.size < w10.heap.size := block_lt_of_cell e0
                go_wp2
                go_ret
                exact ⟨rfl, (by repeat (first | exact Below.refl _ _ | assumption | refine bel_alloc ?_ _ | refine Below.drew ?_ | refine bel_drewN ?_ _ | refine bel_set ?_ (by go_light; first | (simp; done) | (simp; omega) | omega) _ | refine bel_trans ?_ (by assumption)))⟩

set_option maxHeartbeats 1000000 in
theorem pointers_early (k n a b ok on ob : Int) (w : World) (ht : Tab w) (hk : k < 1) :
    Calls Tryd.prog 4 #[.int .i64 k, .int .i64 n, .int .i64 a, .int .i64 b, .agg #[.int .i64 ok, .int .i64 on, .int .i64 ob]] w (retP (.bool true) w) := by
  go_enter Tryd.func4, Tryd.ntmps4
  go_wp2_with fail
  refine (awake_any _ (tab_keep ht (by repeat (first | exact Below.refl _ _ | refine bel_alloc ?_ _ | refine bel_set ?_ (by first | exact Nat.le_refl _ | (simp; done) | (simp; omega)) _ | refine Below.drew ?_ | refine bel_trans ?_ (by assumption))))).mono ?_
  rintro e w1 ⟨rfl, hb1⟩
  go_wp2
  go_ret
  exact ⟨rfl, (by repeat (first | exact Below.refl _ _ | refine bel_alloc ?_ _ | refine bel_set ?_ (by first | exact Nat.le_refl _ | (simp; done) | (simp; omega)) _ | refine Below.drew ?_ | refine bel_trans ?_ (by assumption)))⟩

theorem binpi11 (n a k : Int) (h : 1 ≤ k) : binF 11 ⟨2, n, k⟩ ⟨1, a, 0⟩ = (⟨2, wrap64 (n + a), k⟩, true) := by simp [binF, kind_ptr n k h, kind_int, pintF, atF, show ¬ k < 1 by omega]
theorem binip11 (n a k : Int) (h : 1 ≤ k) : binF 11 ⟨1, a, 0⟩ ⟨2, n, k⟩ = (⟨2, wrap64 (n + a), k⟩, true) := by simp [binF, kind_ptr n k h, kind_int, pintF, atF, show ¬ k < 1 by omega]
theorem binpi12 (n a k : Int) (h : 1 ≤ k) : binF 12 ⟨2, n, k⟩ ⟨1, a, 0⟩ = (⟨2, wrap64 (n - a), k⟩, true) := by simp [binF, kind_ptr n k h, kind_int, pintF, atF, show ¬ k < 1 by omega]
theorem valPointers_walk (k n a b ok on ob : Int) (x0 : (Lit.int .i64 k).wf = true) (x1 : (Lit.int .i64 n).wf = true) (x2 : (Lit.int .i64 a).wf = true) (x3 : (Lit.int .i64 b).wf = true) (xk : (Lit.int .i64 ok).wf = true) (xn : (Lit.int .i64 on).wf = true) (xb : (Lit.int .i64 ob).wf = true) (w : World) (ht : Tab w) :
    Calls Tryd.prog 4 #[.int .i64 k, .int .i64 n, .int .i64 a, .int .i64 b, .agg #[.int .i64 ok, .int .i64 on, .int .i64 ob]] w (retP (.bool true) w) := by
  obtain ⟨n0, n1⟩ := bnd x1
  by_cases hk : k < 1
  · exact pointers_early k n a b ok on ob w ht hk
  have k1 : 1 ≤ k := by omega
  have h4 := binip11 (wrap64 (n + b)) a k k1
  rw [show wrap64 (wrap64 (n + b) + a) = wrap64 (wrap64 (n + a) + b) by unfold wrap64; omega] at h4
  have h6 := binpi12 (wrap64 (wrap64 (wrap64 (n + a) + b) - a)) b k k1
  rw [show wrap64 (wrap64 (wrap64 (wrap64 (n + a) + b) - a) - b) = n by unfold wrap64; omega] at h6
  refine pointers_core (w := w) (ht := ht) (hk := hk) (H0 := by show atF k n = _; simp [atF, hk]) (H1 := binpi11 n a k k1) (H2 := binpi11 _ b k k1) (H3 := binip11 n b k k1) (H4 := h4) (H5 := binpi12 _ a k k1) (H6 := h6) (H7 := by show trueF _ = _; simp [trueF, kind_ptr n k k1]) (HC := ?_)
  by_cases h2 : ok = 2
  · subst h2
    by_cases h1 : 1 ≤ ob
    · by_cases hn : n = on
      · subst hn
        by_cases hb : k = ob
        · subst hb
          exact .inl ⟨rfl, rfl, rfl, by simp [binF, kind_ptr n k k1, ptrsF, bitF, bitN, ofF]⟩
        · exact .inr (.inr (.inl ⟨rfl, h1, by simp [hb], rfl, by simp [binF, kind_ptr n k k1, kind_ptr n ob h1, ptrsF, bitF, bitN, ofF, hb]⟩))
      · exact .inr (.inl ⟨rfl, h1, by simp [hn], by simp [binF, kind_ptr n k k1, kind_ptr on ob h1, ptrsF, bitF, bitN, ofF, hn]⟩)
    · exact .inr (.inr (.inr (.inr ⟨rfl, h1⟩)))
  · exact .inr (.inr (.inr (.inl (by simp [h2]))))

set_option maxRecDepth 100000 in
theorem valPointers_lifted (os : Os) (started : os.Started) (H : Type) (enc : TypeId × Value → H) :
    ReturnsInHanded {} Tryd.checked os 4 .any (fun w args => (Rows.valPointersSpec.pre enc Tryd.prog Tryd.f4 [] false w args ∧ laidMetH Tryd.prog laid3 w) ∧ sizedMet enc Tryd.prog Tryd.f4 (OpenSpec.ofChange Rows.valPointersSpec) false w args)
      (Rows.valPointersSpec.post enc Tryd.prog Tryd.f4 false true false false) := by
  refine returnsInHanded_of_change_and (C := Tryd.checked) (X := fun w _ => laidMetH Tryd.prog laid3 w) (fun _ _ _ hh h => h.of_heap hh) own started (by kernel_rfl) Tryd.func4
    (ChangeSpec.witness_shaped (enc := enc) (C := Tryd.checked) (os := os) (X := fun w _ => laidMetH Tryd.prog laid3 w) false (World.doorLaid Tryd.prog 400 os) #[.int .i64 0, .int .i64 0, .int .i64 0, .int .i64 0, .agg #[.int .i64 0, .int .i64 0, .int .i64 0]] 8 rfl (World.shaped_of_RefB (by kernel_rfl) (by kernel_rfl)) (by kernel_rfl) (by kernel_rfl) (by kernel_rfl) (door_met os _)) ?_
  intro W base args ds gs before hval0 hW _ _ hL _
  have hval : ∀ (j : Nat) t v, Tryd.f4.params[j]? = some t → args[j]? = some v → Value.okWide Tryd.prog W .any base t v := hval0
  have hW' := hW
  obtain ⟨p, q, hA0, hV, rfl, hfz, hnd⟩ := hW
  have hA : DataW.TrodAll enc Tryd.prog W 0 (fun _ => true) true Tryd.f4.params.toList args.toList ds p := hA0
  rw [Tryd.params4] at hA hval
  obtain ⟨v0, vs0, d0, ds0, p0, q0, hargs, rfl, rfl, h0, r0⟩ := trodAll_cons hA
  obtain ⟨v1, vs1, d1, ds1, p1, q1, rfl, rfl, rfl, h1, r1⟩ := trodAll_cons r0
  obtain ⟨v2, vs2, d2, ds2, p2, q2, rfl, rfl, rfl, h2, r2⟩ := trodAll_cons r1
  obtain ⟨v3, vs3, d3, ds3, p3, q3, rfl, rfl, rfl, h3, r3⟩ := trodAll_cons r2
  obtain ⟨v4, vs4, d4, ds4, p4, q4, rfl, rfl, rfl, h4, r4⟩ := trodAll_cons r3
  obtain ⟨rfl, rfl, rfl⟩ := trodAll_nil r4
  obtain rfl : args = #[v0, v1, v2, v3, v4] := by cases args; simp_all
  obtain ⟨rfl, rfl⟩ := trodVars_none hV
  obtain ⟨a0, rfl, rfl, rfl, x0⟩ := open_int Tryd.underlying3 (hval 0 3 v0 rfl rfl) h0
  obtain ⟨a1, rfl, rfl, rfl, x1⟩ := open_int Tryd.underlying2 (hval 1 2 v1 rfl rfl) h1
  obtain ⟨a2, rfl, rfl, rfl, x2⟩ := open_int Tryd.underlying2 (hval 2 2 v2 rfl rfl) h2
  obtain ⟨a3, rfl, rfl, rfl, x3⟩ := open_int Tryd.underlying2 (hval 3 2 v3 rfl rfl) h3
  obtain ⟨k4, n4, b4, rfl, rfl, rfl, xk4, xn4, xb4⟩ := open_val (hval 4 24 v4 rfl rfl) h4
  clear hA0 hval0
  simp only [List.append_nil] at hW'
  refine (valPointers_walk a0 a1 a2 a3 k4 n4 b4 x0 x1 x2 x3 xk4 xn4 xb4 W (tab_of_laid hL)).mono fun e W' ⟨he, hb⟩ => ?_
  subst he
  exact ⟨_, rfl, _, _, _, [], [], [], hW', (trodAll_cons_mk (shut_bool Tryd.underlying4 _) trodAll_mk0), (trodAll_cons_mk (shut_int Tryd.underlying3 x0) (trodAll_cons_mk (shut_int Tryd.underlying2 x1) (trodAll_cons_mk (shut_int Tryd.underlying2 x2) (trodAll_cons_mk (shut_int Tryd.underlying2 x3) (trodAll_cons_mk (shut_val xk4 xn4 xb4) trodAll_mk0))))), rfl, hb.frame _, fun h => by cases h⟩

theorem valPointers_row : Rows.ValPointersSaid :=
  OpenClaim.holds_of_wide 4 Tryd.f4 rfl rfl rfl rfl rfl rfl rfl ⟨rfl, rfl, rfl, rfl, rfl⟩ rfl rfl rfl rfl rfl (by kernel_rfl) Tryd.func4 (by kernel_rfl)
    (of_decide_eq_true (by kernel_rfl)) (by unfold Func.isWrapper; first | (rw [if_pos (by decide +kernel)]; kernel_rfl) | (rw [if_neg (by decide +kernel)]; exact ⟨rfl, rfl⟩))
    (fun os started H enc _ => valPointers_lifted os started H enc)

/-- THE STATEMENT. -/
theorem valPointers_holds : Rows.ValPointersCardSaid :=
  Claim7.holds_tied_plain_at .later [] [.data, .data, .data] true (true, "6431ef41c5ed60f50f64033aaccf2b6f87d9b809db1196f6136aabae1e836a59") false
    valPointers_row (fun _ h => by cases h) (by kernel_rfl) (fun _ h => by cases h) valPointers_row_tie rfl ⟨rfl, rfl⟩ (by kernel_rfl) rfl
    (fun f fn hf hfn => by
      obtain rfl : f = 4 := Option.some.inj ((show Tryd.prog.funcNamed "plumbob/plumboblaw1.ValPointers" = some 4 by kernel_rfl).symm.trans hf) |>.symm
      obtain rfl : fn = Tryd.f4 := (Option.some.inj (Tryd.func4.symm.trans hfn)).symm
      exact ⟨by kernel_rfl, fun j t ht => by
        rw [Tryd.params4] at ht
        have hm : t ∈ [3, 2, 2, 2, 24] := by simpa using Array.mem_of_getElem? ht
        have hall : ([3, 2, 2, 2, 24].all fun u => !Tryd.prog.wantsStandIn u) = true := by kernel_rfl
        exact (show Tryd.prog.wantsStandIn t = false by simpa using List.all_eq_true.1 hall t hm)⟩)
    (by kernel_rfl)
#print axioms valPointers_holds

end Go.Proofs.YtfkalcfkbaimgabDoor
