/- The document's own machine code: which instructions are right: operations. -/
import Derived.Test.YtofnnpchobgapaaGreatDoorAsR1
namespace Go.Proofs.YtofnnpchobgapaaGreatDoor
open Go.ChangeShapes Go.WideShapes Go.ChangeAt Go.RowKit
set_option linter.unusedSimpArgs false
set_option linter.unusedVariables false

set_option maxRecDepth 100000 in
set_option maxHeartbeats 8000000 in
theorem aright1 (r m sub cc l k : Int) (w : World) (res : Bool) (HN : Hid (∀ W, Calls Tryz.prog 27 #[.agg #[.int .i64 1, .int .i64 r, .int .i64 m, .int .i64 sub, .int .i64 cc, .int .i64 l, .int .i64 k]] W (retT true true W))) (HW : Hid (∀ W, Calls Tryz.prog 28 #[.agg #[.int .i64 1, .int .i64 r, .int .i64 m, .int .i64 sub, .int .i64 cc, .int .i64 l, .int .i64 k]] W (retP (.bool true) W)))
    (qr0 : decide (r < 0) = false) (qr1 : decide (15 < r) = false) (qm0 : decide (m < 0) = false) (qm1 : decide (15 < m) = false) (q4 : (r == 4) = false) (HE : Hid (res = (arestB ⟨1, r, m, sub, cc, l, k⟩))) : Calls Tryz.prog 18 #[.agg #[.int .i64 1, .int .i64 r, .int .i64 m, .int .i64 sub, .int .i64 cc, .int .i64 l, .int .i64 k]] w (retP (.bool res) w) := by
  cases q4m : (m == 4) with
  | true =>
    have er : res = true := by rw [HE.out]; simp [arestB, *]
    subst er
    clear HE
    go_enter Tryz.func18, Tryz.ntmps18
    go_wp2_with (first | (go_at_call 27; refine (HN.out _).mono ?_; rintro e w1 ⟨rfl, hb1⟩; have HB1 := hid (bel_trans (bel_alloc (Below.refl _ _) _) hb1); have c0 := keep_cell hb1 (p := ⟨w.heap.size, 0, none⟩) (v := .int .i64 1) (by simp); have c1 := keep_cell hb1 (p := ⟨w.heap.size, 1, none⟩) (v := .int .i64 r) (by simp); have c2 := keep_cell hb1 (p := ⟨w.heap.size, 2, none⟩) (v := .int .i64 m) (by simp); have c3 := keep_cell hb1 (p := ⟨w.heap.size, 3, none⟩) (v := .int .i64 sub) (by simp); have c4 := keep_cell hb1 (p := ⟨w.heap.size, 4, none⟩) (v := .int .i64 cc) (by simp); have c5 := keep_cell hb1 (p := ⟨w.heap.size, 5, none⟩) (v := .int .i64 l) (by simp); have c6 := keep_cell hb1 (p := ⟨w.heap.size, 6, none⟩) (v := .int .i64 k) (by simp); clear hb1) | (go_at_call 28; refine (HW.out _).mono ?_; rintro e w2 ⟨rfl, hb2⟩; have HB2 := hid (bel_trans HB1.out hb2); replace c0 := keep_cell hb2 c0; replace c1 := keep_cell hb2 c1; replace c2 := keep_cell hb2 c2; replace c3 := keep_cell hb2 c3; replace c4 := keep_cell hb2 c4; replace c5 := keep_cell hb2 c5; replace c6 := keep_cell hb2 c6; clear hb2))
    go_ret
    exact ⟨rfl, HB2.out⟩
  | false =>
    have er : res = true := by rw [HE.out]; simp [arestB, *]
    subst er
    clear HE
    go_enter Tryz.func18, Tryz.ntmps18
    go_wp2_with (first | (go_at_call 27; refine (HN.out _).mono ?_; rintro e w1 ⟨rfl, hb1⟩; have HB1 := hid (bel_trans (bel_alloc (Below.refl _ _) _) hb1); have c0 := keep_cell hb1 (p := ⟨w.heap.size, 0, none⟩) (v := .int .i64 1) (by simp); have c1 := keep_cell hb1 (p := ⟨w.heap.size, 1, none⟩) (v := .int .i64 r) (by simp); have c2 := keep_cell hb1 (p := ⟨w.heap.size, 2, none⟩) (v := .int .i64 m) (by simp); have c3 := keep_cell hb1 (p := ⟨w.heap.size, 3, none⟩) (v := .int .i64 sub) (by simp); have c4 := keep_cell hb1 (p := ⟨w.heap.size, 4, none⟩) (v := .int .i64 cc) (by simp); have c5 := keep_cell hb1 (p := ⟨w.heap.size, 5, none⟩) (v := .int .i64 l) (by simp); have c6 := keep_cell hb1 (p := ⟨w.heap.size, 6, none⟩) (v := .int .i64 k) (by simp); clear hb1) | (go_at_call 28; refine (HW.out _).mono ?_; rintro e w2 ⟨rfl, hb2⟩; have HB2 := hid (bel_trans HB1.out hb2); replace c0 := keep_cell hb2 c0; replace c1 := keep_cell hb2 c1; replace c2 := keep_cell hb2 c2; replace c3 := keep_cell hb2 c3; replace c4 := keep_cell hb2 c4; replace c5 := keep_cell hb2 c5; replace c6 := keep_cell hb2 c6; clear hb2))
    go_ret
    exact ⟨rfl, HB2.out⟩
set_option maxRecDepth 100000 in
set_option maxHeartbeats 8000000 in
theorem aright2 (r m sub cc l k : Int) (w : World) (res : Bool) (HN : Hid (∀ W, Calls Tryz.prog 27 #[.agg #[.int .i64 2, .int .i64 r, .int .i64 m, .int .i64 sub, .int .i64 cc, .int .i64 l, .int .i64 k]] W (retT true false W))) (HW : Hid (∀ W, Calls Tryz.prog 28 #[.agg #[.int .i64 2, .int .i64 r, .int .i64 m, .int .i64 sub, .int .i64 cc, .int .i64 l, .int .i64 k]] W (retP (.bool true) W)))
    (qr0 : decide (r < 0) = false) (qr1 : decide (15 < r) = false) (q4 : (r == 4) = false) (HE : Hid (res = (arestB ⟨2, r, m, sub, cc, l, k⟩))) : Calls Tryz.prog 18 #[.agg #[.int .i64 2, .int .i64 r, .int .i64 m, .int .i64 sub, .int .i64 cc, .int .i64 l, .int .i64 k]] w (retP (.bool res) w) := by
  have er : res = true := by rw [HE.out]; simp [arestB, *]
  subst er
  clear HE
  go_enter Tryz.func18, Tryz.ntmps18
  go_wp2_with (first | (go_at_call 27; refine (HN.out _).mono ?_; rintro e w1 ⟨rfl, hb1⟩; have HB1 := hid (bel_trans (bel_alloc (Below.refl _ _) _) hb1); have c0 := keep_cell hb1 (p := ⟨w.heap.size, 0, none⟩) (v := .int .i64 2) (by simp); have c1 := keep_cell hb1 (p := ⟨w.heap.size, 1, none⟩) (v := .int .i64 r) (by simp); have c2 := keep_cell hb1 (p := ⟨w.heap.size, 2, none⟩) (v := .int .i64 m) (by simp); have c3 := keep_cell hb1 (p := ⟨w.heap.size, 3, none⟩) (v := .int .i64 sub) (by simp); have c4 := keep_cell hb1 (p := ⟨w.heap.size, 4, none⟩) (v := .int .i64 cc) (by simp); have c5 := keep_cell hb1 (p := ⟨w.heap.size, 5, none⟩) (v := .int .i64 l) (by simp); have c6 := keep_cell hb1 (p := ⟨w.heap.size, 6, none⟩) (v := .int .i64 k) (by simp); clear hb1) | (go_at_call 28; refine (HW.out _).mono ?_; rintro e w2 ⟨rfl, hb2⟩; have HB2 := hid (bel_trans HB1.out hb2); replace c0 := keep_cell hb2 c0; replace c1 := keep_cell hb2 c1; replace c2 := keep_cell hb2 c2; replace c3 := keep_cell hb2 c3; replace c4 := keep_cell hb2 c4; replace c5 := keep_cell hb2 c5; replace c6 := keep_cell hb2 c6; clear hb2))
  go_ret
  exact ⟨rfl, HB2.out⟩
set_option maxRecDepth 100000 in
set_option maxHeartbeats 8000000 in
theorem aright3 (r m sub cc l k : Int) (w : World) (res : Bool) (HN : Hid (∀ W, Calls Tryz.prog 27 #[.agg #[.int .i64 3, .int .i64 r, .int .i64 m, .int .i64 sub, .int .i64 cc, .int .i64 l, .int .i64 k]] W (retT true true W))) (HW : Hid (∀ W, Calls Tryz.prog 28 #[.agg #[.int .i64 3, .int .i64 r, .int .i64 m, .int .i64 sub, .int .i64 cc, .int .i64 l, .int .i64 k]] W (retP (.bool true) W)))
    (qr0 : decide (r < 0) = false) (qr1 : decide (15 < r) = false) (qm0 : decide (m < 0) = false) (qm1 : decide (15 < m) = false) (q4 : (r == 4) = false) (HE : Hid (res = (arestB ⟨3, r, m, sub, cc, l, k⟩))) : Calls Tryz.prog 18 #[.agg #[.int .i64 3, .int .i64 r, .int .i64 m, .int .i64 sub, .int .i64 cc, .int .i64 l, .int .i64 k]] w (retP (.bool res) w) := by
  cases q4m : (m == 4) with
  | true =>
    cases s1 : (sub == 1) with
    | true =>
      have er : res = a32B k := by rw [HE.out]; simp [arestB, *]
      subst er
      clear HE
      go_enter Tryz.func18, Tryz.ntmps18
      go_wp2_with (first | (go_at_call 27; refine (HN.out _).mono ?_; rintro e w1 ⟨rfl, hb1⟩; have HB1 := hid (bel_trans (bel_alloc (Below.refl _ _) _) hb1); have c0 := keep_cell hb1 (p := ⟨w.heap.size, 0, none⟩) (v := .int .i64 3) (by simp); have c1 := keep_cell hb1 (p := ⟨w.heap.size, 1, none⟩) (v := .int .i64 r) (by simp); have c2 := keep_cell hb1 (p := ⟨w.heap.size, 2, none⟩) (v := .int .i64 m) (by simp); have c3 := keep_cell hb1 (p := ⟨w.heap.size, 3, none⟩) (v := .int .i64 sub) (by simp); have c4 := keep_cell hb1 (p := ⟨w.heap.size, 4, none⟩) (v := .int .i64 cc) (by simp); have c5 := keep_cell hb1 (p := ⟨w.heap.size, 5, none⟩) (v := .int .i64 l) (by simp); have c6 := keep_cell hb1 (p := ⟨w.heap.size, 6, none⟩) (v := .int .i64 k) (by simp); clear hb1) | (go_at_call 28; refine (HW.out _).mono ?_; rintro e w2 ⟨rfl, hb2⟩; have HB2 := hid (bel_trans HB1.out hb2); replace c0 := keep_cell hb2 c0; replace c1 := keep_cell hb2 c1; replace c2 := keep_cell hb2 c2; replace c3 := keep_cell hb2 c3; replace c4 := keep_cell hb2 c4; replace c5 := keep_cell hb2 c5; replace c6 := keep_cell hb2 c6; clear hb2) | (go_at_call 29; refine (asmall_any _ _).mono ?_; rintro e w3 ⟨rfl, hw⟩; replace hw := hw.symm; subst hw))
      go_ret
      exact ⟨rfl, HB2.out⟩
    | false =>
      cases s4 : (sub == 4) with
      | true =>
        have er : res = a32B k := by rw [HE.out]; simp [arestB, *]
        subst er
        clear HE
        go_enter Tryz.func18, Tryz.ntmps18
        go_wp2_with (first | (go_at_call 27; refine (HN.out _).mono ?_; rintro e w1 ⟨rfl, hb1⟩; have HB1 := hid (bel_trans (bel_alloc (Below.refl _ _) _) hb1); have c0 := keep_cell hb1 (p := ⟨w.heap.size, 0, none⟩) (v := .int .i64 3) (by simp); have c1 := keep_cell hb1 (p := ⟨w.heap.size, 1, none⟩) (v := .int .i64 r) (by simp); have c2 := keep_cell hb1 (p := ⟨w.heap.size, 2, none⟩) (v := .int .i64 m) (by simp); have c3 := keep_cell hb1 (p := ⟨w.heap.size, 3, none⟩) (v := .int .i64 sub) (by simp); have c4 := keep_cell hb1 (p := ⟨w.heap.size, 4, none⟩) (v := .int .i64 cc) (by simp); have c5 := keep_cell hb1 (p := ⟨w.heap.size, 5, none⟩) (v := .int .i64 l) (by simp); have c6 := keep_cell hb1 (p := ⟨w.heap.size, 6, none⟩) (v := .int .i64 k) (by simp); clear hb1) | (go_at_call 28; refine (HW.out _).mono ?_; rintro e w2 ⟨rfl, hb2⟩; have HB2 := hid (bel_trans HB1.out hb2); replace c0 := keep_cell hb2 c0; replace c1 := keep_cell hb2 c1; replace c2 := keep_cell hb2 c2; replace c3 := keep_cell hb2 c3; replace c4 := keep_cell hb2 c4; replace c5 := keep_cell hb2 c5; replace c6 := keep_cell hb2 c6; clear hb2) | (go_at_call 29; refine (asmall_any _ _).mono ?_; rintro e w3 ⟨rfl, hw⟩; replace hw := hw.symm; subst hw))
        go_ret
        exact ⟨rfl, HB2.out⟩
      | false =>
        cases s8 : (sub == 8) with
        | true =>
          have er : res = a32B k := by rw [HE.out]; simp [arestB, *]
          subst er
          clear HE
          go_enter Tryz.func18, Tryz.ntmps18
          go_wp2_with (first | (go_at_call 27; refine (HN.out _).mono ?_; rintro e w1 ⟨rfl, hb1⟩; have HB1 := hid (bel_trans (bel_alloc (Below.refl _ _) _) hb1); have c0 := keep_cell hb1 (p := ⟨w.heap.size, 0, none⟩) (v := .int .i64 3) (by simp); have c1 := keep_cell hb1 (p := ⟨w.heap.size, 1, none⟩) (v := .int .i64 r) (by simp); have c2 := keep_cell hb1 (p := ⟨w.heap.size, 2, none⟩) (v := .int .i64 m) (by simp); have c3 := keep_cell hb1 (p := ⟨w.heap.size, 3, none⟩) (v := .int .i64 sub) (by simp); have c4 := keep_cell hb1 (p := ⟨w.heap.size, 4, none⟩) (v := .int .i64 cc) (by simp); have c5 := keep_cell hb1 (p := ⟨w.heap.size, 5, none⟩) (v := .int .i64 l) (by simp); have c6 := keep_cell hb1 (p := ⟨w.heap.size, 6, none⟩) (v := .int .i64 k) (by simp); clear hb1) | (go_at_call 28; refine (HW.out _).mono ?_; rintro e w2 ⟨rfl, hb2⟩; have HB2 := hid (bel_trans HB1.out hb2); replace c0 := keep_cell hb2 c0; replace c1 := keep_cell hb2 c1; replace c2 := keep_cell hb2 c2; replace c3 := keep_cell hb2 c3; replace c4 := keep_cell hb2 c4; replace c5 := keep_cell hb2 c5; replace c6 := keep_cell hb2 c6; clear hb2) | (go_at_call 29; refine (asmall_any _ _).mono ?_; rintro e w3 ⟨rfl, hw⟩; replace hw := hw.symm; subst hw))
          go_ret
          exact ⟨rfl, HB2.out⟩
        | false =>
          have er : res = false := by rw [HE.out]; simp [arestB, *]
          subst er
          clear HE
          go_enter Tryz.func18, Tryz.ntmps18
          go_wp2_with (first | (go_at_call 27; refine (HN.out _).mono ?_; rintro e w1 ⟨rfl, hb1⟩; have HB1 := hid (bel_trans (bel_alloc (Below.refl _ _) _) hb1); have c0 := keep_cell hb1 (p := ⟨w.heap.size, 0, none⟩) (v := .int .i64 3) (by simp); have c1 := keep_cell hb1 (p := ⟨w.heap.size, 1, none⟩) (v := .int .i64 r) (by simp); have c2 := keep_cell hb1 (p := ⟨w.heap.size, 2, none⟩) (v := .int .i64 m) (by simp); have c3 := keep_cell hb1 (p := ⟨w.heap.size, 3, none⟩) (v := .int .i64 sub) (by simp); have c4 := keep_cell hb1 (p := ⟨w.heap.size, 4, none⟩) (v := .int .i64 cc) (by simp); have c5 := keep_cell hb1 (p := ⟨w.heap.size, 5, none⟩) (v := .int .i64 l) (by simp); have c6 := keep_cell hb1 (p := ⟨w.heap.size, 6, none⟩) (v := .int .i64 k) (by simp); clear hb1) | (go_at_call 28; refine (HW.out _).mono ?_; rintro e w2 ⟨rfl, hb2⟩; have HB2 := hid (bel_trans HB1.out hb2); replace c0 := keep_cell hb2 c0; replace c1 := keep_cell hb2 c1; replace c2 := keep_cell hb2 c2; replace c3 := keep_cell hb2 c3; replace c4 := keep_cell hb2 c4; replace c5 := keep_cell hb2 c5; replace c6 := keep_cell hb2 c6; clear hb2))
          go_ret
          exact ⟨rfl, HB2.out⟩
  | false =>
    cases s1 : (sub == 1) with
    | true =>
      have er : res = a32B k := by rw [HE.out]; simp [arestB, *]
      subst er
      clear HE
      go_enter Tryz.func18, Tryz.ntmps18
      go_wp2_with (first | (go_at_call 27; refine (HN.out _).mono ?_; rintro e w1 ⟨rfl, hb1⟩; have HB1 := hid (bel_trans (bel_alloc (Below.refl _ _) _) hb1); have c0 := keep_cell hb1 (p := ⟨w.heap.size, 0, none⟩) (v := .int .i64 3) (by simp); have c1 := keep_cell hb1 (p := ⟨w.heap.size, 1, none⟩) (v := .int .i64 r) (by simp); have c2 := keep_cell hb1 (p := ⟨w.heap.size, 2, none⟩) (v := .int .i64 m) (by simp); have c3 := keep_cell hb1 (p := ⟨w.heap.size, 3, none⟩) (v := .int .i64 sub) (by simp); have c4 := keep_cell hb1 (p := ⟨w.heap.size, 4, none⟩) (v := .int .i64 cc) (by simp); have c5 := keep_cell hb1 (p := ⟨w.heap.size, 5, none⟩) (v := .int .i64 l) (by simp); have c6 := keep_cell hb1 (p := ⟨w.heap.size, 6, none⟩) (v := .int .i64 k) (by simp); clear hb1) | (go_at_call 28; refine (HW.out _).mono ?_; rintro e w2 ⟨rfl, hb2⟩; have HB2 := hid (bel_trans HB1.out hb2); replace c0 := keep_cell hb2 c0; replace c1 := keep_cell hb2 c1; replace c2 := keep_cell hb2 c2; replace c3 := keep_cell hb2 c3; replace c4 := keep_cell hb2 c4; replace c5 := keep_cell hb2 c5; replace c6 := keep_cell hb2 c6; clear hb2) | (go_at_call 29; refine (asmall_any _ _).mono ?_; rintro e w3 ⟨rfl, hw⟩; replace hw := hw.symm; subst hw))
      go_ret
      exact ⟨rfl, HB2.out⟩
    | false =>
      cases s4 : (sub == 4) with
      | true =>
        have er : res = a32B k := by rw [HE.out]; simp [arestB, *]
        subst er
        clear HE
        go_enter Tryz.func18, Tryz.ntmps18
        go_wp2_with (first | (go_at_call 27; refine (HN.out _).mono ?_; rintro e w1 ⟨rfl, hb1⟩; have HB1 := hid (bel_trans (bel_alloc (Below.refl _ _) _) hb1); have c0 := keep_cell hb1 (p := ⟨w.heap.size, 0, none⟩) (v := .int .i64 3) (by simp); have c1 := keep_cell hb1 (p := ⟨w.heap.size, 1, none⟩) (v := .int .i64 r) (by simp); have c2 := keep_cell hb1 (p := ⟨w.heap.size, 2, none⟩) (v := .int .i64 m) (by simp); have c3 := keep_cell hb1 (p := ⟨w.heap.size, 3, none⟩) (v := .int .i64 sub) (by simp); have c4 := keep_cell hb1 (p := ⟨w.heap.size, 4, none⟩) (v := .int .i64 cc) (by simp); have c5 := keep_cell hb1 (p := ⟨w.heap.size, 5, none⟩) (v := .int .i64 l) (by simp); have c6 := keep_cell hb1 (p := ⟨w.heap.size, 6, none⟩) (v := .int .i64 k) (by simp); clear hb1) | (go_at_call 28; refine (HW.out _).mono ?_; rintro e w2 ⟨rfl, hb2⟩; have HB2 := hid (bel_trans HB1.out hb2); replace c0 := keep_cell hb2 c0; replace c1 := keep_cell hb2 c1; replace c2 := keep_cell hb2 c2; replace c3 := keep_cell hb2 c3; replace c4 := keep_cell hb2 c4; replace c5 := keep_cell hb2 c5; replace c6 := keep_cell hb2 c6; clear hb2) | (go_at_call 29; refine (asmall_any _ _).mono ?_; rintro e w3 ⟨rfl, hw⟩; replace hw := hw.symm; subst hw))
        go_ret
        exact ⟨rfl, HB2.out⟩
      | false =>
        cases s8 : (sub == 8) with
        | true =>
          have er : res = a32B k := by rw [HE.out]; simp [arestB, *]
          subst er
          clear HE
          go_enter Tryz.func18, Tryz.ntmps18
          go_wp2_with (first | (go_at_call 27; refine (HN.out _).mono ?_; rintro e w1 ⟨rfl, hb1⟩; have HB1 := hid (bel_trans (bel_alloc (Below.refl _ _) _) hb1); have c0 := keep_cell hb1 (p := ⟨w.heap.size, 0, none⟩) (v := .int .i64 3) (by simp); have c1 := keep_cell hb1 (p := ⟨w.heap.size, 1, none⟩) (v := .int .i64 r) (by simp); have c2 := keep_cell hb1 (p := ⟨w.heap.size, 2, none⟩) (v := .int .i64 m) (by simp); have c3 := keep_cell hb1 (p := ⟨w.heap.size, 3, none⟩) (v := .int .i64 sub) (by simp); have c4 := keep_cell hb1 (p := ⟨w.heap.size, 4, none⟩) (v := .int .i64 cc) (by simp); have c5 := keep_cell hb1 (p := ⟨w.heap.size, 5, none⟩) (v := .int .i64 l) (by simp); have c6 := keep_cell hb1 (p := ⟨w.heap.size, 6, none⟩) (v := .int .i64 k) (by simp); clear hb1) | (go_at_call 28; refine (HW.out _).mono ?_; rintro e w2 ⟨rfl, hb2⟩; have HB2 := hid (bel_trans HB1.out hb2); replace c0 := keep_cell hb2 c0; replace c1 := keep_cell hb2 c1; replace c2 := keep_cell hb2 c2; replace c3 := keep_cell hb2 c3; replace c4 := keep_cell hb2 c4; replace c5 := keep_cell hb2 c5; replace c6 := keep_cell hb2 c6; clear hb2) | (go_at_call 29; refine (asmall_any _ _).mono ?_; rintro e w3 ⟨rfl, hw⟩; replace hw := hw.symm; subst hw))
          go_ret
          exact ⟨rfl, HB2.out⟩
        | false =>
          have er : res = false := by rw [HE.out]; simp [arestB, *]
          subst er
          clear HE
          go_enter Tryz.func18, Tryz.ntmps18
          go_wp2_with (first | (go_at_call 27; refine (HN.out _).mono ?_; rintro e w1 ⟨rfl, hb1⟩; have HB1 := hid (bel_trans (bel_alloc (Below.refl _ _) _) hb1); have c0 := keep_cell hb1 (p := ⟨w.heap.size, 0, none⟩) (v := .int .i64 3) (by simp); have c1 := keep_cell hb1 (p := ⟨w.heap.size, 1, none⟩) (v := .int .i64 r) (by simp); have c2 := keep_cell hb1 (p := ⟨w.heap.size, 2, none⟩) (v := .int .i64 m) (by simp); have c3 := keep_cell hb1 (p := ⟨w.heap.size, 3, none⟩) (v := .int .i64 sub) (by simp); have c4 := keep_cell hb1 (p := ⟨w.heap.size, 4, none⟩) (v := .int .i64 cc) (by simp); have c5 := keep_cell hb1 (p := ⟨w.heap.size, 5, none⟩) (v := .int .i64 l) (by simp); have c6 := keep_cell hb1 (p := ⟨w.heap.size, 6, none⟩) (v := .int .i64 k) (by simp); clear hb1) | (go_at_call 28; refine (HW.out _).mono ?_; rintro e w2 ⟨rfl, hb2⟩; have HB2 := hid (bel_trans HB1.out hb2); replace c0 := keep_cell hb2 c0; replace c1 := keep_cell hb2 c1; replace c2 := keep_cell hb2 c2; replace c3 := keep_cell hb2 c3; replace c4 := keep_cell hb2 c4; replace c5 := keep_cell hb2 c5; replace c6 := keep_cell hb2 c6; clear hb2))
          go_ret
          exact ⟨rfl, HB2.out⟩
set_option maxRecDepth 100000 in
set_option maxHeartbeats 8000000 in
theorem aright4 (r m sub cc l k : Int) (w : World) (res : Bool) (HN : Hid (∀ W, Calls Tryz.prog 27 #[.agg #[.int .i64 4, .int .i64 r, .int .i64 m, .int .i64 sub, .int .i64 cc, .int .i64 l, .int .i64 k]] W (retT true true W))) (HW : Hid (∀ W, Calls Tryz.prog 28 #[.agg #[.int .i64 4, .int .i64 r, .int .i64 m, .int .i64 sub, .int .i64 cc, .int .i64 l, .int .i64 k]] W (retP (.bool false) W)))
    (qr0 : decide (r < 0) = false) (qr1 : decide (15 < r) = false) (qm0 : decide (m < 0) = false) (qm1 : decide (15 < m) = false) (HE : Hid (res = (arestB ⟨4, r, m, sub, cc, l, k⟩))) : Calls Tryz.prog 18 #[.agg #[.int .i64 4, .int .i64 r, .int .i64 m, .int .i64 sub, .int .i64 cc, .int .i64 l, .int .i64 k]] w (retP (.bool res) w) := by
  cases q4m : (m == 4) with
  | true =>
    cases s1 : (sub == 1) with
    | true =>
      have er : res = a32B k := by rw [HE.out]; simp [arestB, *]
      subst er
      clear HE
      go_enter Tryz.func18, Tryz.ntmps18
      go_wp2_with (first | (go_at_call 27; refine (HN.out _).mono ?_; rintro e w1 ⟨rfl, hb1⟩; have HB1 := hid (bel_trans (bel_alloc (Below.refl _ _) _) hb1); have c0 := keep_cell hb1 (p := ⟨w.heap.size, 0, none⟩) (v := .int .i64 4) (by simp); have c1 := keep_cell hb1 (p := ⟨w.heap.size, 1, none⟩) (v := .int .i64 r) (by simp); have c2 := keep_cell hb1 (p := ⟨w.heap.size, 2, none⟩) (v := .int .i64 m) (by simp); have c3 := keep_cell hb1 (p := ⟨w.heap.size, 3, none⟩) (v := .int .i64 sub) (by simp); have c4 := keep_cell hb1 (p := ⟨w.heap.size, 4, none⟩) (v := .int .i64 cc) (by simp); have c5 := keep_cell hb1 (p := ⟨w.heap.size, 5, none⟩) (v := .int .i64 l) (by simp); have c6 := keep_cell hb1 (p := ⟨w.heap.size, 6, none⟩) (v := .int .i64 k) (by simp); clear hb1) | (go_at_call 28; refine (HW.out _).mono ?_; rintro e w2 ⟨rfl, hb2⟩; have HB2 := hid (bel_trans HB1.out hb2); replace c0 := keep_cell hb2 c0; replace c1 := keep_cell hb2 c1; replace c2 := keep_cell hb2 c2; replace c3 := keep_cell hb2 c3; replace c4 := keep_cell hb2 c4; replace c5 := keep_cell hb2 c5; replace c6 := keep_cell hb2 c6; clear hb2) | (go_at_call 29; refine (asmall_any _ _).mono ?_; rintro e w3 ⟨rfl, hw⟩; replace hw := hw.symm; subst hw))
      go_ret
      exact ⟨rfl, HB2.out⟩
    | false =>
      cases s4 : (sub == 4) with
      | true =>
        have er : res = a32B k := by rw [HE.out]; simp [arestB, *]
        subst er
        clear HE
        go_enter Tryz.func18, Tryz.ntmps18
        go_wp2_with (first | (go_at_call 27; refine (HN.out _).mono ?_; rintro e w1 ⟨rfl, hb1⟩; have HB1 := hid (bel_trans (bel_alloc (Below.refl _ _) _) hb1); have c0 := keep_cell hb1 (p := ⟨w.heap.size, 0, none⟩) (v := .int .i64 4) (by simp); have c1 := keep_cell hb1 (p := ⟨w.heap.size, 1, none⟩) (v := .int .i64 r) (by simp); have c2 := keep_cell hb1 (p := ⟨w.heap.size, 2, none⟩) (v := .int .i64 m) (by simp); have c3 := keep_cell hb1 (p := ⟨w.heap.size, 3, none⟩) (v := .int .i64 sub) (by simp); have c4 := keep_cell hb1 (p := ⟨w.heap.size, 4, none⟩) (v := .int .i64 cc) (by simp); have c5 := keep_cell hb1 (p := ⟨w.heap.size, 5, none⟩) (v := .int .i64 l) (by simp); have c6 := keep_cell hb1 (p := ⟨w.heap.size, 6, none⟩) (v := .int .i64 k) (by simp); clear hb1) | (go_at_call 28; refine (HW.out _).mono ?_; rintro e w2 ⟨rfl, hb2⟩; have HB2 := hid (bel_trans HB1.out hb2); replace c0 := keep_cell hb2 c0; replace c1 := keep_cell hb2 c1; replace c2 := keep_cell hb2 c2; replace c3 := keep_cell hb2 c3; replace c4 := keep_cell hb2 c4; replace c5 := keep_cell hb2 c5; replace c6 := keep_cell hb2 c6; clear hb2) | (go_at_call 29; refine (asmall_any _ _).mono ?_; rintro e w3 ⟨rfl, hw⟩; replace hw := hw.symm; subst hw))
        go_ret
        exact ⟨rfl, HB2.out⟩
      | false =>
        cases s8 : (sub == 8) with
        | true =>
          have er : res = a32B k := by rw [HE.out]; simp [arestB, *]
          subst er
          clear HE
          go_enter Tryz.func18, Tryz.ntmps18
          go_wp2_with (first | (go_at_call 27; refine (HN.out _).mono ?_; rintro e w1 ⟨rfl, hb1⟩; have HB1 := hid (bel_trans (bel_alloc (Below.refl _ _) _) hb1); have c0 := keep_cell hb1 (p := ⟨w.heap.size, 0, none⟩) (v := .int .i64 4) (by simp); have c1 := keep_cell hb1 (p := ⟨w.heap.size, 1, none⟩) (v := .int .i64 r) (by simp); have c2 := keep_cell hb1 (p := ⟨w.heap.size, 2, none⟩) (v := .int .i64 m) (by simp); have c3 := keep_cell hb1 (p := ⟨w.heap.size, 3, none⟩) (v := .int .i64 sub) (by simp); have c4 := keep_cell hb1 (p := ⟨w.heap.size, 4, none⟩) (v := .int .i64 cc) (by simp); have c5 := keep_cell hb1 (p := ⟨w.heap.size, 5, none⟩) (v := .int .i64 l) (by simp); have c6 := keep_cell hb1 (p := ⟨w.heap.size, 6, none⟩) (v := .int .i64 k) (by simp); clear hb1) | (go_at_call 28; refine (HW.out _).mono ?_; rintro e w2 ⟨rfl, hb2⟩; have HB2 := hid (bel_trans HB1.out hb2); replace c0 := keep_cell hb2 c0; replace c1 := keep_cell hb2 c1; replace c2 := keep_cell hb2 c2; replace c3 := keep_cell hb2 c3; replace c4 := keep_cell hb2 c4; replace c5 := keep_cell hb2 c5; replace c6 := keep_cell hb2 c6; clear hb2) | (go_at_call 29; refine (asmall_any _ _).mono ?_; rintro e w3 ⟨rfl, hw⟩; replace hw := hw.symm; subst hw))
          go_ret
          exact ⟨rfl, HB2.out⟩
        | false =>
          have er : res = false := by rw [HE.out]; simp [arestB, *]
          subst er
          clear HE
          go_enter Tryz.func18, Tryz.ntmps18
          go_wp2_with (first | (go_at_call 27; refine (HN.out _).mono ?_; rintro e w1 ⟨rfl, hb1⟩; have HB1 := hid (bel_trans (bel_alloc (Below.refl _ _) _) hb1); have c0 := keep_cell hb1 (p := ⟨w.heap.size, 0, none⟩) (v := .int .i64 4) (by simp); have c1 := keep_cell hb1 (p := ⟨w.heap.size, 1, none⟩) (v := .int .i64 r) (by simp); have c2 := keep_cell hb1 (p := ⟨w.heap.size, 2, none⟩) (v := .int .i64 m) (by simp); have c3 := keep_cell hb1 (p := ⟨w.heap.size, 3, none⟩) (v := .int .i64 sub) (by simp); have c4 := keep_cell hb1 (p := ⟨w.heap.size, 4, none⟩) (v := .int .i64 cc) (by simp); have c5 := keep_cell hb1 (p := ⟨w.heap.size, 5, none⟩) (v := .int .i64 l) (by simp); have c6 := keep_cell hb1 (p := ⟨w.heap.size, 6, none⟩) (v := .int .i64 k) (by simp); clear hb1) | (go_at_call 28; refine (HW.out _).mono ?_; rintro e w2 ⟨rfl, hb2⟩; have HB2 := hid (bel_trans HB1.out hb2); replace c0 := keep_cell hb2 c0; replace c1 := keep_cell hb2 c1; replace c2 := keep_cell hb2 c2; replace c3 := keep_cell hb2 c3; replace c4 := keep_cell hb2 c4; replace c5 := keep_cell hb2 c5; replace c6 := keep_cell hb2 c6; clear hb2))
          go_ret
          exact ⟨rfl, HB2.out⟩
  | false =>
    cases s1 : (sub == 1) with
    | true =>
      have er : res = a32B k := by rw [HE.out]; simp [arestB, *]
      subst er
      clear HE
      go_enter Tryz.func18, Tryz.ntmps18
      go_wp2_with (first | (go_at_call 27; refine (HN.out _).mono ?_; rintro e w1 ⟨rfl, hb1⟩; have HB1 := hid (bel_trans (bel_alloc (Below.refl _ _) _) hb1); have c0 := keep_cell hb1 (p := ⟨w.heap.size, 0, none⟩) (v := .int .i64 4) (by simp); have c1 := keep_cell hb1 (p := ⟨w.heap.size, 1, none⟩) (v := .int .i64 r) (by simp); have c2 := keep_cell hb1 (p := ⟨w.heap.size, 2, none⟩) (v := .int .i64 m) (by simp); have c3 := keep_cell hb1 (p := ⟨w.heap.size, 3, none⟩) (v := .int .i64 sub) (by simp); have c4 := keep_cell hb1 (p := ⟨w.heap.size, 4, none⟩) (v := .int .i64 cc) (by simp); have c5 := keep_cell hb1 (p := ⟨w.heap.size, 5, none⟩) (v := .int .i64 l) (by simp); have c6 := keep_cell hb1 (p := ⟨w.heap.size, 6, none⟩) (v := .int .i64 k) (by simp); clear hb1) | (go_at_call 28; refine (HW.out _).mono ?_; rintro e w2 ⟨rfl, hb2⟩; have HB2 := hid (bel_trans HB1.out hb2); replace c0 := keep_cell hb2 c0; replace c1 := keep_cell hb2 c1; replace c2 := keep_cell hb2 c2; replace c3 := keep_cell hb2 c3; replace c4 := keep_cell hb2 c4; replace c5 := keep_cell hb2 c5; replace c6 := keep_cell hb2 c6; clear hb2) | (go_at_call 29; refine (asmall_any _ _).mono ?_; rintro e w3 ⟨rfl, hw⟩; replace hw := hw.symm; subst hw))
      go_ret
      exact ⟨rfl, HB2.out⟩
    | false =>
      cases s4 : (sub == 4) with
      | true =>
        have er : res = a32B k := by rw [HE.out]; simp [arestB, *]
        subst er
        clear HE
        go_enter Tryz.func18, Tryz.ntmps18
        go_wp2_with (first | (go_at_call 27; refine (HN.out _).mono ?_; rintro e w1 ⟨rfl, hb1⟩; have HB1 := hid (bel_trans (bel_alloc (Below.refl _ _) _) hb1); have c0 := keep_cell hb1 (p := ⟨w.heap.size, 0, none⟩) (v := .int .i64 4) (by simp); have c1 := keep_cell hb1 (p := ⟨w.heap.size, 1, none⟩) (v := .int .i64 r) (by simp); have c2 := keep_cell hb1 (p := ⟨w.heap.size, 2, none⟩) (v := .int .i64 m) (by simp); have c3 := keep_cell hb1 (p := ⟨w.heap.size, 3, none⟩) (v := .int .i64 sub) (by simp); have c4 := keep_cell hb1 (p := ⟨w.heap.size, 4, none⟩) (v := .int .i64 cc) (by simp); have c5 := keep_cell hb1 (p := ⟨w.heap.size, 5, none⟩) (v := .int .i64 l) (by simp); have c6 := keep_cell hb1 (p := ⟨w.heap.size, 6, none⟩) (v := .int .i64 k) (by simp); clear hb1) | (go_at_call 28; refine (HW.out _).mono ?_; rintro e w2 ⟨rfl, hb2⟩; have HB2 := hid (bel_trans HB1.out hb2); replace c0 := keep_cell hb2 c0; replace c1 := keep_cell hb2 c1; replace c2 := keep_cell hb2 c2; replace c3 := keep_cell hb2 c3; replace c4 := keep_cell hb2 c4; replace c5 := keep_cell hb2 c5; replace c6 := keep_cell hb2 c6; clear hb2) | (go_at_call 29; refine (asmall_any _ _).mono ?_; rintro e w3 ⟨rfl, hw⟩; replace hw := hw.symm; subst hw))
        go_ret
        exact ⟨rfl, HB2.out⟩
      | false =>
        cases s8 : (sub == 8) with
        | true =>
          have er : res = a32B k := by rw [HE.out]; simp [arestB, *]
          subst er
          clear HE
          go_enter Tryz.func18, Tryz.ntmps18
          go_wp2_with (first | (go_at_call 27; refine (HN.out _).mono ?_; rintro e w1 ⟨rfl, hb1⟩; have HB1 := hid (bel_trans (bel_alloc (Below.refl _ _) _) hb1); have c0 := keep_cell hb1 (p := ⟨w.heap.size, 0, none⟩) (v := .int .i64 4) (by simp); have c1 := keep_cell hb1 (p := ⟨w.heap.size, 1, none⟩) (v := .int .i64 r) (by simp); have c2 := keep_cell hb1 (p := ⟨w.heap.size, 2, none⟩) (v := .int .i64 m) (by simp); have c3 := keep_cell hb1 (p := ⟨w.heap.size, 3, none⟩) (v := .int .i64 sub) (by simp); have c4 := keep_cell hb1 (p := ⟨w.heap.size, 4, none⟩) (v := .int .i64 cc) (by simp); have c5 := keep_cell hb1 (p := ⟨w.heap.size, 5, none⟩) (v := .int .i64 l) (by simp); have c6 := keep_cell hb1 (p := ⟨w.heap.size, 6, none⟩) (v := .int .i64 k) (by simp); clear hb1) | (go_at_call 28; refine (HW.out _).mono ?_; rintro e w2 ⟨rfl, hb2⟩; have HB2 := hid (bel_trans HB1.out hb2); replace c0 := keep_cell hb2 c0; replace c1 := keep_cell hb2 c1; replace c2 := keep_cell hb2 c2; replace c3 := keep_cell hb2 c3; replace c4 := keep_cell hb2 c4; replace c5 := keep_cell hb2 c5; replace c6 := keep_cell hb2 c6; clear hb2) | (go_at_call 29; refine (asmall_any _ _).mono ?_; rintro e w3 ⟨rfl, hw⟩; replace hw := hw.symm; subst hw))
          go_ret
          exact ⟨rfl, HB2.out⟩
        | false =>
          have er : res = false := by rw [HE.out]; simp [arestB, *]
          subst er
          clear HE
          go_enter Tryz.func18, Tryz.ntmps18
          go_wp2_with (first | (go_at_call 27; refine (HN.out _).mono ?_; rintro e w1 ⟨rfl, hb1⟩; have HB1 := hid (bel_trans (bel_alloc (Below.refl _ _) _) hb1); have c0 := keep_cell hb1 (p := ⟨w.heap.size, 0, none⟩) (v := .int .i64 4) (by simp); have c1 := keep_cell hb1 (p := ⟨w.heap.size, 1, none⟩) (v := .int .i64 r) (by simp); have c2 := keep_cell hb1 (p := ⟨w.heap.size, 2, none⟩) (v := .int .i64 m) (by simp); have c3 := keep_cell hb1 (p := ⟨w.heap.size, 3, none⟩) (v := .int .i64 sub) (by simp); have c4 := keep_cell hb1 (p := ⟨w.heap.size, 4, none⟩) (v := .int .i64 cc) (by simp); have c5 := keep_cell hb1 (p := ⟨w.heap.size, 5, none⟩) (v := .int .i64 l) (by simp); have c6 := keep_cell hb1 (p := ⟨w.heap.size, 6, none⟩) (v := .int .i64 k) (by simp); clear hb1) | (go_at_call 28; refine (HW.out _).mono ?_; rintro e w2 ⟨rfl, hb2⟩; have HB2 := hid (bel_trans HB1.out hb2); replace c0 := keep_cell hb2 c0; replace c1 := keep_cell hb2 c1; replace c2 := keep_cell hb2 c2; replace c3 := keep_cell hb2 c3; replace c4 := keep_cell hb2 c4; replace c5 := keep_cell hb2 c5; replace c6 := keep_cell hb2 c6; clear hb2))
          go_ret
          exact ⟨rfl, HB2.out⟩
set_option maxRecDepth 100000 in
set_option maxHeartbeats 8000000 in
theorem aright5 (r m sub cc l k : Int) (w : World) (res : Bool) (HN : Hid (∀ W, Calls Tryz.prog 27 #[.agg #[.int .i64 5, .int .i64 r, .int .i64 m, .int .i64 sub, .int .i64 cc, .int .i64 l, .int .i64 k]] W (retT true true W))) (HW : Hid (∀ W, Calls Tryz.prog 28 #[.agg #[.int .i64 5, .int .i64 r, .int .i64 m, .int .i64 sub, .int .i64 cc, .int .i64 l, .int .i64 k]] W (retP (.bool true) W)))
    (qr0 : decide (r < 0) = false) (qr1 : decide (15 < r) = false) (qm0 : decide (m < 0) = false) (qm1 : decide (15 < m) = false) (q4 : (r == 4) = false) (HE : Hid (res = (arestB ⟨5, r, m, sub, cc, l, k⟩))) : Calls Tryz.prog 18 #[.agg #[.int .i64 5, .int .i64 r, .int .i64 m, .int .i64 sub, .int .i64 cc, .int .i64 l, .int .i64 k]] w (retP (.bool res) w) := by
  cases q4m : (m == 4) with
  | true =>
    have er : res = a32B k := by rw [HE.out]; simp [arestB, *]
    subst er
    clear HE
    go_enter Tryz.func18, Tryz.ntmps18
    go_wp2_with (first | (go_at_call 27; refine (HN.out _).mono ?_; rintro e w1 ⟨rfl, hb1⟩; have HB1 := hid (bel_trans (bel_alloc (Below.refl _ _) _) hb1); have c0 := keep_cell hb1 (p := ⟨w.heap.size, 0, none⟩) (v := .int .i64 5) (by simp); have c1 := keep_cell hb1 (p := ⟨w.heap.size, 1, none⟩) (v := .int .i64 r) (by simp); have c2 := keep_cell hb1 (p := ⟨w.heap.size, 2, none⟩) (v := .int .i64 m) (by simp); have c3 := keep_cell hb1 (p := ⟨w.heap.size, 3, none⟩) (v := .int .i64 sub) (by simp); have c4 := keep_cell hb1 (p := ⟨w.heap.size, 4, none⟩) (v := .int .i64 cc) (by simp); have c5 := keep_cell hb1 (p := ⟨w.heap.size, 5, none⟩) (v := .int .i64 l) (by simp); have c6 := keep_cell hb1 (p := ⟨w.heap.size, 6, none⟩) (v := .int .i64 k) (by simp); clear hb1) | (go_at_call 28; refine (HW.out _).mono ?_; rintro e w2 ⟨rfl, hb2⟩; have HB2 := hid (bel_trans HB1.out hb2); replace c0 := keep_cell hb2 c0; replace c1 := keep_cell hb2 c1; replace c2 := keep_cell hb2 c2; replace c3 := keep_cell hb2 c3; replace c4 := keep_cell hb2 c4; replace c5 := keep_cell hb2 c5; replace c6 := keep_cell hb2 c6; clear hb2) | (go_at_call 29; refine (asmall_any _ _).mono ?_; rintro e w3 ⟨rfl, hw⟩; replace hw := hw.symm; subst hw))
    go_ret
    exact ⟨rfl, HB2.out⟩
  | false =>
    have er : res = a32B k := by rw [HE.out]; simp [arestB, *]
    subst er
    clear HE
    go_enter Tryz.func18, Tryz.ntmps18
    go_wp2_with (first | (go_at_call 27; refine (HN.out _).mono ?_; rintro e w1 ⟨rfl, hb1⟩; have HB1 := hid (bel_trans (bel_alloc (Below.refl _ _) _) hb1); have c0 := keep_cell hb1 (p := ⟨w.heap.size, 0, none⟩) (v := .int .i64 5) (by simp); have c1 := keep_cell hb1 (p := ⟨w.heap.size, 1, none⟩) (v := .int .i64 r) (by simp); have c2 := keep_cell hb1 (p := ⟨w.heap.size, 2, none⟩) (v := .int .i64 m) (by simp); have c3 := keep_cell hb1 (p := ⟨w.heap.size, 3, none⟩) (v := .int .i64 sub) (by simp); have c4 := keep_cell hb1 (p := ⟨w.heap.size, 4, none⟩) (v := .int .i64 cc) (by simp); have c5 := keep_cell hb1 (p := ⟨w.heap.size, 5, none⟩) (v := .int .i64 l) (by simp); have c6 := keep_cell hb1 (p := ⟨w.heap.size, 6, none⟩) (v := .int .i64 k) (by simp); clear hb1) | (go_at_call 28; refine (HW.out _).mono ?_; rintro e w2 ⟨rfl, hb2⟩; have HB2 := hid (bel_trans HB1.out hb2); replace c0 := keep_cell hb2 c0; replace c1 := keep_cell hb2 c1; replace c2 := keep_cell hb2 c2; replace c3 := keep_cell hb2 c3; replace c4 := keep_cell hb2 c4; replace c5 := keep_cell hb2 c5; replace c6 := keep_cell hb2 c6; clear hb2) | (go_at_call 29; refine (asmall_any _ _).mono ?_; rintro e w3 ⟨rfl, hw⟩; replace hw := hw.symm; subst hw))
    go_ret
    exact ⟨rfl, HB2.out⟩
end Go.Proofs.YtofnnpchobgapaaGreatDoor

