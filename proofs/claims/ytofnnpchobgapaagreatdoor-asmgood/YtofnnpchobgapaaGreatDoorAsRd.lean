/- The document's own machine code: which instructions are right: operations. -/
import Derived.Test.YtofnnpchobgapaaGreatDoorAsR1
namespace Go.Proofs.YtofnnpchobgapaaGreatDoor
open Go.ChangeShapes Go.WideShapes Go.ChangeAt Go.RowKit
set_option linter.unusedSimpArgs false
set_option linter.unusedVariables false

set_option maxRecDepth 100000 in
set_option maxHeartbeats 8000000 in
theorem aright12 (r m sub cc l k : Int) (w : World) (res : Bool) (HN : Hid (∀ W, Calls Tryz.prog 27 #[.agg #[.int .i64 12, .int .i64 r, .int .i64 m, .int .i64 sub, .int .i64 cc, .int .i64 l, .int .i64 k]] W (retT true false W))) (HW : Hid (∀ W, Calls Tryz.prog 28 #[.agg #[.int .i64 12, .int .i64 r, .int .i64 m, .int .i64 sub, .int .i64 cc, .int .i64 l, .int .i64 k]] W (retP (.bool true) W)))
    (qr0 : decide (r < 0) = false) (qr1 : decide (15 < r) = false) (q4 : (r == 4) = false) (HE : Hid (res = (arestB ⟨12, r, m, sub, cc, l, k⟩))) : Calls Tryz.prog 18 #[.agg #[.int .i64 12, .int .i64 r, .int .i64 m, .int .i64 sub, .int .i64 cc, .int .i64 l, .int .i64 k]] w (retP (.bool res) w) := by
  cases s19 : (sub == 19) with
  | true =>
    have er : res = true := by rw [HE.out]; simp [arestB, *]
    subst er
    clear HE
    go_enter Tryz.func18, Tryz.ntmps18
    go_wp2_with (first | (go_at_call 27; refine (HN.out _).mono ?_; rintro e w1 ⟨rfl, hb1⟩; have HB1 := hid (bel_trans (bel_alloc (Below.refl _ _) _) hb1); have c0 := keep_cell hb1 (p := ⟨w.heap.size, 0, none⟩) (v := .int .i64 12) (by simp); have c1 := keep_cell hb1 (p := ⟨w.heap.size, 1, none⟩) (v := .int .i64 r) (by simp); have c2 := keep_cell hb1 (p := ⟨w.heap.size, 2, none⟩) (v := .int .i64 m) (by simp); have c3 := keep_cell hb1 (p := ⟨w.heap.size, 3, none⟩) (v := .int .i64 sub) (by simp); have c4 := keep_cell hb1 (p := ⟨w.heap.size, 4, none⟩) (v := .int .i64 cc) (by simp); have c5 := keep_cell hb1 (p := ⟨w.heap.size, 5, none⟩) (v := .int .i64 l) (by simp); have c6 := keep_cell hb1 (p := ⟨w.heap.size, 6, none⟩) (v := .int .i64 k) (by simp); clear hb1) | (go_at_call 28; refine (HW.out _).mono ?_; rintro e w2 ⟨rfl, hb2⟩; have HB2 := hid (bel_trans HB1.out hb2); replace c0 := keep_cell hb2 c0; replace c1 := keep_cell hb2 c1; replace c2 := keep_cell hb2 c2; replace c3 := keep_cell hb2 c3; replace c4 := keep_cell hb2 c4; replace c5 := keep_cell hb2 c5; replace c6 := keep_cell hb2 c6; clear hb2))
    go_ret
    exact ⟨rfl, HB2.out⟩
  | false =>
    have er : res = (sub == 20) := by rw [HE.out]; simp [arestB, *]
    subst er
    clear HE
    go_enter Tryz.func18, Tryz.ntmps18
    go_wp2_with (first | (go_at_call 27; refine (HN.out _).mono ?_; rintro e w1 ⟨rfl, hb1⟩; have HB1 := hid (bel_trans (bel_alloc (Below.refl _ _) _) hb1); have c0 := keep_cell hb1 (p := ⟨w.heap.size, 0, none⟩) (v := .int .i64 12) (by simp); have c1 := keep_cell hb1 (p := ⟨w.heap.size, 1, none⟩) (v := .int .i64 r) (by simp); have c2 := keep_cell hb1 (p := ⟨w.heap.size, 2, none⟩) (v := .int .i64 m) (by simp); have c3 := keep_cell hb1 (p := ⟨w.heap.size, 3, none⟩) (v := .int .i64 sub) (by simp); have c4 := keep_cell hb1 (p := ⟨w.heap.size, 4, none⟩) (v := .int .i64 cc) (by simp); have c5 := keep_cell hb1 (p := ⟨w.heap.size, 5, none⟩) (v := .int .i64 l) (by simp); have c6 := keep_cell hb1 (p := ⟨w.heap.size, 6, none⟩) (v := .int .i64 k) (by simp); clear hb1) | (go_at_call 28; refine (HW.out _).mono ?_; rintro e w2 ⟨rfl, hb2⟩; have HB2 := hid (bel_trans HB1.out hb2); replace c0 := keep_cell hb2 c0; replace c1 := keep_cell hb2 c1; replace c2 := keep_cell hb2 c2; replace c3 := keep_cell hb2 c3; replace c4 := keep_cell hb2 c4; replace c5 := keep_cell hb2 c5; replace c6 := keep_cell hb2 c6; clear hb2))
    go_ret
    exact ⟨rfl, HB2.out⟩
set_option maxRecDepth 100000 in
set_option maxHeartbeats 8000000 in
theorem aright13 (r m sub cc l k : Int) (w : World) (res : Bool) (HN : Hid (∀ W, Calls Tryz.prog 27 #[.agg #[.int .i64 13, .int .i64 r, .int .i64 m, .int .i64 sub, .int .i64 cc, .int .i64 l, .int .i64 k]] W (retT false false W))) (HW : Hid (∀ W, Calls Tryz.prog 28 #[.agg #[.int .i64 13, .int .i64 r, .int .i64 m, .int .i64 sub, .int .i64 cc, .int .i64 l, .int .i64 k]] W (retP (.bool false) W)))
     (HE : Hid (res = (arestB ⟨13, r, m, sub, cc, l, k⟩))) : Calls Tryz.prog 18 #[.agg #[.int .i64 13, .int .i64 r, .int .i64 m, .int .i64 sub, .int .i64 cc, .int .i64 l, .int .i64 k]] w (retP (.bool res) w) := by
  have er : res = true := by rw [HE.out]; simp [arestB, *]
  subst er
  clear HE
  go_enter Tryz.func18, Tryz.ntmps18
  go_wp2_with (first | (go_at_call 27; refine (HN.out _).mono ?_; rintro e w1 ⟨rfl, hb1⟩; have HB1 := hid (bel_trans (bel_alloc (Below.refl _ _) _) hb1); have c0 := keep_cell hb1 (p := ⟨w.heap.size, 0, none⟩) (v := .int .i64 13) (by simp); have c1 := keep_cell hb1 (p := ⟨w.heap.size, 1, none⟩) (v := .int .i64 r) (by simp); have c2 := keep_cell hb1 (p := ⟨w.heap.size, 2, none⟩) (v := .int .i64 m) (by simp); have c3 := keep_cell hb1 (p := ⟨w.heap.size, 3, none⟩) (v := .int .i64 sub) (by simp); have c4 := keep_cell hb1 (p := ⟨w.heap.size, 4, none⟩) (v := .int .i64 cc) (by simp); have c5 := keep_cell hb1 (p := ⟨w.heap.size, 5, none⟩) (v := .int .i64 l) (by simp); have c6 := keep_cell hb1 (p := ⟨w.heap.size, 6, none⟩) (v := .int .i64 k) (by simp); clear hb1) | (go_at_call 28; refine (HW.out _).mono ?_; rintro e w2 ⟨rfl, hb2⟩; have HB2 := hid (bel_trans HB1.out hb2); replace c0 := keep_cell hb2 c0; replace c1 := keep_cell hb2 c1; replace c2 := keep_cell hb2 c2; replace c3 := keep_cell hb2 c3; replace c4 := keep_cell hb2 c4; replace c5 := keep_cell hb2 c5; replace c6 := keep_cell hb2 c6; clear hb2))
  go_ret
  exact ⟨rfl, HB2.out⟩
set_option maxRecDepth 100000 in
set_option maxHeartbeats 8000000 in
theorem aright14 (r m sub cc l k : Int) (w : World) (res : Bool) (HN : Hid (∀ W, Calls Tryz.prog 27 #[.agg #[.int .i64 14, .int .i64 r, .int .i64 m, .int .i64 sub, .int .i64 cc, .int .i64 l, .int .i64 k]] W (retT false true W))) (HW : Hid (∀ W, Calls Tryz.prog 28 #[.agg #[.int .i64 14, .int .i64 r, .int .i64 m, .int .i64 sub, .int .i64 cc, .int .i64 l, .int .i64 k]] W (retP (.bool false) W)))
    (qm0 : decide (m < 0) = false) (qm1 : decide (15 < m) = false) (HE : Hid (res = (!(m == 4) && arestB ⟨14, r, m, sub, cc, l, k⟩))) : Calls Tryz.prog 18 #[.agg #[.int .i64 14, .int .i64 r, .int .i64 m, .int .i64 sub, .int .i64 cc, .int .i64 l, .int .i64 k]] w (retP (.bool res) w) := by
  cases q4m : (m == 4) with
  | true =>
    have er : res = false := by rw [HE.out]; simp [arestB, *]
    subst er
    clear HE
    go_enter Tryz.func18, Tryz.ntmps18
    go_wp2_with (first | (go_at_call 27; refine (HN.out _).mono ?_; rintro e w1 ⟨rfl, hb1⟩; have HB1 := hid (bel_trans (bel_alloc (Below.refl _ _) _) hb1); have c0 := keep_cell hb1 (p := ⟨w.heap.size, 0, none⟩) (v := .int .i64 14) (by simp); have c1 := keep_cell hb1 (p := ⟨w.heap.size, 1, none⟩) (v := .int .i64 r) (by simp); have c2 := keep_cell hb1 (p := ⟨w.heap.size, 2, none⟩) (v := .int .i64 m) (by simp); have c3 := keep_cell hb1 (p := ⟨w.heap.size, 3, none⟩) (v := .int .i64 sub) (by simp); have c4 := keep_cell hb1 (p := ⟨w.heap.size, 4, none⟩) (v := .int .i64 cc) (by simp); have c5 := keep_cell hb1 (p := ⟨w.heap.size, 5, none⟩) (v := .int .i64 l) (by simp); have c6 := keep_cell hb1 (p := ⟨w.heap.size, 6, none⟩) (v := .int .i64 k) (by simp); clear hb1) | (go_at_call 28; refine (HW.out _).mono ?_; rintro e w2 ⟨rfl, hb2⟩; have HB2 := hid (bel_trans HB1.out hb2); replace c0 := keep_cell hb2 c0; replace c1 := keep_cell hb2 c1; replace c2 := keep_cell hb2 c2; replace c3 := keep_cell hb2 c3; replace c4 := keep_cell hb2 c4; replace c5 := keep_cell hb2 c5; replace c6 := keep_cell hb2 c6; clear hb2))
    go_ret
    exact ⟨rfl, HB2.out⟩
  | false =>
    have er : res = true := by rw [HE.out]; simp [arestB, *]
    subst er
    clear HE
    go_enter Tryz.func18, Tryz.ntmps18
    go_wp2_with (first | (go_at_call 27; refine (HN.out _).mono ?_; rintro e w1 ⟨rfl, hb1⟩; have HB1 := hid (bel_trans (bel_alloc (Below.refl _ _) _) hb1); have c0 := keep_cell hb1 (p := ⟨w.heap.size, 0, none⟩) (v := .int .i64 14) (by simp); have c1 := keep_cell hb1 (p := ⟨w.heap.size, 1, none⟩) (v := .int .i64 r) (by simp); have c2 := keep_cell hb1 (p := ⟨w.heap.size, 2, none⟩) (v := .int .i64 m) (by simp); have c3 := keep_cell hb1 (p := ⟨w.heap.size, 3, none⟩) (v := .int .i64 sub) (by simp); have c4 := keep_cell hb1 (p := ⟨w.heap.size, 4, none⟩) (v := .int .i64 cc) (by simp); have c5 := keep_cell hb1 (p := ⟨w.heap.size, 5, none⟩) (v := .int .i64 l) (by simp); have c6 := keep_cell hb1 (p := ⟨w.heap.size, 6, none⟩) (v := .int .i64 k) (by simp); clear hb1) | (go_at_call 28; refine (HW.out _).mono ?_; rintro e w2 ⟨rfl, hb2⟩; have HB2 := hid (bel_trans HB1.out hb2); replace c0 := keep_cell hb2 c0; replace c1 := keep_cell hb2 c1; replace c2 := keep_cell hb2 c2; replace c3 := keep_cell hb2 c3; replace c4 := keep_cell hb2 c4; replace c5 := keep_cell hb2 c5; replace c6 := keep_cell hb2 c6; clear hb2))
    go_ret
    exact ⟨rfl, HB2.out⟩
set_option maxRecDepth 100000 in
set_option maxHeartbeats 8000000 in
theorem aright15 (r m sub cc l k : Int) (w : World) (res : Bool) (HN : Hid (∀ W, Calls Tryz.prog 27 #[.agg #[.int .i64 15, .int .i64 r, .int .i64 m, .int .i64 sub, .int .i64 cc, .int .i64 l, .int .i64 k]] W (retT true true W))) (HW : Hid (∀ W, Calls Tryz.prog 28 #[.agg #[.int .i64 15, .int .i64 r, .int .i64 m, .int .i64 sub, .int .i64 cc, .int .i64 l, .int .i64 k]] W (retP (.bool false) W)))
    (qr0 : decide (r < 0) = false) (qr1 : decide (15 < r) = false) (qm0 : decide (m < 0) = false) (qm1 : decide (15 < m) = false) (HE : Hid (res = (!(m == 4) && arestB ⟨15, r, m, sub, cc, l, k⟩))) : Calls Tryz.prog 18 #[.agg #[.int .i64 15, .int .i64 r, .int .i64 m, .int .i64 sub, .int .i64 cc, .int .i64 l, .int .i64 k]] w (retP (.bool res) w) := by
  cases q4m : (m == 4) with
  | true =>
    have er : res = false := by rw [HE.out]; simp [arestB, *]
    subst er
    clear HE
    go_enter Tryz.func18, Tryz.ntmps18
    go_wp2_with (first | (go_at_call 27; refine (HN.out _).mono ?_; rintro e w1 ⟨rfl, hb1⟩; have HB1 := hid (bel_trans (bel_alloc (Below.refl _ _) _) hb1); have c0 := keep_cell hb1 (p := ⟨w.heap.size, 0, none⟩) (v := .int .i64 15) (by simp); have c1 := keep_cell hb1 (p := ⟨w.heap.size, 1, none⟩) (v := .int .i64 r) (by simp); have c2 := keep_cell hb1 (p := ⟨w.heap.size, 2, none⟩) (v := .int .i64 m) (by simp); have c3 := keep_cell hb1 (p := ⟨w.heap.size, 3, none⟩) (v := .int .i64 sub) (by simp); have c4 := keep_cell hb1 (p := ⟨w.heap.size, 4, none⟩) (v := .int .i64 cc) (by simp); have c5 := keep_cell hb1 (p := ⟨w.heap.size, 5, none⟩) (v := .int .i64 l) (by simp); have c6 := keep_cell hb1 (p := ⟨w.heap.size, 6, none⟩) (v := .int .i64 k) (by simp); clear hb1) | (go_at_call 28; refine (HW.out _).mono ?_; rintro e w2 ⟨rfl, hb2⟩; have HB2 := hid (bel_trans HB1.out hb2); replace c0 := keep_cell hb2 c0; replace c1 := keep_cell hb2 c1; replace c2 := keep_cell hb2 c2; replace c3 := keep_cell hb2 c3; replace c4 := keep_cell hb2 c4; replace c5 := keep_cell hb2 c5; replace c6 := keep_cell hb2 c6; clear hb2))
    go_ret
    exact ⟨rfl, HB2.out⟩
  | false =>
    have er : res = true := by rw [HE.out]; simp [arestB, *]
    subst er
    clear HE
    go_enter Tryz.func18, Tryz.ntmps18
    go_wp2_with (first | (go_at_call 27; refine (HN.out _).mono ?_; rintro e w1 ⟨rfl, hb1⟩; have HB1 := hid (bel_trans (bel_alloc (Below.refl _ _) _) hb1); have c0 := keep_cell hb1 (p := ⟨w.heap.size, 0, none⟩) (v := .int .i64 15) (by simp); have c1 := keep_cell hb1 (p := ⟨w.heap.size, 1, none⟩) (v := .int .i64 r) (by simp); have c2 := keep_cell hb1 (p := ⟨w.heap.size, 2, none⟩) (v := .int .i64 m) (by simp); have c3 := keep_cell hb1 (p := ⟨w.heap.size, 3, none⟩) (v := .int .i64 sub) (by simp); have c4 := keep_cell hb1 (p := ⟨w.heap.size, 4, none⟩) (v := .int .i64 cc) (by simp); have c5 := keep_cell hb1 (p := ⟨w.heap.size, 5, none⟩) (v := .int .i64 l) (by simp); have c6 := keep_cell hb1 (p := ⟨w.heap.size, 6, none⟩) (v := .int .i64 k) (by simp); clear hb1) | (go_at_call 28; refine (HW.out _).mono ?_; rintro e w2 ⟨rfl, hb2⟩; have HB2 := hid (bel_trans HB1.out hb2); replace c0 := keep_cell hb2 c0; replace c1 := keep_cell hb2 c1; replace c2 := keep_cell hb2 c2; replace c3 := keep_cell hb2 c3; replace c4 := keep_cell hb2 c4; replace c5 := keep_cell hb2 c5; replace c6 := keep_cell hb2 c6; clear hb2))
    go_ret
    exact ⟨rfl, HB2.out⟩
set_option maxRecDepth 100000 in
set_option maxHeartbeats 8000000 in
theorem aright16 (r m sub cc l k : Int) (w : World) (res : Bool) (HN : Hid (∀ W, Calls Tryz.prog 27 #[.agg #[.int .i64 16, .int .i64 r, .int .i64 m, .int .i64 sub, .int .i64 cc, .int .i64 l, .int .i64 k]] W (retT true false W))) (HW : Hid (∀ W, Calls Tryz.prog 28 #[.agg #[.int .i64 16, .int .i64 r, .int .i64 m, .int .i64 sub, .int .i64 cc, .int .i64 l, .int .i64 k]] W (retP (.bool false) W)))
    (qr0 : decide (r < 0) = false) (qr1 : decide (15 < r) = false) (HE : Hid (res = (arestB ⟨16, r, m, sub, cc, l, k⟩))) : Calls Tryz.prog 18 #[.agg #[.int .i64 16, .int .i64 r, .int .i64 m, .int .i64 sub, .int .i64 cc, .int .i64 l, .int .i64 k]] w (retP (.bool res) w) := by
  have er : res = a32B k := by rw [HE.out]; simp [arestB, *]
  subst er
  clear HE
  go_enter Tryz.func18, Tryz.ntmps18
  go_wp2_with (first | (go_at_call 27; refine (HN.out _).mono ?_; rintro e w1 ⟨rfl, hb1⟩; have HB1 := hid (bel_trans (bel_alloc (Below.refl _ _) _) hb1); have c0 := keep_cell hb1 (p := ⟨w.heap.size, 0, none⟩) (v := .int .i64 16) (by simp); have c1 := keep_cell hb1 (p := ⟨w.heap.size, 1, none⟩) (v := .int .i64 r) (by simp); have c2 := keep_cell hb1 (p := ⟨w.heap.size, 2, none⟩) (v := .int .i64 m) (by simp); have c3 := keep_cell hb1 (p := ⟨w.heap.size, 3, none⟩) (v := .int .i64 sub) (by simp); have c4 := keep_cell hb1 (p := ⟨w.heap.size, 4, none⟩) (v := .int .i64 cc) (by simp); have c5 := keep_cell hb1 (p := ⟨w.heap.size, 5, none⟩) (v := .int .i64 l) (by simp); have c6 := keep_cell hb1 (p := ⟨w.heap.size, 6, none⟩) (v := .int .i64 k) (by simp); clear hb1) | (go_at_call 28; refine (HW.out _).mono ?_; rintro e w2 ⟨rfl, hb2⟩; have HB2 := hid (bel_trans HB1.out hb2); replace c0 := keep_cell hb2 c0; replace c1 := keep_cell hb2 c1; replace c2 := keep_cell hb2 c2; replace c3 := keep_cell hb2 c3; replace c4 := keep_cell hb2 c4; replace c5 := keep_cell hb2 c5; replace c6 := keep_cell hb2 c6; clear hb2) | (go_at_call 29; refine (asmall_any _ _).mono ?_; rintro e w3 ⟨rfl, hw⟩; replace hw := hw.symm; subst hw))
  go_ret
  exact ⟨rfl, HB2.out⟩
set_option maxRecDepth 100000 in
set_option maxHeartbeats 8000000 in
theorem aright17 (r m sub cc l k : Int) (w : World) (res : Bool) (HN : Hid (∀ W, Calls Tryz.prog 27 #[.agg #[.int .i64 17, .int .i64 r, .int .i64 m, .int .i64 sub, .int .i64 cc, .int .i64 l, .int .i64 k]] W (retT true false W))) (HW : Hid (∀ W, Calls Tryz.prog 28 #[.agg #[.int .i64 17, .int .i64 r, .int .i64 m, .int .i64 sub, .int .i64 cc, .int .i64 l, .int .i64 k]] W (retP (.bool true) W)))
    (qr0 : decide (r < 0) = false) (qr1 : decide (15 < r) = false) (q4 : (r == 4) = false) (HE : Hid (res = (arestB ⟨17, r, m, sub, cc, l, k⟩))) : Calls Tryz.prog 18 #[.agg #[.int .i64 17, .int .i64 r, .int .i64 m, .int .i64 sub, .int .i64 cc, .int .i64 l, .int .i64 k]] w (retP (.bool res) w) := by
  have HC : Hid (∀ W, Calls Tryz.prog 31 #[.int .i64 cc] W fun e w' => e = .returned (.bool (accB cc)) ∧ w' = W) := fun W => acc_any cc W
  have er : res = accB cc := by rw [HE.out]; simp [arestB, *]
  subst er
  clear HE
  go_enter Tryz.func18, Tryz.ntmps18
  go_wp2_with (first | (go_at_call 27; refine (HN.out _).mono ?_; rintro e w1 ⟨rfl, hb1⟩; have HB1 := hid (bel_trans (bel_alloc (Below.refl _ _) _) hb1); have c0 := keep_cell hb1 (p := ⟨w.heap.size, 0, none⟩) (v := .int .i64 17) (by simp); have c1 := keep_cell hb1 (p := ⟨w.heap.size, 1, none⟩) (v := .int .i64 r) (by simp); have c2 := keep_cell hb1 (p := ⟨w.heap.size, 2, none⟩) (v := .int .i64 m) (by simp); have c3 := keep_cell hb1 (p := ⟨w.heap.size, 3, none⟩) (v := .int .i64 sub) (by simp); have c4 := keep_cell hb1 (p := ⟨w.heap.size, 4, none⟩) (v := .int .i64 cc) (by simp); have c5 := keep_cell hb1 (p := ⟨w.heap.size, 5, none⟩) (v := .int .i64 l) (by simp); have c6 := keep_cell hb1 (p := ⟨w.heap.size, 6, none⟩) (v := .int .i64 k) (by simp); clear hb1) | (go_at_call 28; refine (HW.out _).mono ?_; rintro e w2 ⟨rfl, hb2⟩; have HB2 := hid (bel_trans HB1.out hb2); replace c0 := keep_cell hb2 c0; replace c1 := keep_cell hb2 c1; replace c2 := keep_cell hb2 c2; replace c3 := keep_cell hb2 c3; replace c4 := keep_cell hb2 c4; replace c5 := keep_cell hb2 c5; replace c6 := keep_cell hb2 c6; clear hb2) | (go_at_call 31; refine (HC.out _).mono ?_; rintro e w3 ⟨rfl, hw⟩; replace hw := hw.symm; subst hw))
  go_ret
  exact ⟨rfl, HB2.out⟩
set_option maxRecDepth 100000 in
set_option maxHeartbeats 8000000 in
theorem aright18 (r m sub cc l k : Int) (w : World) (res : Bool) (HN : Hid (∀ W, Calls Tryz.prog 27 #[.agg #[.int .i64 18, .int .i64 r, .int .i64 m, .int .i64 sub, .int .i64 cc, .int .i64 l, .int .i64 k]] W (retT false false W))) (HW : Hid (∀ W, Calls Tryz.prog 28 #[.agg #[.int .i64 18, .int .i64 r, .int .i64 m, .int .i64 sub, .int .i64 cc, .int .i64 l, .int .i64 k]] W (retP (.bool false) W)))
     (HE : Hid (res = (arestB ⟨18, r, m, sub, cc, l, k⟩))) : Calls Tryz.prog 18 #[.agg #[.int .i64 18, .int .i64 r, .int .i64 m, .int .i64 sub, .int .i64 cc, .int .i64 l, .int .i64 k]] w (retP (.bool res) w) := by
  by_cases hl0 : 0 ≤ l
  · have l0 : decide (0 ≤ l) = true := by simpa using hl0
    clear hl0
    have er : res = decide (l ≤ 10000000) := by rw [HE.out]; simp [arestB, *]
    subst er
    clear HE
    go_enter Tryz.func18, Tryz.ntmps18
    go_wp2_with (first | (go_at_call 27; refine (HN.out _).mono ?_; rintro e w1 ⟨rfl, hb1⟩; have HB1 := hid (bel_trans (bel_alloc (Below.refl _ _) _) hb1); have c0 := keep_cell hb1 (p := ⟨w.heap.size, 0, none⟩) (v := .int .i64 18) (by simp); have c1 := keep_cell hb1 (p := ⟨w.heap.size, 1, none⟩) (v := .int .i64 r) (by simp); have c2 := keep_cell hb1 (p := ⟨w.heap.size, 2, none⟩) (v := .int .i64 m) (by simp); have c3 := keep_cell hb1 (p := ⟨w.heap.size, 3, none⟩) (v := .int .i64 sub) (by simp); have c4 := keep_cell hb1 (p := ⟨w.heap.size, 4, none⟩) (v := .int .i64 cc) (by simp); have c5 := keep_cell hb1 (p := ⟨w.heap.size, 5, none⟩) (v := .int .i64 l) (by simp); have c6 := keep_cell hb1 (p := ⟨w.heap.size, 6, none⟩) (v := .int .i64 k) (by simp); clear hb1) | (go_at_call 28; refine (HW.out _).mono ?_; rintro e w2 ⟨rfl, hb2⟩; have HB2 := hid (bel_trans HB1.out hb2); replace c0 := keep_cell hb2 c0; replace c1 := keep_cell hb2 c1; replace c2 := keep_cell hb2 c2; replace c3 := keep_cell hb2 c3; replace c4 := keep_cell hb2 c4; replace c5 := keep_cell hb2 c5; replace c6 := keep_cell hb2 c6; clear hb2))
    go_ret
    exact ⟨rfl, HB2.out⟩
  · have l0 : decide (0 ≤ l) = false := by simpa using hl0
    clear hl0
    have er : res = false := by rw [HE.out]; simp [arestB, *]
    subst er
    clear HE
    go_enter Tryz.func18, Tryz.ntmps18
    go_wp2_with (first | (go_at_call 27; refine (HN.out _).mono ?_; rintro e w1 ⟨rfl, hb1⟩; have HB1 := hid (bel_trans (bel_alloc (Below.refl _ _) _) hb1); have c0 := keep_cell hb1 (p := ⟨w.heap.size, 0, none⟩) (v := .int .i64 18) (by simp); have c1 := keep_cell hb1 (p := ⟨w.heap.size, 1, none⟩) (v := .int .i64 r) (by simp); have c2 := keep_cell hb1 (p := ⟨w.heap.size, 2, none⟩) (v := .int .i64 m) (by simp); have c3 := keep_cell hb1 (p := ⟨w.heap.size, 3, none⟩) (v := .int .i64 sub) (by simp); have c4 := keep_cell hb1 (p := ⟨w.heap.size, 4, none⟩) (v := .int .i64 cc) (by simp); have c5 := keep_cell hb1 (p := ⟨w.heap.size, 5, none⟩) (v := .int .i64 l) (by simp); have c6 := keep_cell hb1 (p := ⟨w.heap.size, 6, none⟩) (v := .int .i64 k) (by simp); clear hb1) | (go_at_call 28; refine (HW.out _).mono ?_; rintro e w2 ⟨rfl, hb2⟩; have HB2 := hid (bel_trans HB1.out hb2); replace c0 := keep_cell hb2 c0; replace c1 := keep_cell hb2 c1; replace c2 := keep_cell hb2 c2; replace c3 := keep_cell hb2 c3; replace c4 := keep_cell hb2 c4; replace c5 := keep_cell hb2 c5; replace c6 := keep_cell hb2 c6; clear hb2))
    go_ret
    exact ⟨rfl, HB2.out⟩
set_option maxRecDepth 100000 in
set_option maxHeartbeats 8000000 in
theorem aright19 (r m sub cc l k : Int) (w : World) (res : Bool) (HN : Hid (∀ W, Calls Tryz.prog 27 #[.agg #[.int .i64 19, .int .i64 r, .int .i64 m, .int .i64 sub, .int .i64 cc, .int .i64 l, .int .i64 k]] W (retT false false W))) (HW : Hid (∀ W, Calls Tryz.prog 28 #[.agg #[.int .i64 19, .int .i64 r, .int .i64 m, .int .i64 sub, .int .i64 cc, .int .i64 l, .int .i64 k]] W (retP (.bool false) W)))
     (HE : Hid (res = (arestB ⟨19, r, m, sub, cc, l, k⟩))) : Calls Tryz.prog 18 #[.agg #[.int .i64 19, .int .i64 r, .int .i64 m, .int .i64 sub, .int .i64 cc, .int .i64 l, .int .i64 k]] w (retP (.bool res) w) := by
  have HC : Hid (∀ W, Calls Tryz.prog 31 #[.int .i64 cc] W fun e w' => e = .returned (.bool (accB cc)) ∧ w' = W) := fun W => acc_any cc W
  cases qa : accB cc with
  | true =>
    rw [qa] at HC
    by_cases hl0 : 0 ≤ l
    · have l0 : decide (0 ≤ l) = true := by simpa using hl0
      clear hl0
      have er : res = decide (l ≤ 10000000) := by rw [HE.out]; simp [arestB, *]
      subst er
      clear HE
      go_enter Tryz.func18, Tryz.ntmps18
      go_wp2_with (first | (go_at_call 27; refine (HN.out _).mono ?_; rintro e w1 ⟨rfl, hb1⟩; have HB1 := hid (bel_trans (bel_alloc (Below.refl _ _) _) hb1); have c0 := keep_cell hb1 (p := ⟨w.heap.size, 0, none⟩) (v := .int .i64 19) (by simp); have c1 := keep_cell hb1 (p := ⟨w.heap.size, 1, none⟩) (v := .int .i64 r) (by simp); have c2 := keep_cell hb1 (p := ⟨w.heap.size, 2, none⟩) (v := .int .i64 m) (by simp); have c3 := keep_cell hb1 (p := ⟨w.heap.size, 3, none⟩) (v := .int .i64 sub) (by simp); have c4 := keep_cell hb1 (p := ⟨w.heap.size, 4, none⟩) (v := .int .i64 cc) (by simp); have c5 := keep_cell hb1 (p := ⟨w.heap.size, 5, none⟩) (v := .int .i64 l) (by simp); have c6 := keep_cell hb1 (p := ⟨w.heap.size, 6, none⟩) (v := .int .i64 k) (by simp); clear hb1) | (go_at_call 28; refine (HW.out _).mono ?_; rintro e w2 ⟨rfl, hb2⟩; have HB2 := hid (bel_trans HB1.out hb2); replace c0 := keep_cell hb2 c0; replace c1 := keep_cell hb2 c1; replace c2 := keep_cell hb2 c2; replace c3 := keep_cell hb2 c3; replace c4 := keep_cell hb2 c4; replace c5 := keep_cell hb2 c5; replace c6 := keep_cell hb2 c6; clear hb2) | (go_at_call 31; refine (HC.out _).mono ?_; rintro e w3 ⟨rfl, hw⟩; replace hw := hw.symm; subst hw))
      go_ret
      exact ⟨rfl, HB2.out⟩
    · have l0 : decide (0 ≤ l) = false := by simpa using hl0
      clear hl0
      have er : res = false := by rw [HE.out]; simp [arestB, *]
      subst er
      clear HE
      go_enter Tryz.func18, Tryz.ntmps18
      go_wp2_with (first | (go_at_call 27; refine (HN.out _).mono ?_; rintro e w1 ⟨rfl, hb1⟩; have HB1 := hid (bel_trans (bel_alloc (Below.refl _ _) _) hb1); have c0 := keep_cell hb1 (p := ⟨w.heap.size, 0, none⟩) (v := .int .i64 19) (by simp); have c1 := keep_cell hb1 (p := ⟨w.heap.size, 1, none⟩) (v := .int .i64 r) (by simp); have c2 := keep_cell hb1 (p := ⟨w.heap.size, 2, none⟩) (v := .int .i64 m) (by simp); have c3 := keep_cell hb1 (p := ⟨w.heap.size, 3, none⟩) (v := .int .i64 sub) (by simp); have c4 := keep_cell hb1 (p := ⟨w.heap.size, 4, none⟩) (v := .int .i64 cc) (by simp); have c5 := keep_cell hb1 (p := ⟨w.heap.size, 5, none⟩) (v := .int .i64 l) (by simp); have c6 := keep_cell hb1 (p := ⟨w.heap.size, 6, none⟩) (v := .int .i64 k) (by simp); clear hb1) | (go_at_call 28; refine (HW.out _).mono ?_; rintro e w2 ⟨rfl, hb2⟩; have HB2 := hid (bel_trans HB1.out hb2); replace c0 := keep_cell hb2 c0; replace c1 := keep_cell hb2 c1; replace c2 := keep_cell hb2 c2; replace c3 := keep_cell hb2 c3; replace c4 := keep_cell hb2 c4; replace c5 := keep_cell hb2 c5; replace c6 := keep_cell hb2 c6; clear hb2) | (go_at_call 31; refine (HC.out _).mono ?_; rintro e w3 ⟨rfl, hw⟩; replace hw := hw.symm; subst hw))
      go_ret
      exact ⟨rfl, HB2.out⟩
  | false =>
    rw [qa] at HC
    have er : res = false := by rw [HE.out]; simp [arestB, *]
    subst er
    clear HE
    go_enter Tryz.func18, Tryz.ntmps18
    go_wp2_with (first | (go_at_call 27; refine (HN.out _).mono ?_; rintro e w1 ⟨rfl, hb1⟩; have HB1 := hid (bel_trans (bel_alloc (Below.refl _ _) _) hb1); have c0 := keep_cell hb1 (p := ⟨w.heap.size, 0, none⟩) (v := .int .i64 19) (by simp); have c1 := keep_cell hb1 (p := ⟨w.heap.size, 1, none⟩) (v := .int .i64 r) (by simp); have c2 := keep_cell hb1 (p := ⟨w.heap.size, 2, none⟩) (v := .int .i64 m) (by simp); have c3 := keep_cell hb1 (p := ⟨w.heap.size, 3, none⟩) (v := .int .i64 sub) (by simp); have c4 := keep_cell hb1 (p := ⟨w.heap.size, 4, none⟩) (v := .int .i64 cc) (by simp); have c5 := keep_cell hb1 (p := ⟨w.heap.size, 5, none⟩) (v := .int .i64 l) (by simp); have c6 := keep_cell hb1 (p := ⟨w.heap.size, 6, none⟩) (v := .int .i64 k) (by simp); clear hb1) | (go_at_call 28; refine (HW.out _).mono ?_; rintro e w2 ⟨rfl, hb2⟩; have HB2 := hid (bel_trans HB1.out hb2); replace c0 := keep_cell hb2 c0; replace c1 := keep_cell hb2 c1; replace c2 := keep_cell hb2 c2; replace c3 := keep_cell hb2 c3; replace c4 := keep_cell hb2 c4; replace c5 := keep_cell hb2 c5; replace c6 := keep_cell hb2 c6; clear hb2) | (go_at_call 31; refine (HC.out _).mono ?_; rintro e w3 ⟨rfl, hw⟩; replace hw := hw.symm; subst hw))
    go_ret
    exact ⟨rfl, HB2.out⟩
set_option maxRecDepth 100000 in
set_option maxHeartbeats 8000000 in
theorem aright20 (r m sub cc l k : Int) (w : World) (res : Bool) (HN : Hid (∀ W, Calls Tryz.prog 27 #[.agg #[.int .i64 20, .int .i64 r, .int .i64 m, .int .i64 sub, .int .i64 cc, .int .i64 l, .int .i64 k]] W (retT false false W))) (HW : Hid (∀ W, Calls Tryz.prog 28 #[.agg #[.int .i64 20, .int .i64 r, .int .i64 m, .int .i64 sub, .int .i64 cc, .int .i64 l, .int .i64 k]] W (retP (.bool false) W)))
     (HE : Hid (res = (arestB ⟨20, r, m, sub, cc, l, k⟩))) : Calls Tryz.prog 18 #[.agg #[.int .i64 20, .int .i64 r, .int .i64 m, .int .i64 sub, .int .i64 cc, .int .i64 l, .int .i64 k]] w (retP (.bool res) w) := by
  by_cases hl0 : 0 ≤ l
  · have l0 : decide (0 ≤ l) = true := by simpa using hl0
    clear hl0
    have er : res = decide (l ≤ 10000000) := by rw [HE.out]; simp [arestB, *]
    subst er
    clear HE
    go_enter Tryz.func18, Tryz.ntmps18
    go_wp2_with (first | (go_at_call 27; refine (HN.out _).mono ?_; rintro e w1 ⟨rfl, hb1⟩; have HB1 := hid (bel_trans (bel_alloc (Below.refl _ _) _) hb1); have c0 := keep_cell hb1 (p := ⟨w.heap.size, 0, none⟩) (v := .int .i64 20) (by simp); have c1 := keep_cell hb1 (p := ⟨w.heap.size, 1, none⟩) (v := .int .i64 r) (by simp); have c2 := keep_cell hb1 (p := ⟨w.heap.size, 2, none⟩) (v := .int .i64 m) (by simp); have c3 := keep_cell hb1 (p := ⟨w.heap.size, 3, none⟩) (v := .int .i64 sub) (by simp); have c4 := keep_cell hb1 (p := ⟨w.heap.size, 4, none⟩) (v := .int .i64 cc) (by simp); have c5 := keep_cell hb1 (p := ⟨w.heap.size, 5, none⟩) (v := .int .i64 l) (by simp); have c6 := keep_cell hb1 (p := ⟨w.heap.size, 6, none⟩) (v := .int .i64 k) (by simp); clear hb1) | (go_at_call 28; refine (HW.out _).mono ?_; rintro e w2 ⟨rfl, hb2⟩; have HB2 := hid (bel_trans HB1.out hb2); replace c0 := keep_cell hb2 c0; replace c1 := keep_cell hb2 c1; replace c2 := keep_cell hb2 c2; replace c3 := keep_cell hb2 c3; replace c4 := keep_cell hb2 c4; replace c5 := keep_cell hb2 c5; replace c6 := keep_cell hb2 c6; clear hb2))
    go_ret
    exact ⟨rfl, HB2.out⟩
  · have l0 : decide (0 ≤ l) = false := by simpa using hl0
    clear hl0
    have er : res = false := by rw [HE.out]; simp [arestB, *]
    subst er
    clear HE
    go_enter Tryz.func18, Tryz.ntmps18
    go_wp2_with (first | (go_at_call 27; refine (HN.out _).mono ?_; rintro e w1 ⟨rfl, hb1⟩; have HB1 := hid (bel_trans (bel_alloc (Below.refl _ _) _) hb1); have c0 := keep_cell hb1 (p := ⟨w.heap.size, 0, none⟩) (v := .int .i64 20) (by simp); have c1 := keep_cell hb1 (p := ⟨w.heap.size, 1, none⟩) (v := .int .i64 r) (by simp); have c2 := keep_cell hb1 (p := ⟨w.heap.size, 2, none⟩) (v := .int .i64 m) (by simp); have c3 := keep_cell hb1 (p := ⟨w.heap.size, 3, none⟩) (v := .int .i64 sub) (by simp); have c4 := keep_cell hb1 (p := ⟨w.heap.size, 4, none⟩) (v := .int .i64 cc) (by simp); have c5 := keep_cell hb1 (p := ⟨w.heap.size, 5, none⟩) (v := .int .i64 l) (by simp); have c6 := keep_cell hb1 (p := ⟨w.heap.size, 6, none⟩) (v := .int .i64 k) (by simp); clear hb1) | (go_at_call 28; refine (HW.out _).mono ?_; rintro e w2 ⟨rfl, hb2⟩; have HB2 := hid (bel_trans HB1.out hb2); replace c0 := keep_cell hb2 c0; replace c1 := keep_cell hb2 c1; replace c2 := keep_cell hb2 c2; replace c3 := keep_cell hb2 c3; replace c4 := keep_cell hb2 c4; replace c5 := keep_cell hb2 c5; replace c6 := keep_cell hb2 c6; clear hb2))
    go_ret
    exact ⟨rfl, HB2.out⟩
set_option maxRecDepth 100000 in
set_option maxHeartbeats 8000000 in
theorem aright21 (r m sub cc l k : Int) (w : World) (res : Bool) (HN : Hid (∀ W, Calls Tryz.prog 27 #[.agg #[.int .i64 21, .int .i64 r, .int .i64 m, .int .i64 sub, .int .i64 cc, .int .i64 l, .int .i64 k]] W (retT false false W))) (HW : Hid (∀ W, Calls Tryz.prog 28 #[.agg #[.int .i64 21, .int .i64 r, .int .i64 m, .int .i64 sub, .int .i64 cc, .int .i64 l, .int .i64 k]] W (retP (.bool false) W)))
     (HE : Hid (res = (arestB ⟨21, r, m, sub, cc, l, k⟩))) : Calls Tryz.prog 18 #[.agg #[.int .i64 21, .int .i64 r, .int .i64 m, .int .i64 sub, .int .i64 cc, .int .i64 l, .int .i64 k]] w (retP (.bool res) w) := by
  have er : res = true := by rw [HE.out]; simp [arestB, *]
  subst er
  clear HE
  go_enter Tryz.func18, Tryz.ntmps18
  go_wp2_with (first | (go_at_call 27; refine (HN.out _).mono ?_; rintro e w1 ⟨rfl, hb1⟩; have HB1 := hid (bel_trans (bel_alloc (Below.refl _ _) _) hb1); have c0 := keep_cell hb1 (p := ⟨w.heap.size, 0, none⟩) (v := .int .i64 21) (by simp); have c1 := keep_cell hb1 (p := ⟨w.heap.size, 1, none⟩) (v := .int .i64 r) (by simp); have c2 := keep_cell hb1 (p := ⟨w.heap.size, 2, none⟩) (v := .int .i64 m) (by simp); have c3 := keep_cell hb1 (p := ⟨w.heap.size, 3, none⟩) (v := .int .i64 sub) (by simp); have c4 := keep_cell hb1 (p := ⟨w.heap.size, 4, none⟩) (v := .int .i64 cc) (by simp); have c5 := keep_cell hb1 (p := ⟨w.heap.size, 5, none⟩) (v := .int .i64 l) (by simp); have c6 := keep_cell hb1 (p := ⟨w.heap.size, 6, none⟩) (v := .int .i64 k) (by simp); clear hb1) | (go_at_call 28; refine (HW.out _).mono ?_; rintro e w2 ⟨rfl, hb2⟩; have HB2 := hid (bel_trans HB1.out hb2); replace c0 := keep_cell hb2 c0; replace c1 := keep_cell hb2 c1; replace c2 := keep_cell hb2 c2; replace c3 := keep_cell hb2 c3; replace c4 := keep_cell hb2 c4; replace c5 := keep_cell hb2 c5; replace c6 := keep_cell hb2 c6; clear hb2))
  go_ret
  exact ⟨rfl, HB2.out⟩
set_option maxRecDepth 100000 in
set_option maxHeartbeats 8000000 in
theorem aright22 (r m sub cc l k : Int) (w : World) (res : Bool) (HN : Hid (∀ W, Calls Tryz.prog 27 #[.agg #[.int .i64 22, .int .i64 r, .int .i64 m, .int .i64 sub, .int .i64 cc, .int .i64 l, .int .i64 k]] W (retT false false W))) (HW : Hid (∀ W, Calls Tryz.prog 28 #[.agg #[.int .i64 22, .int .i64 r, .int .i64 m, .int .i64 sub, .int .i64 cc, .int .i64 l, .int .i64 k]] W (retP (.bool false) W)))
     (HE : Hid (res = (arestB ⟨22, r, m, sub, cc, l, k⟩))) : Calls Tryz.prog 18 #[.agg #[.int .i64 22, .int .i64 r, .int .i64 m, .int .i64 sub, .int .i64 cc, .int .i64 l, .int .i64 k]] w (retP (.bool res) w) := by
  have er : res = true := by rw [HE.out]; simp [arestB, *]
  subst er
  clear HE
  go_enter Tryz.func18, Tryz.ntmps18
  go_wp2_with (first | (go_at_call 27; refine (HN.out _).mono ?_; rintro e w1 ⟨rfl, hb1⟩; have HB1 := hid (bel_trans (bel_alloc (Below.refl _ _) _) hb1); have c0 := keep_cell hb1 (p := ⟨w.heap.size, 0, none⟩) (v := .int .i64 22) (by simp); have c1 := keep_cell hb1 (p := ⟨w.heap.size, 1, none⟩) (v := .int .i64 r) (by simp); have c2 := keep_cell hb1 (p := ⟨w.heap.size, 2, none⟩) (v := .int .i64 m) (by simp); have c3 := keep_cell hb1 (p := ⟨w.heap.size, 3, none⟩) (v := .int .i64 sub) (by simp); have c4 := keep_cell hb1 (p := ⟨w.heap.size, 4, none⟩) (v := .int .i64 cc) (by simp); have c5 := keep_cell hb1 (p := ⟨w.heap.size, 5, none⟩) (v := .int .i64 l) (by simp); have c6 := keep_cell hb1 (p := ⟨w.heap.size, 6, none⟩) (v := .int .i64 k) (by simp); clear hb1) | (go_at_call 28; refine (HW.out _).mono ?_; rintro e w2 ⟨rfl, hb2⟩; have HB2 := hid (bel_trans HB1.out hb2); replace c0 := keep_cell hb2 c0; replace c1 := keep_cell hb2 c1; replace c2 := keep_cell hb2 c2; replace c3 := keep_cell hb2 c3; replace c4 := keep_cell hb2 c4; replace c5 := keep_cell hb2 c5; replace c6 := keep_cell hb2 c6; clear hb2))
  go_ret
  exact ⟨rfl, HB2.out⟩
set_option maxRecDepth 100000 in
set_option maxHeartbeats 8000000 in
theorem aright23 (r m sub cc l k : Int) (w : World) (res : Bool) (HN : Hid (∀ W, Calls Tryz.prog 27 #[.agg #[.int .i64 23, .int .i64 r, .int .i64 m, .int .i64 sub, .int .i64 cc, .int .i64 l, .int .i64 k]] W (retT false false W))) (HW : Hid (∀ W, Calls Tryz.prog 28 #[.agg #[.int .i64 23, .int .i64 r, .int .i64 m, .int .i64 sub, .int .i64 cc, .int .i64 l, .int .i64 k]] W (retP (.bool false) W)))
     (HE : Hid (res = (arestB ⟨23, r, m, sub, cc, l, k⟩))) : Calls Tryz.prog 18 #[.agg #[.int .i64 23, .int .i64 r, .int .i64 m, .int .i64 sub, .int .i64 cc, .int .i64 l, .int .i64 k]] w (retP (.bool res) w) := by
  by_cases hk0 : 0 ≤ k
  · have k0 : decide (0 ≤ k) = true := by simpa using hk0
    clear hk0
    have er : res = decide (k ≤ 65536) := by rw [HE.out]; simp [arestB, *]
    subst er
    clear HE
    go_enter Tryz.func18, Tryz.ntmps18
    go_wp2_with (first | (go_at_call 27; refine (HN.out _).mono ?_; rintro e w1 ⟨rfl, hb1⟩; have HB1 := hid (bel_trans (bel_alloc (Below.refl _ _) _) hb1); have c0 := keep_cell hb1 (p := ⟨w.heap.size, 0, none⟩) (v := .int .i64 23) (by simp); have c1 := keep_cell hb1 (p := ⟨w.heap.size, 1, none⟩) (v := .int .i64 r) (by simp); have c2 := keep_cell hb1 (p := ⟨w.heap.size, 2, none⟩) (v := .int .i64 m) (by simp); have c3 := keep_cell hb1 (p := ⟨w.heap.size, 3, none⟩) (v := .int .i64 sub) (by simp); have c4 := keep_cell hb1 (p := ⟨w.heap.size, 4, none⟩) (v := .int .i64 cc) (by simp); have c5 := keep_cell hb1 (p := ⟨w.heap.size, 5, none⟩) (v := .int .i64 l) (by simp); have c6 := keep_cell hb1 (p := ⟨w.heap.size, 6, none⟩) (v := .int .i64 k) (by simp); clear hb1) | (go_at_call 28; refine (HW.out _).mono ?_; rintro e w2 ⟨rfl, hb2⟩; have HB2 := hid (bel_trans HB1.out hb2); replace c0 := keep_cell hb2 c0; replace c1 := keep_cell hb2 c1; replace c2 := keep_cell hb2 c2; replace c3 := keep_cell hb2 c3; replace c4 := keep_cell hb2 c4; replace c5 := keep_cell hb2 c5; replace c6 := keep_cell hb2 c6; clear hb2))
    go_ret
    exact ⟨rfl, HB2.out⟩
  · have k0 : decide (0 ≤ k) = false := by simpa using hk0
    clear hk0
    have er : res = false := by rw [HE.out]; simp [arestB, *]
    subst er
    clear HE
    go_enter Tryz.func18, Tryz.ntmps18
    go_wp2_with (first | (go_at_call 27; refine (HN.out _).mono ?_; rintro e w1 ⟨rfl, hb1⟩; have HB1 := hid (bel_trans (bel_alloc (Below.refl _ _) _) hb1); have c0 := keep_cell hb1 (p := ⟨w.heap.size, 0, none⟩) (v := .int .i64 23) (by simp); have c1 := keep_cell hb1 (p := ⟨w.heap.size, 1, none⟩) (v := .int .i64 r) (by simp); have c2 := keep_cell hb1 (p := ⟨w.heap.size, 2, none⟩) (v := .int .i64 m) (by simp); have c3 := keep_cell hb1 (p := ⟨w.heap.size, 3, none⟩) (v := .int .i64 sub) (by simp); have c4 := keep_cell hb1 (p := ⟨w.heap.size, 4, none⟩) (v := .int .i64 cc) (by simp); have c5 := keep_cell hb1 (p := ⟨w.heap.size, 5, none⟩) (v := .int .i64 l) (by simp); have c6 := keep_cell hb1 (p := ⟨w.heap.size, 6, none⟩) (v := .int .i64 k) (by simp); clear hb1) | (go_at_call 28; refine (HW.out _).mono ?_; rintro e w2 ⟨rfl, hb2⟩; have HB2 := hid (bel_trans HB1.out hb2); replace c0 := keep_cell hb2 c0; replace c1 := keep_cell hb2 c1; replace c2 := keep_cell hb2 c2; replace c3 := keep_cell hb2 c3; replace c4 := keep_cell hb2 c4; replace c5 := keep_cell hb2 c5; replace c6 := keep_cell hb2 c6; clear hb2))
    go_ret
    exact ⟨rfl, HB2.out⟩
set_option maxRecDepth 100000 in
set_option maxHeartbeats 8000000 in
theorem aright24 (r m sub cc l k : Int) (w : World) (res : Bool) (HN : Hid (∀ W, Calls Tryz.prog 27 #[.agg #[.int .i64 24, .int .i64 r, .int .i64 m, .int .i64 sub, .int .i64 cc, .int .i64 l, .int .i64 k]] W (retT false false W))) (HW : Hid (∀ W, Calls Tryz.prog 28 #[.agg #[.int .i64 24, .int .i64 r, .int .i64 m, .int .i64 sub, .int .i64 cc, .int .i64 l, .int .i64 k]] W (retP (.bool false) W)))
     (HE : Hid (res = (arestB ⟨24, r, m, sub, cc, l, k⟩))) : Calls Tryz.prog 18 #[.agg #[.int .i64 24, .int .i64 r, .int .i64 m, .int .i64 sub, .int .i64 cc, .int .i64 l, .int .i64 k]] w (retP (.bool res) w) := by
  by_cases hk0 : 0 ≤ k
  · have k0 : decide (0 ≤ k) = true := by simpa using hk0
    clear hk0
    have er : res = decide (k ≤ 65536) := by rw [HE.out]; simp [arestB, *]
    subst er
    clear HE
    go_enter Tryz.func18, Tryz.ntmps18
    go_wp2_with (first | (go_at_call 27; refine (HN.out _).mono ?_; rintro e w1 ⟨rfl, hb1⟩; have HB1 := hid (bel_trans (bel_alloc (Below.refl _ _) _) hb1); have c0 := keep_cell hb1 (p := ⟨w.heap.size, 0, none⟩) (v := .int .i64 24) (by simp); have c1 := keep_cell hb1 (p := ⟨w.heap.size, 1, none⟩) (v := .int .i64 r) (by simp); have c2 := keep_cell hb1 (p := ⟨w.heap.size, 2, none⟩) (v := .int .i64 m) (by simp); have c3 := keep_cell hb1 (p := ⟨w.heap.size, 3, none⟩) (v := .int .i64 sub) (by simp); have c4 := keep_cell hb1 (p := ⟨w.heap.size, 4, none⟩) (v := .int .i64 cc) (by simp); have c5 := keep_cell hb1 (p := ⟨w.heap.size, 5, none⟩) (v := .int .i64 l) (by simp); have c6 := keep_cell hb1 (p := ⟨w.heap.size, 6, none⟩) (v := .int .i64 k) (by simp); clear hb1) | (go_at_call 28; refine (HW.out _).mono ?_; rintro e w2 ⟨rfl, hb2⟩; have HB2 := hid (bel_trans HB1.out hb2); replace c0 := keep_cell hb2 c0; replace c1 := keep_cell hb2 c1; replace c2 := keep_cell hb2 c2; replace c3 := keep_cell hb2 c3; replace c4 := keep_cell hb2 c4; replace c5 := keep_cell hb2 c5; replace c6 := keep_cell hb2 c6; clear hb2))
    go_ret
    exact ⟨rfl, HB2.out⟩
  · have k0 : decide (0 ≤ k) = false := by simpa using hk0
    clear hk0
    have er : res = false := by rw [HE.out]; simp [arestB, *]
    subst er
    clear HE
    go_enter Tryz.func18, Tryz.ntmps18
    go_wp2_with (first | (go_at_call 27; refine (HN.out _).mono ?_; rintro e w1 ⟨rfl, hb1⟩; have HB1 := hid (bel_trans (bel_alloc (Below.refl _ _) _) hb1); have c0 := keep_cell hb1 (p := ⟨w.heap.size, 0, none⟩) (v := .int .i64 24) (by simp); have c1 := keep_cell hb1 (p := ⟨w.heap.size, 1, none⟩) (v := .int .i64 r) (by simp); have c2 := keep_cell hb1 (p := ⟨w.heap.size, 2, none⟩) (v := .int .i64 m) (by simp); have c3 := keep_cell hb1 (p := ⟨w.heap.size, 3, none⟩) (v := .int .i64 sub) (by simp); have c4 := keep_cell hb1 (p := ⟨w.heap.size, 4, none⟩) (v := .int .i64 cc) (by simp); have c5 := keep_cell hb1 (p := ⟨w.heap.size, 5, none⟩) (v := .int .i64 l) (by simp); have c6 := keep_cell hb1 (p := ⟨w.heap.size, 6, none⟩) (v := .int .i64 k) (by simp); clear hb1) | (go_at_call 28; refine (HW.out _).mono ?_; rintro e w2 ⟨rfl, hb2⟩; have HB2 := hid (bel_trans HB1.out hb2); replace c0 := keep_cell hb2 c0; replace c1 := keep_cell hb2 c1; replace c2 := keep_cell hb2 c2; replace c3 := keep_cell hb2 c3; replace c4 := keep_cell hb2 c4; replace c5 := keep_cell hb2 c5; replace c6 := keep_cell hb2 c6; clear hb2))
    go_ret
    exact ⟨rfl, HB2.out⟩
set_option maxRecDepth 100000 in
set_option maxHeartbeats 8000000 in
theorem aright25 (r m sub cc l k : Int) (w : World) (res : Bool) (HN : Hid (∀ W, Calls Tryz.prog 27 #[.agg #[.int .i64 25, .int .i64 r, .int .i64 m, .int .i64 sub, .int .i64 cc, .int .i64 l, .int .i64 k]] W (retT false false W))) (HW : Hid (∀ W, Calls Tryz.prog 28 #[.agg #[.int .i64 25, .int .i64 r, .int .i64 m, .int .i64 sub, .int .i64 cc, .int .i64 l, .int .i64 k]] W (retP (.bool false) W)))
     (HE : Hid (res = (arestB ⟨25, r, m, sub, cc, l, k⟩))) : Calls Tryz.prog 18 #[.agg #[.int .i64 25, .int .i64 r, .int .i64 m, .int .i64 sub, .int .i64 cc, .int .i64 l, .int .i64 k]] w (retP (.bool res) w) := by
  have er : res = true := by rw [HE.out]; simp [arestB, *]
  subst er
  clear HE
  go_enter Tryz.func18, Tryz.ntmps18
  go_wp2_with (first | (go_at_call 27; refine (HN.out _).mono ?_; rintro e w1 ⟨rfl, hb1⟩; have HB1 := hid (bel_trans (bel_alloc (Below.refl _ _) _) hb1); have c0 := keep_cell hb1 (p := ⟨w.heap.size, 0, none⟩) (v := .int .i64 25) (by simp); have c1 := keep_cell hb1 (p := ⟨w.heap.size, 1, none⟩) (v := .int .i64 r) (by simp); have c2 := keep_cell hb1 (p := ⟨w.heap.size, 2, none⟩) (v := .int .i64 m) (by simp); have c3 := keep_cell hb1 (p := ⟨w.heap.size, 3, none⟩) (v := .int .i64 sub) (by simp); have c4 := keep_cell hb1 (p := ⟨w.heap.size, 4, none⟩) (v := .int .i64 cc) (by simp); have c5 := keep_cell hb1 (p := ⟨w.heap.size, 5, none⟩) (v := .int .i64 l) (by simp); have c6 := keep_cell hb1 (p := ⟨w.heap.size, 6, none⟩) (v := .int .i64 k) (by simp); clear hb1) | (go_at_call 28; refine (HW.out _).mono ?_; rintro e w2 ⟨rfl, hb2⟩; have HB2 := hid (bel_trans HB1.out hb2); replace c0 := keep_cell hb2 c0; replace c1 := keep_cell hb2 c1; replace c2 := keep_cell hb2 c2; replace c3 := keep_cell hb2 c3; replace c4 := keep_cell hb2 c4; replace c5 := keep_cell hb2 c5; replace c6 := keep_cell hb2 c6; clear hb2))
  go_ret
  exact ⟨rfl, HB2.out⟩
set_option maxRecDepth 100000 in
set_option maxHeartbeats 8000000 in
theorem aright26 (r m sub cc l k : Int) (w : World) (res : Bool) (HN : Hid (∀ W, Calls Tryz.prog 27 #[.agg #[.int .i64 26, .int .i64 r, .int .i64 m, .int .i64 sub, .int .i64 cc, .int .i64 l, .int .i64 k]] W (retT false false W))) (HW : Hid (∀ W, Calls Tryz.prog 28 #[.agg #[.int .i64 26, .int .i64 r, .int .i64 m, .int .i64 sub, .int .i64 cc, .int .i64 l, .int .i64 k]] W (retP (.bool false) W)))
     (HE : Hid (res = (arestB ⟨26, r, m, sub, cc, l, k⟩))) : Calls Tryz.prog 18 #[.agg #[.int .i64 26, .int .i64 r, .int .i64 m, .int .i64 sub, .int .i64 cc, .int .i64 l, .int .i64 k]] w (retP (.bool res) w) := by
  have er : res = true := by rw [HE.out]; simp [arestB, *]
  subst er
  clear HE
  go_enter Tryz.func18, Tryz.ntmps18
  go_wp2_with (first | (go_at_call 27; refine (HN.out _).mono ?_; rintro e w1 ⟨rfl, hb1⟩; have HB1 := hid (bel_trans (bel_alloc (Below.refl _ _) _) hb1); have c0 := keep_cell hb1 (p := ⟨w.heap.size, 0, none⟩) (v := .int .i64 26) (by simp); have c1 := keep_cell hb1 (p := ⟨w.heap.size, 1, none⟩) (v := .int .i64 r) (by simp); have c2 := keep_cell hb1 (p := ⟨w.heap.size, 2, none⟩) (v := .int .i64 m) (by simp); have c3 := keep_cell hb1 (p := ⟨w.heap.size, 3, none⟩) (v := .int .i64 sub) (by simp); have c4 := keep_cell hb1 (p := ⟨w.heap.size, 4, none⟩) (v := .int .i64 cc) (by simp); have c5 := keep_cell hb1 (p := ⟨w.heap.size, 5, none⟩) (v := .int .i64 l) (by simp); have c6 := keep_cell hb1 (p := ⟨w.heap.size, 6, none⟩) (v := .int .i64 k) (by simp); clear hb1) | (go_at_call 28; refine (HW.out _).mono ?_; rintro e w2 ⟨rfl, hb2⟩; have HB2 := hid (bel_trans HB1.out hb2); replace c0 := keep_cell hb2 c0; replace c1 := keep_cell hb2 c1; replace c2 := keep_cell hb2 c2; replace c3 := keep_cell hb2 c3; replace c4 := keep_cell hb2 c4; replace c5 := keep_cell hb2 c5; replace c6 := keep_cell hb2 c6; clear hb2))
  go_ret
  exact ⟨rfl, HB2.out⟩
end Go.Proofs.YtofnnpchobgapaaGreatDoor

