/- The document's own machine code: which instructions are right: the head. -/
import Derived.Test.YtofnnpchobgapaaGreatDoorAsR1
namespace Go.Proofs.YtofnnpchobgapaaGreatDoor
open Go.ChangeShapes Go.WideShapes Go.ChangeAt Go.RowKit
set_option linter.unusedSimpArgs false
set_option linter.unusedVariables false

def aheadB (op : Int) (nr : Bool) (r : Int) (nm : Bool) (m : Int) (wr : Bool) : Bool := decide (op < 1) || (decide (26 < op) || (nr && (decide (r < 0) || decide (15 < r)) || (nm && (decide (m < 0) || decide (15 < m)) || wr && r == 4)))
set_option maxRecDepth 100000 in
set_option maxHeartbeats 8000000 in
theorem aright_bad (op r m sub cc l k : Int) (nr nm wr : Bool) (w : World) (HN : Hid (∀ W, Calls Tryz.prog 27 #[.agg #[.int .i64 op, .int .i64 r, .int .i64 m, .int .i64 sub, .int .i64 cc, .int .i64 l, .int .i64 k]] W (retT nr nm W))) (HW : Hid (∀ W, Calls Tryz.prog 28 #[.agg #[.int .i64 op, .int .i64 r, .int .i64 m, .int .i64 sub, .int .i64 cc, .int .i64 l, .int .i64 k]] W (retP (.bool wr) W)))
    (HH : Hid (aheadB op nr r nm m wr = true)) : Calls Tryz.prog 18 #[.agg #[.int .i64 op, .int .i64 r, .int .i64 m, .int .i64 sub, .int .i64 cc, .int .i64 l, .int .i64 k]] w (retP (.bool false) w) := by
  by_cases hqo0 : op < 1
  · have qo0 : decide (op < 1) = true := by simpa using hqo0
    clear hqo0
    go_enter Tryz.func18, Tryz.ntmps18
    go_wp2_with (first | (go_at_call 27; refine (HN.out _).mono ?_; rintro e w1 ⟨rfl, hb1⟩; have HB1 := hid (bel_trans (bel_alloc (Below.refl _ _) _) hb1); have c0 := keep_cell hb1 (p := ⟨w.heap.size, 0, none⟩) (v := .int .i64 op) (by simp); have c1 := keep_cell hb1 (p := ⟨w.heap.size, 1, none⟩) (v := .int .i64 r) (by simp); have c2 := keep_cell hb1 (p := ⟨w.heap.size, 2, none⟩) (v := .int .i64 m) (by simp); have c3 := keep_cell hb1 (p := ⟨w.heap.size, 3, none⟩) (v := .int .i64 sub) (by simp); have c4 := keep_cell hb1 (p := ⟨w.heap.size, 4, none⟩) (v := .int .i64 cc) (by simp); have c5 := keep_cell hb1 (p := ⟨w.heap.size, 5, none⟩) (v := .int .i64 l) (by simp); have c6 := keep_cell hb1 (p := ⟨w.heap.size, 6, none⟩) (v := .int .i64 k) (by simp); clear hb1))
    go_ret
    exact ⟨rfl, HB1.out⟩
  · have qo0 : decide (op < 1) = false := by simpa using hqo0
    clear hqo0
    by_cases hqo1 : 26 < op
    · have qo1 : decide (26 < op) = true := by simpa using hqo1
      clear hqo1
      go_enter Tryz.func18, Tryz.ntmps18
      go_wp2_with (first | (go_at_call 27; refine (HN.out _).mono ?_; rintro e w1 ⟨rfl, hb1⟩; have HB1 := hid (bel_trans (bel_alloc (Below.refl _ _) _) hb1); have c0 := keep_cell hb1 (p := ⟨w.heap.size, 0, none⟩) (v := .int .i64 op) (by simp); have c1 := keep_cell hb1 (p := ⟨w.heap.size, 1, none⟩) (v := .int .i64 r) (by simp); have c2 := keep_cell hb1 (p := ⟨w.heap.size, 2, none⟩) (v := .int .i64 m) (by simp); have c3 := keep_cell hb1 (p := ⟨w.heap.size, 3, none⟩) (v := .int .i64 sub) (by simp); have c4 := keep_cell hb1 (p := ⟨w.heap.size, 4, none⟩) (v := .int .i64 cc) (by simp); have c5 := keep_cell hb1 (p := ⟨w.heap.size, 5, none⟩) (v := .int .i64 l) (by simp); have c6 := keep_cell hb1 (p := ⟨w.heap.size, 6, none⟩) (v := .int .i64 k) (by simp); clear hb1))
      go_ret
      exact ⟨rfl, HB1.out⟩
    · have qo1 : decide (26 < op) = false := by simpa using hqo1
      clear hqo1
      cases nr with
      | true =>
        by_cases hqr0 : r < 0
        · have qr0 : decide (r < 0) = true := by simpa using hqr0
          clear hqr0
          go_enter Tryz.func18, Tryz.ntmps18
          go_wp2_with (first | (go_at_call 27; refine (HN.out _).mono ?_; rintro e w1 ⟨rfl, hb1⟩; have HB1 := hid (bel_trans (bel_alloc (Below.refl _ _) _) hb1); have c0 := keep_cell hb1 (p := ⟨w.heap.size, 0, none⟩) (v := .int .i64 op) (by simp); have c1 := keep_cell hb1 (p := ⟨w.heap.size, 1, none⟩) (v := .int .i64 r) (by simp); have c2 := keep_cell hb1 (p := ⟨w.heap.size, 2, none⟩) (v := .int .i64 m) (by simp); have c3 := keep_cell hb1 (p := ⟨w.heap.size, 3, none⟩) (v := .int .i64 sub) (by simp); have c4 := keep_cell hb1 (p := ⟨w.heap.size, 4, none⟩) (v := .int .i64 cc) (by simp); have c5 := keep_cell hb1 (p := ⟨w.heap.size, 5, none⟩) (v := .int .i64 l) (by simp); have c6 := keep_cell hb1 (p := ⟨w.heap.size, 6, none⟩) (v := .int .i64 k) (by simp); clear hb1))
          go_ret
          exact ⟨rfl, HB1.out⟩
        · have qr0 : decide (r < 0) = false := by simpa using hqr0
          clear hqr0
          by_cases hqr1 : 15 < r
          · have qr1 : decide (15 < r) = true := by simpa using hqr1
            clear hqr1
            go_enter Tryz.func18, Tryz.ntmps18
            go_wp2_with (first | (go_at_call 27; refine (HN.out _).mono ?_; rintro e w1 ⟨rfl, hb1⟩; have HB1 := hid (bel_trans (bel_alloc (Below.refl _ _) _) hb1); have c0 := keep_cell hb1 (p := ⟨w.heap.size, 0, none⟩) (v := .int .i64 op) (by simp); have c1 := keep_cell hb1 (p := ⟨w.heap.size, 1, none⟩) (v := .int .i64 r) (by simp); have c2 := keep_cell hb1 (p := ⟨w.heap.size, 2, none⟩) (v := .int .i64 m) (by simp); have c3 := keep_cell hb1 (p := ⟨w.heap.size, 3, none⟩) (v := .int .i64 sub) (by simp); have c4 := keep_cell hb1 (p := ⟨w.heap.size, 4, none⟩) (v := .int .i64 cc) (by simp); have c5 := keep_cell hb1 (p := ⟨w.heap.size, 5, none⟩) (v := .int .i64 l) (by simp); have c6 := keep_cell hb1 (p := ⟨w.heap.size, 6, none⟩) (v := .int .i64 k) (by simp); clear hb1))
            go_ret
            exact ⟨rfl, HB1.out⟩
          · have qr1 : decide (15 < r) = false := by simpa using hqr1
            clear hqr1
            cases nm with
            | true =>
              by_cases hqm0 : m < 0
              · have qm0 : decide (m < 0) = true := by simpa using hqm0
                clear hqm0
                go_enter Tryz.func18, Tryz.ntmps18
                go_wp2_with (first | (go_at_call 27; refine (HN.out _).mono ?_; rintro e w1 ⟨rfl, hb1⟩; have HB1 := hid (bel_trans (bel_alloc (Below.refl _ _) _) hb1); have c0 := keep_cell hb1 (p := ⟨w.heap.size, 0, none⟩) (v := .int .i64 op) (by simp); have c1 := keep_cell hb1 (p := ⟨w.heap.size, 1, none⟩) (v := .int .i64 r) (by simp); have c2 := keep_cell hb1 (p := ⟨w.heap.size, 2, none⟩) (v := .int .i64 m) (by simp); have c3 := keep_cell hb1 (p := ⟨w.heap.size, 3, none⟩) (v := .int .i64 sub) (by simp); have c4 := keep_cell hb1 (p := ⟨w.heap.size, 4, none⟩) (v := .int .i64 cc) (by simp); have c5 := keep_cell hb1 (p := ⟨w.heap.size, 5, none⟩) (v := .int .i64 l) (by simp); have c6 := keep_cell hb1 (p := ⟨w.heap.size, 6, none⟩) (v := .int .i64 k) (by simp); clear hb1))
                go_ret
                exact ⟨rfl, HB1.out⟩
              · have qm0 : decide (m < 0) = false := by simpa using hqm0
                clear hqm0
                by_cases hqm1 : 15 < m
                · have qm1 : decide (15 < m) = true := by simpa using hqm1
                  clear hqm1
                  go_enter Tryz.func18, Tryz.ntmps18
                  go_wp2_with (first | (go_at_call 27; refine (HN.out _).mono ?_; rintro e w1 ⟨rfl, hb1⟩; have HB1 := hid (bel_trans (bel_alloc (Below.refl _ _) _) hb1); have c0 := keep_cell hb1 (p := ⟨w.heap.size, 0, none⟩) (v := .int .i64 op) (by simp); have c1 := keep_cell hb1 (p := ⟨w.heap.size, 1, none⟩) (v := .int .i64 r) (by simp); have c2 := keep_cell hb1 (p := ⟨w.heap.size, 2, none⟩) (v := .int .i64 m) (by simp); have c3 := keep_cell hb1 (p := ⟨w.heap.size, 3, none⟩) (v := .int .i64 sub) (by simp); have c4 := keep_cell hb1 (p := ⟨w.heap.size, 4, none⟩) (v := .int .i64 cc) (by simp); have c5 := keep_cell hb1 (p := ⟨w.heap.size, 5, none⟩) (v := .int .i64 l) (by simp); have c6 := keep_cell hb1 (p := ⟨w.heap.size, 6, none⟩) (v := .int .i64 k) (by simp); clear hb1))
                  go_ret
                  exact ⟨rfl, HB1.out⟩
                · have qm1 : decide (15 < m) = false := by simpa using hqm1
                  clear hqm1
                  cases wr with
                  | true =>
                    cases q4 : (r == 4) with
                    | true =>
                      go_enter Tryz.func18, Tryz.ntmps18
                      go_wp2_with (first | (go_at_call 27; refine (HN.out _).mono ?_; rintro e w1 ⟨rfl, hb1⟩; have HB1 := hid (bel_trans (bel_alloc (Below.refl _ _) _) hb1); have c0 := keep_cell hb1 (p := ⟨w.heap.size, 0, none⟩) (v := .int .i64 op) (by simp); have c1 := keep_cell hb1 (p := ⟨w.heap.size, 1, none⟩) (v := .int .i64 r) (by simp); have c2 := keep_cell hb1 (p := ⟨w.heap.size, 2, none⟩) (v := .int .i64 m) (by simp); have c3 := keep_cell hb1 (p := ⟨w.heap.size, 3, none⟩) (v := .int .i64 sub) (by simp); have c4 := keep_cell hb1 (p := ⟨w.heap.size, 4, none⟩) (v := .int .i64 cc) (by simp); have c5 := keep_cell hb1 (p := ⟨w.heap.size, 5, none⟩) (v := .int .i64 l) (by simp); have c6 := keep_cell hb1 (p := ⟨w.heap.size, 6, none⟩) (v := .int .i64 k) (by simp); clear hb1) | (go_at_call 28; refine (HW.out _).mono ?_; rintro e w2 ⟨rfl, hb2⟩; have HB2 := hid (bel_trans HB1.out hb2); replace c0 := keep_cell hb2 c0; replace c1 := keep_cell hb2 c1; replace c2 := keep_cell hb2 c2; replace c3 := keep_cell hb2 c3; replace c4 := keep_cell hb2 c4; replace c5 := keep_cell hb2 c5; replace c6 := keep_cell hb2 c6; clear hb2))
                      go_ret
                      exact ⟨rfl, HB2.out⟩
                    | false =>
                      exfalso; have h := HH.out; simp [aheadB, *] at h
                  | false =>
                    exfalso; have h := HH.out; simp [aheadB, *] at h
            | false =>
              cases wr with
              | true =>
                cases q4 : (r == 4) with
                | true =>
                  go_enter Tryz.func18, Tryz.ntmps18
                  go_wp2_with (first | (go_at_call 27; refine (HN.out _).mono ?_; rintro e w1 ⟨rfl, hb1⟩; have HB1 := hid (bel_trans (bel_alloc (Below.refl _ _) _) hb1); have c0 := keep_cell hb1 (p := ⟨w.heap.size, 0, none⟩) (v := .int .i64 op) (by simp); have c1 := keep_cell hb1 (p := ⟨w.heap.size, 1, none⟩) (v := .int .i64 r) (by simp); have c2 := keep_cell hb1 (p := ⟨w.heap.size, 2, none⟩) (v := .int .i64 m) (by simp); have c3 := keep_cell hb1 (p := ⟨w.heap.size, 3, none⟩) (v := .int .i64 sub) (by simp); have c4 := keep_cell hb1 (p := ⟨w.heap.size, 4, none⟩) (v := .int .i64 cc) (by simp); have c5 := keep_cell hb1 (p := ⟨w.heap.size, 5, none⟩) (v := .int .i64 l) (by simp); have c6 := keep_cell hb1 (p := ⟨w.heap.size, 6, none⟩) (v := .int .i64 k) (by simp); clear hb1) | (go_at_call 28; refine (HW.out _).mono ?_; rintro e w2 ⟨rfl, hb2⟩; have HB2 := hid (bel_trans HB1.out hb2); replace c0 := keep_cell hb2 c0; replace c1 := keep_cell hb2 c1; replace c2 := keep_cell hb2 c2; replace c3 := keep_cell hb2 c3; replace c4 := keep_cell hb2 c4; replace c5 := keep_cell hb2 c5; replace c6 := keep_cell hb2 c6; clear hb2))
                  go_ret
                  exact ⟨rfl, HB2.out⟩
                | false =>
                  exfalso; have h := HH.out; simp [aheadB, *] at h
              | false =>
                exfalso; have h := HH.out; simp [aheadB, *] at h
      | false =>
        cases nm with
        | true =>
          by_cases hqm0 : m < 0
          · have qm0 : decide (m < 0) = true := by simpa using hqm0
            clear hqm0
            go_enter Tryz.func18, Tryz.ntmps18
            go_wp2_with (first | (go_at_call 27; refine (HN.out _).mono ?_; rintro e w1 ⟨rfl, hb1⟩; have HB1 := hid (bel_trans (bel_alloc (Below.refl _ _) _) hb1); have c0 := keep_cell hb1 (p := ⟨w.heap.size, 0, none⟩) (v := .int .i64 op) (by simp); have c1 := keep_cell hb1 (p := ⟨w.heap.size, 1, none⟩) (v := .int .i64 r) (by simp); have c2 := keep_cell hb1 (p := ⟨w.heap.size, 2, none⟩) (v := .int .i64 m) (by simp); have c3 := keep_cell hb1 (p := ⟨w.heap.size, 3, none⟩) (v := .int .i64 sub) (by simp); have c4 := keep_cell hb1 (p := ⟨w.heap.size, 4, none⟩) (v := .int .i64 cc) (by simp); have c5 := keep_cell hb1 (p := ⟨w.heap.size, 5, none⟩) (v := .int .i64 l) (by simp); have c6 := keep_cell hb1 (p := ⟨w.heap.size, 6, none⟩) (v := .int .i64 k) (by simp); clear hb1))
            go_ret
            exact ⟨rfl, HB1.out⟩
          · have qm0 : decide (m < 0) = false := by simpa using hqm0
            clear hqm0
            by_cases hqm1 : 15 < m
            · have qm1 : decide (15 < m) = true := by simpa using hqm1
              clear hqm1
              go_enter Tryz.func18, Tryz.ntmps18
              go_wp2_with (first | (go_at_call 27; refine (HN.out _).mono ?_; rintro e w1 ⟨rfl, hb1⟩; have HB1 := hid (bel_trans (bel_alloc (Below.refl _ _) _) hb1); have c0 := keep_cell hb1 (p := ⟨w.heap.size, 0, none⟩) (v := .int .i64 op) (by simp); have c1 := keep_cell hb1 (p := ⟨w.heap.size, 1, none⟩) (v := .int .i64 r) (by simp); have c2 := keep_cell hb1 (p := ⟨w.heap.size, 2, none⟩) (v := .int .i64 m) (by simp); have c3 := keep_cell hb1 (p := ⟨w.heap.size, 3, none⟩) (v := .int .i64 sub) (by simp); have c4 := keep_cell hb1 (p := ⟨w.heap.size, 4, none⟩) (v := .int .i64 cc) (by simp); have c5 := keep_cell hb1 (p := ⟨w.heap.size, 5, none⟩) (v := .int .i64 l) (by simp); have c6 := keep_cell hb1 (p := ⟨w.heap.size, 6, none⟩) (v := .int .i64 k) (by simp); clear hb1))
              go_ret
              exact ⟨rfl, HB1.out⟩
            · have qm1 : decide (15 < m) = false := by simpa using hqm1
              clear hqm1
              cases wr with
              | true =>
                cases q4 : (r == 4) with
                | true =>
                  go_enter Tryz.func18, Tryz.ntmps18
                  go_wp2_with (first | (go_at_call 27; refine (HN.out _).mono ?_; rintro e w1 ⟨rfl, hb1⟩; have HB1 := hid (bel_trans (bel_alloc (Below.refl _ _) _) hb1); have c0 := keep_cell hb1 (p := ⟨w.heap.size, 0, none⟩) (v := .int .i64 op) (by simp); have c1 := keep_cell hb1 (p := ⟨w.heap.size, 1, none⟩) (v := .int .i64 r) (by simp); have c2 := keep_cell hb1 (p := ⟨w.heap.size, 2, none⟩) (v := .int .i64 m) (by simp); have c3 := keep_cell hb1 (p := ⟨w.heap.size, 3, none⟩) (v := .int .i64 sub) (by simp); have c4 := keep_cell hb1 (p := ⟨w.heap.size, 4, none⟩) (v := .int .i64 cc) (by simp); have c5 := keep_cell hb1 (p := ⟨w.heap.size, 5, none⟩) (v := .int .i64 l) (by simp); have c6 := keep_cell hb1 (p := ⟨w.heap.size, 6, none⟩) (v := .int .i64 k) (by simp); clear hb1) | (go_at_call 28; refine (HW.out _).mono ?_; rintro e w2 ⟨rfl, hb2⟩; have HB2 := hid (bel_trans HB1.out hb2); replace c0 := keep_cell hb2 c0; replace c1 := keep_cell hb2 c1; replace c2 := keep_cell hb2 c2; replace c3 := keep_cell hb2 c3; replace c4 := keep_cell hb2 c4; replace c5 := keep_cell hb2 c5; replace c6 := keep_cell hb2 c6; clear hb2))
                  go_ret
                  exact ⟨rfl, HB2.out⟩
                | false =>
                  exfalso; have h := HH.out; simp [aheadB, *] at h
              | false =>
                exfalso; have h := HH.out; simp [aheadB, *] at h
        | false =>
          cases wr with
          | true =>
            cases q4 : (r == 4) with
            | true =>
              go_enter Tryz.func18, Tryz.ntmps18
              go_wp2_with (first | (go_at_call 27; refine (HN.out _).mono ?_; rintro e w1 ⟨rfl, hb1⟩; have HB1 := hid (bel_trans (bel_alloc (Below.refl _ _) _) hb1); have c0 := keep_cell hb1 (p := ⟨w.heap.size, 0, none⟩) (v := .int .i64 op) (by simp); have c1 := keep_cell hb1 (p := ⟨w.heap.size, 1, none⟩) (v := .int .i64 r) (by simp); have c2 := keep_cell hb1 (p := ⟨w.heap.size, 2, none⟩) (v := .int .i64 m) (by simp); have c3 := keep_cell hb1 (p := ⟨w.heap.size, 3, none⟩) (v := .int .i64 sub) (by simp); have c4 := keep_cell hb1 (p := ⟨w.heap.size, 4, none⟩) (v := .int .i64 cc) (by simp); have c5 := keep_cell hb1 (p := ⟨w.heap.size, 5, none⟩) (v := .int .i64 l) (by simp); have c6 := keep_cell hb1 (p := ⟨w.heap.size, 6, none⟩) (v := .int .i64 k) (by simp); clear hb1) | (go_at_call 28; refine (HW.out _).mono ?_; rintro e w2 ⟨rfl, hb2⟩; have HB2 := hid (bel_trans HB1.out hb2); replace c0 := keep_cell hb2 c0; replace c1 := keep_cell hb2 c1; replace c2 := keep_cell hb2 c2; replace c3 := keep_cell hb2 c3; replace c4 := keep_cell hb2 c4; replace c5 := keep_cell hb2 c5; replace c6 := keep_cell hb2 c6; clear hb2))
              go_ret
              exact ⟨rfl, HB2.out⟩
            | false =>
              exfalso; have h := HH.out; simp [aheadB, *] at h
          | false =>
            exfalso; have h := HH.out; simp [aheadB, *] at h
end Go.Proofs.YtofnnpchobgapaaGreatDoor

