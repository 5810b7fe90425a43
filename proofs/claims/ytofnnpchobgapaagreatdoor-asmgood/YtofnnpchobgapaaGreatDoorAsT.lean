/- Package asm: may an instruction be one of a program's? -/
import Derived.Test.YtofnnpchobgapaaGreatDoorAsL
namespace Go.Proofs.YtofnnpchobgapaaGreatDoor
open Go.ChangeShapes Go.WideShapes Go.ChangeAt Go.RowKit
set_option linter.unusedSimpArgs false
set_option linter.unusedVariables false

theorem acwp_named {P : Program} {c : Code} {Q : Exit → Act → World → Prop} {a : Act} {w0 : World} (Fct : World → Prop) (h : Fct w0) (k : ∀ W, Fct W → Code.wp P c Q a W) : Code.wp P c Q a w0 := k w0 h
set_option maxRecDepth 100000 in
set_option maxHeartbeats 8000000 in
theorem atakes_walk (pb po ib io g gcap nf fcap : Nat) (ga fa : Option Addr) (x : AIns) (s : ASp) (b1 b2 b3 b4 bl r : Bool) (w : World) (HX : Hid (aspOf x.op = s)) (HT : Hid (AsTab w)) (HI : Hid (AInsAt w ib io x)) (p0 : w.cell? ⟨pb, po, none⟩ = some (.slice ga g gcap))
    (H1 : Hid (∀ W, Calls Tryz.prog 60 #[.int .i64 s.r, .int .i64 x.r] W fun e w' => e = .returned (.bool b1) ∧ w' = W))
    (H2 : Hid (∀ W, Calls Tryz.prog 60 #[.int .i64 s.m, .int .i64 x.m] W fun e w' => e = .returned (.bool b2) ∧ w' = W))
    (H3 : Hid (∀ W, Below w.heap.size w W → Calls Tryz.prog 61 #[.int .i64 s.sub, .int .i64 x.sub, .pointer (some ⟨pb, po, none⟩)] W fun e w' => e = .returned (.bool b3) ∧ w' = W))
    (H4 : Hid (b3 = true → ∀ W, Below w.heap.size w W → Calls Tryz.prog 62 #[.int .i64 s.k, .pointer (some ⟨ib, io, none⟩), .pointer (some ⟨pb, po, none⟩)] W (retQ (.bool b4) W)))
    (H5 : Hid (∀ W, Calls Tryz.prog 25 #[.int .i64 x.l, .int .i64 10000000] W fun e w' => e = .returned (.bool bl) ∧ w' = W))
    (HE : Hid (r = (!s.name.data.toList.isEmpty && (b1 && (b2 && (b3 && (b4 && ((!s.cc || (decide (21 ≤ x.cc) && decide (x.cc ≤ 26))) && (!s.l || bl))))))))) :
    Calls Tryz.prog 39 #[.pointer (some ⟨pb, po, none⟩), .pointer (some ⟨ib, io, none⟩)] w (retP (.bool r) w) := by
  obtain ⟨e0, e1, e2, e3, e4, e5, e6⟩ := HI.out
  have il : ib < w.heap.size := block_lt_of_cell e0
  have pl : pb < w.heap.size := block_lt_of_cell p0
  go_enter Tryz.func39, Tryz.ntmps39
  go_upto_region 2 with (go_at_call 45; refine (ashape_any _ _ HT.out).mono ?_; rintro e w1 ⟨rfl, hb1⟩; rw [HX.out]; simp only [aspV]; have HB1 := hid hb1; clear hb1)
  refine acwp_named (fun W => Below w.heap.size w W ∧ W.cell? ⟨w1.heap.size, 0, none⟩ = some (.string s.name) ∧ W.cell? ⟨w1.heap.size, 1, none⟩ = some (.int .i64 s.r) ∧ W.cell? ⟨w1.heap.size, 2, none⟩ = some (.int .i64 s.m) ∧ W.cell? ⟨w1.heap.size, 3, none⟩ = some (.int .i64 s.sub) ∧ W.cell? ⟨w1.heap.size, 4, none⟩ = some (.int .i64 s.k) ∧ W.cell? ⟨w1.heap.size, 5, none⟩ = some (.bool s.cc) ∧ W.cell? ⟨w1.heap.size, 6, none⟩ = some (.bool s.l)) ⟨bel_alloc HB1.out _, by simp, by simp, by simp, by simp, by simp, by simp, by simp⟩ ?_
  generalize w1.heap.size = B2 at *
  clear HB1 w1 e0 e1 e2 e3 e4 e5 e6
  rintro W ⟨hbW, s0, s1, s2, s3, s4, s5, s6⟩
  have HBW := hid hbW
  obtain ⟨e0, e1, e2, e3, e4, e5, e6⟩ := HI.out.keep hbW
  replace p0 := keep_cell hbW p0
  have sz : w.heap.size ≤ W.heap.size := hbW.size
  have H3' : Hid (∀ n, Calls Tryz.prog 61 #[.int .i64 s.sub, .int .i64 x.sub, .pointer (some ⟨pb, po, none⟩)] (W.drewN n) fun e w' => e = .returned (.bool b3) ∧ w' = W.drewN n) := fun n => H3.out _ (abel_drewN hbW n)
  have H4' : Hid (b3 = true → ∀ n, Calls Tryz.prog 62 #[.int .i64 s.k, .pointer (some ⟨ib, io, none⟩), .pointer (some ⟨pb, po, none⟩)] (W.drewN n) (retQ (.bool b4) (W.drewN n))) := fun h n => H4.out h _ (abel_drewN hbW n)
  clear hbW H3 H4

  cases hnm : s.name.data.toList.isEmpty with
  | true =>
    have er : r = false := by rw [HE.out, hnm]; rfl
    subst er
    have en : s.name = ⟨#[]⟩ := by
      have : s.name.data.toList = [] := List.isEmpty_iff.1 hnm
      cases hx : s.name with
      | mk dta =>
        rw [hx] at this
        simp at this
        rw [this]
    rw [en] at s0
    go_quiet (first | fail)
    go_wp2
    go_ret
    exact ⟨rfl, abel_drewN HBW.out _⟩
  | false =>
    have q1 : s.name.toList.isEmpty = false := by rw [ByteArray.toList_eq]; exact hnm
    cases b1 with
    | false =>
      have er : r = false := by rw [HE.out]; simp only [hnm]; simp
      subst er
      go_quiet (first | fail | (go_at_call 60; with_reducible exact Calls.quiet_of_same (H1.out _)))
      go_wp2
      go_ret
      exact ⟨rfl, abel_drewN HBW.out _⟩
    | true =>
      cases b2 with
      | false =>
        have er : r = false := by rw [HE.out]; simp only [hnm]; simp
        subst er
        go_quiet (first | fail | (go_at_call 60; with_reducible exact Calls.quiet_of_same (H1.out _)) | (go_at_call 60; with_reducible exact Calls.quiet_of_same (H2.out _)))
        go_wp2
        go_ret
        exact ⟨rfl, abel_drewN HBW.out _⟩
      | true =>
        cases b3 with
        | false =>
          have er : r = false := by rw [HE.out]; simp only [hnm]; simp
          subst er
          go_quiet (first | fail | (go_at_call 60; with_reducible exact Calls.quiet_of_same (H1.out _)) | (go_at_call 60; with_reducible exact Calls.quiet_of_same (H2.out _)) | (go_at_call 61; with_reducible exact Calls.quiet_of_same (H3'.out _)))
          go_wp2
          go_ret
          exact ⟨rfl, abel_drewN HBW.out _⟩
        | true =>
          replace H4' := hid (H4'.out rfl)
          cases b4 with
          | false =>
            have er : r = false := by rw [HE.out]; simp only [hnm]; simp
            subst er
            go_quiet (first | fail | (go_at_call 60; with_reducible exact Calls.quiet_of_same (H1.out _)) | (go_at_call 60; with_reducible exact Calls.quiet_of_same (H2.out _)) | (go_at_call 61; with_reducible exact Calls.quiet_of_same (H3'.out _)) | (go_at_call 62; exact Calls.quiet_of (H4'.out _)))
            go_wp2
            go_ret
            exact ⟨rfl, abel_drewN HBW.out _⟩
          | true =>
            have HE2 : Hid (r = ((!s.cc || (decide (21 ≤ x.cc) && decide (x.cc ≤ 26))) && (!s.l || bl))) := by show _ = _; rw [HE.out]; simp only [hnm]; simp
            clear HE
            obtain ⟨scc, hscc⟩ : ∃ c, s.cc = c := ⟨_, rfl⟩
            obtain ⟨sl, hsl⟩ : ∃ c, s.l = c := ⟨_, rfl⟩
            rw [hscc, hsl] at HE2
            rw [hscc] at s5
            rw [hsl] at s6
            clear hscc hsl
            go_quiet (first | fail | (go_at_call 60; with_reducible exact Calls.quiet_of_same (H1.out _)) | (go_at_call 60; with_reducible exact Calls.quiet_of_same (H2.out _)) | (go_at_call 61; with_reducible exact Calls.quiet_of_same (H3'.out _)) | (go_at_call 62; exact Calls.quiet_of (H4'.out _)))
            generalize xcc : x.cc = cc at *
            cases scc with
            | false =>
              cases sl with
              | false =>
                have er : r = true := by rw [HE2.out]; simp [*]
                subst er
                go_wp2
                go_ret
                exact ⟨by simp [*], abel_drewN HBW.out _⟩
              | true =>
                have er : r = (true && bl) := by rw [HE2.out]; simp [*]
                subst er
                go_wp2_with (go_at_call 25; refine (H5.out _).mono ?_; rintro e w2 ⟨rfl, hw⟩; replace hw := hw.symm; subst hw)
                go_ret
                exact ⟨by simp [*], abel_drewN HBW.out _⟩
            | true =>
              by_cases h1 : 21 ≤ cc
              · have q1 : decide (21 ≤ cc) = true := by simpa using h1
                by_cases h2 : cc ≤ 26
                · have q2 : decide (cc ≤ 26) = true := by simpa using h2
                  cases sl with
                  | false =>
                    have er : r = true := by rw [HE2.out]; simp [*]
                    subst er
                    go_wp2
                    go_ret
                    exact ⟨by simp [*], abel_drewN HBW.out _⟩
                  | true =>
                    have er : r = (true && bl) := by rw [HE2.out]; simp [*]
                    subst er
                    go_wp2_with (go_at_call 25; refine (H5.out _).mono ?_; rintro e w2 ⟨rfl, hw⟩; replace hw := hw.symm; subst hw)
                    go_ret
                    exact ⟨by simp [*], abel_drewN HBW.out _⟩
                · have q2 : decide (cc ≤ 26) = false := by simpa using h2
                  cases sl with
                  | false =>
                    have er : r = false := by rw [HE2.out]; simp [*]
                    subst er
                    go_wp2
                    go_ret
                    exact ⟨by simp [*], abel_drewN HBW.out _⟩
                  | true =>
                    have er : r = false := by rw [HE2.out]; simp [*]
                    subst er
                    go_wp2_with (go_at_call 25; refine (H5.out _).mono ?_; rintro e w2 ⟨rfl, hw⟩; replace hw := hw.symm; subst hw)
                    go_ret
                    exact ⟨by simp [*], abel_drewN HBW.out _⟩
              · have q1 : decide (21 ≤ cc) = false := by simpa using h1
                cases sl with
                | false =>
                  have er : r = false := by rw [HE2.out]; simp [*]
                  subst er
                  go_wp2
                  go_ret
                  exact ⟨by simp [*], abel_drewN HBW.out _⟩
                | true =>
                  have er : r = false := by rw [HE2.out]; simp [*]
                  subst er
                  go_wp2_with (go_at_call 25; refine (H5.out _).mono ?_; rintro e w2 ⟨rfl, hw⟩; replace hw := hw.symm; subst hw)
                  go_ret
                  exact ⟨by simp [*], abel_drewN HBW.out _⟩

end Go.Proofs.YtofnnpchobgapaaGreatDoor
