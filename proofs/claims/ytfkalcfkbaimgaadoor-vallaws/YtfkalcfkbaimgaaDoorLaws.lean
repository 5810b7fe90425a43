/- For every operation and any two values: the opposite of a comparison says the opposite, with operands swapped the swapped one says the same, adding is undone by subtracting, quotient and rest make the number again: the statement ValLaws returns true. Conditions: the three tables of the library that the row lists start as the program's text lays them (the card ties them). -/
import Derived.Test.YtfkalcfkbaimgaaDoorLawsA
import Derived.Test.YtfkalcfkbaimgaaDoorLawsB
import Derived.Test.YtfkalcfkbaimgaaDoorLawsM
namespace Go.Proofs.YtfkalcfkbaimgaaDoor
open Go.ChangeShapes Go.WideShapes Go.ChangeAt Go.RowKit Pl
set_option linter.unusedSimpArgs false
set_option linter.unusedVariables false

set_option maxHeartbeats 1000000 in
theorem valLaws_walk (op ak an ab bk bn bb : Int) (x0 : (Lit.int .i64 op).wf = true) (xk1 : (Lit.int .i64 ak).wf = true) (xn1 : (Lit.int .i64 an).wf = true) (xb1 : (Lit.int .i64 ab).wf = true) (xk2 : (Lit.int .i64 bk).wf = true) (xn2 : (Lit.int .i64 bn).wf = true) (xb2 : (Lit.int .i64 bb).wf = true) (w : World) (ht : Tab w) :
    Calls Tryd.prog 6 #[.int .i64 op, .agg #[.int .i64 ak, .int .i64 an, .int .i64 ab], .agg #[.int .i64 bk, .int .i64 bn, .int .i64 bb]] w (retP (.bool true) w) := by
  obtain ⟨n0, n1⟩ := bnd xn1
  rcases hF : flipF op with ⟨f, has⟩
  rcases hS : swapF op with ⟨s, also⟩
  by_cases hk : bk = 1
  · subst hk
    by_cases hb : bb = 0
    · subst hb
      rcases hX : binF op ⟨ak, an, ab⟩ ⟨1, bn, 0⟩ with ⟨⟨xk, xn, xb⟩, ok⟩
      rcases hP : binF 11 ⟨ak, an, ab⟩ ⟨1, bn, 0⟩ with ⟨⟨pk, pn, pb⟩, good⟩
      rcases hD : binF 14 ⟨ak, an, ab⟩ ⟨1, bn, 0⟩ with ⟨⟨qk, qn, qb⟩, whole⟩
      rcases hE : binF 15 ⟨ak, an, ab⟩ ⟨1, bn, 0⟩ with ⟨⟨rk, rn, rb⟩, rest⟩
      have hdm := div_mod_law ⟨ak, an, ab⟩ bn n0 n1
      rw [hD, hE] at hdm
      obtain ⟨g1, g2⟩ := hdm
      simp only at g1 g2
      subst g1
      cases good
      · have g3 := add_of_div ⟨ak, an, ab⟩ bn (by rw [hP])
        rw [hD] at g3
        simp only at g3
        subst g3
        cases has
        · cases also
          · exact laws_A4C3 (w := w) (ht := ht) (HB := hX) (HF := hF) (HS := hS) (HP := hP) (HD := hD) (HE := hE)
          · have hT := (swap_law op s _ _ hS).trans hX
            exact laws_A3C3 (w := w) (ht := ht) (HB := hX) (HF := hF) (HS := hS) (HT := hT) (HP := hP) (HD := hD) (HE := hE)
        · cases also
          · exact (flip_swap op f s hF hS).elim
          · have hT := (swap_law op s _ _ hS).trans hX
            have hfl := flip_law op f ⟨ak, an, ab⟩ ⟨1, bn, 0⟩ hF
            rcases hG : binF f ⟨ak, an, ab⟩ ⟨1, bn, 0⟩ with ⟨⟨yk, yn, yb⟩, fine⟩
            rw [hX, hG] at hfl
            obtain ⟨h1, h2⟩ := hfl
            simp only at h1 h2
            subst h1
            cases fine
            · exact laws_A2C3 (w := w) (ht := ht) (HB := hX) (HF := hF) (HG := hG) (HS := hS) (HT := hT) (HP := hP) (HD := hD) (HE := hE)
            · have hsum := h2 rfl
              exact laws_A1C3 (w := w) (ht := ht) (HB := hX) (HF := hF) (HG := hG) (HS := hS) (HT := hT) (HP := hP) (HD := hD) (HE := hE) (hsum := hsum)
      · have hQ := add_sub_law _ _ _ hP n0 n1
        cases whole
        · cases has
          · cases also
            · exact laws_A4C2 (w := w) (ht := ht) (HB := hX) (HF := hF) (HS := hS) (HP := hP) (HQ := hQ) (HD := hD) (HE := hE)
            · have hT := (swap_law op s _ _ hS).trans hX
              exact laws_A3C2 (w := w) (ht := ht) (HB := hX) (HF := hF) (HS := hS) (HT := hT) (HP := hP) (HQ := hQ) (HD := hD) (HE := hE)
          · cases also
            · exact (flip_swap op f s hF hS).elim
            · have hT := (swap_law op s _ _ hS).trans hX
              have hfl := flip_law op f ⟨ak, an, ab⟩ ⟨1, bn, 0⟩ hF
              rcases hG : binF f ⟨ak, an, ab⟩ ⟨1, bn, 0⟩ with ⟨⟨yk, yn, yb⟩, fine⟩
              rw [hX, hG] at hfl
              obtain ⟨h1, h2⟩ := hfl
              simp only at h1 h2
              subst h1
              cases fine
              · exact laws_A2C2 (w := w) (ht := ht) (HB := hX) (HF := hF) (HG := hG) (HS := hS) (HT := hT) (HP := hP) (HQ := hQ) (HD := hD) (HE := hE)
              · have hsum := h2 rfl
                exact laws_A1C2 (w := w) (ht := ht) (HB := hX) (HF := hF) (HG := hG) (HS := hS) (HT := hT) (HP := hP) (HQ := hQ) (HD := hD) (HE := hE) (hsum := hsum)
        · rcases hU : binF 13 ⟨qk, qn, qb⟩ ⟨1, bn, 0⟩ with ⟨⟨mk, mn, mb⟩, o1⟩
          rcases hV : binF 11 ⟨mk, mn, mb⟩ ⟨rk, rn, rb⟩ with ⟨m2, o2⟩
          have g4 := g2 rfl
          rw [hU, hV] at g4
          simp only at g4
          subst g4
          cases has
          · cases also
            · exact laws_A4C1 (w := w) (ht := ht) (HB := hX) (HF := hF) (HS := hS) (HP := hP) (HQ := hQ) (HD := hD) (HE := hE) (HU := hU) (HV := hV)
            · have hT := (swap_law op s _ _ hS).trans hX
              exact laws_A3C1 (w := w) (ht := ht) (HB := hX) (HF := hF) (HS := hS) (HT := hT) (HP := hP) (HQ := hQ) (HD := hD) (HE := hE) (HU := hU) (HV := hV)
          · cases also
            · exact (flip_swap op f s hF hS).elim
            · have hT := (swap_law op s _ _ hS).trans hX
              have hfl := flip_law op f ⟨ak, an, ab⟩ ⟨1, bn, 0⟩ hF
              rcases hG : binF f ⟨ak, an, ab⟩ ⟨1, bn, 0⟩ with ⟨⟨yk, yn, yb⟩, fine⟩
              rw [hX, hG] at hfl
              obtain ⟨h1, h2⟩ := hfl
              simp only at h1 h2
              subst h1
              cases fine
              · exact laws_A2C1 (w := w) (ht := ht) (HB := hX) (HF := hF) (HG := hG) (HS := hS) (HT := hT) (HP := hP) (HQ := hQ) (HD := hD) (HE := hE) (HU := hU) (HV := hV)
              · have hsum := h2 rfl
                exact laws_A1C1 (w := w) (ht := ht) (HB := hX) (HF := hF) (HG := hG) (HS := hS) (HT := hT) (HP := hP) (HQ := hQ) (HD := hD) (HE := hE) (HU := hU) (HV := hV) (hsum := hsum)
    · have hbb : (bb != 0) = true := by simp [hb]
      rcases hX : binF op ⟨ak, an, ab⟩ ⟨1, bn, bb⟩ with ⟨⟨xk, xn, xb⟩, ok⟩
      cases has
      · cases also
        · exact laws_A4B2 (w := w) (ht := ht) (HB := hX) (HF := hF) (HS := hS) (hbb := hbb)
        · have hT := (swap_law op s _ _ hS).trans hX
          exact laws_A3B2 (w := w) (ht := ht) (HB := hX) (HF := hF) (HS := hS) (HT := hT) (hbb := hbb)
      · cases also
        · exact (flip_swap op f s hF hS).elim
        · have hT := (swap_law op s _ _ hS).trans hX
          have hfl := flip_law op f ⟨ak, an, ab⟩ ⟨1, bn, bb⟩ hF
          rcases hG : binF f ⟨ak, an, ab⟩ ⟨1, bn, bb⟩ with ⟨⟨yk, yn, yb⟩, fine⟩
          rw [hX, hG] at hfl
          obtain ⟨h1, h2⟩ := hfl
          simp only at h1 h2
          subst h1
          cases fine
          · exact laws_A2B2 (w := w) (ht := ht) (HB := hX) (HF := hF) (HG := hG) (HS := hS) (HT := hT) (hbb := hbb)
          · have hsum := h2 rfl
            exact laws_A1B2 (w := w) (ht := ht) (HB := hX) (HF := hF) (HG := hG) (HS := hS) (HT := hT) (hsum := hsum) (hbb := hbb)
  · have hbk : (bk != 1) = true := by simp [hk]
    rcases hX : binF op ⟨ak, an, ab⟩ ⟨bk, bn, bb⟩ with ⟨⟨xk, xn, xb⟩, ok⟩
    cases has
    · cases also
      · exact laws_A4B1 (w := w) (ht := ht) (HB := hX) (HF := hF) (HS := hS) (hbk := hbk)
      · have hT := (swap_law op s _ _ hS).trans hX
        exact laws_A3B1 (w := w) (ht := ht) (HB := hX) (HF := hF) (HS := hS) (HT := hT) (hbk := hbk)
    · cases also
      · exact (flip_swap op f s hF hS).elim
      · have hT := (swap_law op s _ _ hS).trans hX
        have hfl := flip_law op f ⟨ak, an, ab⟩ ⟨bk, bn, bb⟩ hF
        rcases hG : binF f ⟨ak, an, ab⟩ ⟨bk, bn, bb⟩ with ⟨⟨yk, yn, yb⟩, fine⟩
        rw [hX, hG] at hfl
        obtain ⟨h1, h2⟩ := hfl
        simp only at h1 h2
        subst h1
        cases fine
        · exact laws_A2B1 (w := w) (ht := ht) (HB := hX) (HF := hF) (HG := hG) (HS := hS) (HT := hT) (hbk := hbk)
        · have hsum := h2 rfl
          exact laws_A1B1 (w := w) (ht := ht) (HB := hX) (HF := hF) (HG := hG) (HS := hS) (HT := hT) (hsum := hsum) (hbk := hbk)

set_option maxRecDepth 100000 in
theorem valLaws_lifted (os : Os) (started : os.Started) (H : Type) (enc : TypeId × Value → H) :
    ReturnsInHanded {} Tryd.checked os 6 .any (fun w args => (Rows.valLawsSpec.pre enc Tryd.prog Tryd.f6 [] false w args ∧ laidMetH Tryd.prog laid3 w) ∧ sizedMet enc Tryd.prog Tryd.f6 (OpenSpec.ofChange Rows.valLawsSpec) false w args)
      (Rows.valLawsSpec.post enc Tryd.prog Tryd.f6 false true false false) := by
  refine returnsInHanded_of_change_and (C := Tryd.checked) (X := fun w _ => laidMetH Tryd.prog laid3 w) (fun _ _ _ hh h => h.of_heap hh) own started (by kernel_rfl) Tryd.func6
    (ChangeSpec.witness_shaped (enc := enc) (C := Tryd.checked) (os := os) (X := fun w _ => laidMetH Tryd.prog laid3 w) false (World.doorLaid Tryd.prog 400 os) #[.int .i64 0, .agg #[.int .i64 0, .int .i64 0, .int .i64 0], .agg #[.int .i64 0, .int .i64 0, .int .i64 0]] 8 rfl (World.shaped_of_RefB (by kernel_rfl) (by kernel_rfl)) (by kernel_rfl) (by kernel_rfl) (by kernel_rfl) (door_met os _)) ?_
  intro W base args ds gs before hval0 hW _ _ hL _
  have hval : ∀ (j : Nat) t v, Tryd.f6.params[j]? = some t → args[j]? = some v → Value.okWide Tryd.prog W .any base t v := hval0
  have hW' := hW
  obtain ⟨p, q, hA0, hV, rfl, hfz, hnd⟩ := hW
  have hA : DataW.TrodAll enc Tryd.prog W 0 (fun _ => true) true Tryd.f6.params.toList args.toList ds p := hA0
  rw [Tryd.params6] at hA hval
  obtain ⟨v0, vs0, d0, ds0, p0, q0, hargs, rfl, rfl, h0, r0⟩ := trodAll_cons hA
  obtain ⟨v1, vs1, d1, ds1, p1, q1, rfl, rfl, rfl, h1, r1⟩ := trodAll_cons r0
  obtain ⟨v2, vs2, d2, ds2, p2, q2, rfl, rfl, rfl, h2, r2⟩ := trodAll_cons r1
  obtain ⟨rfl, rfl, rfl⟩ := trodAll_nil r2
  obtain rfl : args = #[v0, v1, v2] := by cases args; simp_all
  obtain ⟨rfl, rfl⟩ := trodVars_none hV
  obtain ⟨a0, rfl, rfl, rfl, x0⟩ := open_int Tryd.underlying3 (hval 0 3 v0 rfl rfl) h0
  obtain ⟨k1, n1, b1, rfl, rfl, rfl, xk1, xn1, xb1⟩ := open_val (hval 1 24 v1 rfl rfl) h1
  obtain ⟨k2, n2, b2, rfl, rfl, rfl, xk2, xn2, xb2⟩ := open_val (hval 2 24 v2 rfl rfl) h2
  clear hA0 hval0
  simp only [List.append_nil] at hW'
  refine (valLaws_walk a0 k1 n1 b1 k2 n2 b2 x0 xk1 xn1 xb1 xk2 xn2 xb2 W (tab_of_laid hL)).mono fun e W' ⟨he, hb⟩ => ?_
  subst he
  exact ⟨_, rfl, _, _, _, [], [], [], hW', (trodAll_cons_mk (shut_bool Tryd.underlying4 _) trodAll_mk0), (trodAll_cons_mk (shut_int Tryd.underlying3 x0) (trodAll_cons_mk (shut_val xk1 xn1 xb1) (trodAll_cons_mk (shut_val xk2 xn2 xb2) trodAll_mk0))), rfl, hb.frame _, fun h => by cases h⟩

theorem valLaws_row : Rows.ValLawsSaid :=
  OpenClaim.holds_of_wide 6 Tryd.f6 rfl rfl rfl rfl rfl rfl rfl ⟨rfl, rfl, rfl, rfl, rfl⟩ rfl rfl rfl rfl rfl (by kernel_rfl) Tryd.func6 (by kernel_rfl)
    (of_decide_eq_true (by kernel_rfl)) (by unfold Func.isWrapper; first | (rw [if_pos (by decide +kernel)]; kernel_rfl) | (rw [if_neg (by decide +kernel)]; exact ⟨rfl, rfl⟩))
    (fun os started H enc _ => valLaws_lifted os started H enc)

/-- THE STATEMENT. -/
theorem valLaws_holds : Rows.ValLawsCardSaid :=
  Claim7.holds_tied_plain_at .later [] [.data, .data, .data] true (true, "b1699b2cfa1c194e16e6121e9959784bdd3e976bd84cffeee05e479fe9b5bbbd") false
    valLaws_row (fun _ h => by cases h) (by kernel_rfl) (fun _ h => by cases h) valLaws_row_tie rfl ⟨rfl, rfl⟩ (by kernel_rfl) rfl
    (fun f fn hf hfn => by
      obtain rfl : f = 6 := Option.some.inj ((show Tryd.prog.funcNamed "plumbob/plumboblaw1.ValLaws" = some 6 by kernel_rfl).symm.trans hf) |>.symm
      obtain rfl : fn = Tryd.f6 := (Option.some.inj (Tryd.func6.symm.trans hfn)).symm
      exact ⟨by kernel_rfl, fun j t ht => by
        rw [Tryd.params6] at ht
        have hm : t ∈ [3, 24, 24] := by simpa using Array.mem_of_getElem? ht
        have hall : ([3, 24, 24].all fun u => !Tryd.prog.wantsStandIn u) = true := by kernel_rfl
        exact (show Tryd.prog.wantsStandIn t = false by simpa using List.all_eq_true.1 hall t hm)⟩)
    (by kernel_rfl)
#print axioms valLaws_holds

end Go.Proofs.YtfkalcfkbaimgaaDoor
