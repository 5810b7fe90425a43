/- For every operation and any two values: Un and Bin answer what the document says: the statement ValOps returns true. Conditions: the three tables of the library that the row lists start as the program's text lays them (the card ties them). -/
import Derived.Test.YtfkalcfkbaimgaaDoorRef5
import Derived.Test.YtfkalcfkbaimgaaDoorFrame
namespace Go.Proofs.YtfkalcfkbaimgaaDoor
open Go.ChangeShapes Go.WideShapes Go.ChangeAt Go.RowKit Pl
set_option linter.unusedSimpArgs false
set_option linter.unusedVariables false

set_option maxHeartbeats 8000000 in
theorem valOps_core (op ak an ab bk bn bb xk xn xb uk un ub : Int) (o1 o2 : Bool) (w : World) (ht : Tab w) (HU : Hid (unF op ⟨ak, an, ab⟩ = (⟨xk, xn, xb⟩, o1))) (HB : Hid (binF op ⟨ak, an, ab⟩ ⟨bk, bn, bb⟩ = (⟨uk, un, ub⟩, o2)))
    (an0 : -9223372036854775808 ≤ an) (an1 : an ≤ 9223372036854775807) (bn0 : -9223372036854775808 ≤ bn) (bn1 : bn ≤ 9223372036854775807) :
    Calls Tryd.prog 4 #[.int .i64 op, .agg #[.int .i64 ak, .int .i64 an, .int .i64 ab], .agg #[.int .i64 bk, .int .i64 bn, .int .i64 bb]] w (retP (.bool true) w) := by
  go_enter Tryd.func4, Tryd.ntmps4
  go_wp2_with fail
  refine (awake_any _ (tab_keep ht (by repeat (first | exact Below.refl _ _ | refine bel_alloc ?_ _ | refine bel_set ?_ (by first | exact Nat.le_refl _ | (simp; done) | (simp; omega)) _ | refine Below.drew ?_ | refine bel_trans ?_ (by assumption))))).mono ?_
  rintro e w1 ⟨rfl, hb1⟩
  have a0 : w1.cell? ⟨w.heap.size, 0, none⟩ = some (.int .i64 ak) := keep_cell hb1 (by go_simp)
  have a1 : w1.cell? ⟨w.heap.size, 1, none⟩ = some (.int .i64 an) := keep_cell hb1 (by go_simp)
  have a2 : w1.cell? ⟨w.heap.size, 2, none⟩ = some (.int .i64 ab) := keep_cell hb1 (by go_simp)
  have aL : w.heap.size < w1.heap.size := block_lt_of_cell a0
  have b0 : w1.cell? ⟨w.heap.size + 1, 0, none⟩ = some (.int .i64 bk) := keep_cell hb1 (by go_simp)
  have b1 : w1.cell? ⟨w.heap.size + 1, 1, none⟩ = some (.int .i64 bn) := keep_cell hb1 (by go_simp)
  have b2 : w1.cell? ⟨w.heap.size + 1, 2, none⟩ = some (.int .i64 bb) := keep_cell hb1 (by go_simp)
  have bL : w.heap.size + 1 < w1.heap.size := block_lt_of_cell b0
  go_wp2_with fail
  refine (un_to op ak an ab xk xn xb o1 _ HU.out).mono ?_
  rintro e w2 ⟨rfl, hb2⟩
  replace a0 : w2.cell? ⟨w.heap.size, 0, none⟩ = some (.int .i64 ak) := keep_cell hb2 (by go_simp)
  replace a1 : w2.cell? ⟨w.heap.size, 1, none⟩ = some (.int .i64 an) := keep_cell hb2 (by go_simp)
  replace a2 : w2.cell? ⟨w.heap.size, 2, none⟩ = some (.int .i64 ab) := keep_cell hb2 (by go_simp)
  replace aL : w.heap.size < w2.heap.size := block_lt_of_cell a0
  replace b0 : w2.cell? ⟨w.heap.size + 1, 0, none⟩ = some (.int .i64 bk) := keep_cell hb2 (by go_simp)
  replace b1 : w2.cell? ⟨w.heap.size + 1, 1, none⟩ = some (.int .i64 bn) := keep_cell hb2 (by go_simp)
  replace b2 : w2.cell? ⟨w.heap.size + 1, 2, none⟩ = some (.int .i64 bb) := keep_cell hb2 (by go_simp)
  replace bL : w.heap.size + 1 < w2.heap.size := block_lt_of_cell b0
  go_wp2_with fail
  refine (run_to op ak an ab xk xn xb o1 _ HU.out).mono ?_
  rintro e w3 ⟨rfl, hb3⟩
  replace a0 : w3.cell? ⟨w.heap.size, 0, none⟩ = some (.int .i64 ak) := keep_cell hb3 (by go_simp)
  replace a1 : w3.cell? ⟨w.heap.size, 1, none⟩ = some (.int .i64 an) := keep_cell hb3 (by go_simp)
  replace a2 : w3.cell? ⟨w.heap.size, 2, none⟩ = some (.int .i64 ab) := keep_cell hb3 (by go_simp)
  replace aL : w.heap.size < w3.heap.size := block_lt_of_cell a0
  replace b0 : w3.cell? ⟨w.heap.size + 1, 0, none⟩ = some (.int .i64 bk) := keep_cell hb3 (by go_simp)
  replace b1 : w3.cell? ⟨w.heap.size + 1, 1, none⟩ = some (.int .i64 bn) := keep_cell hb3 (by go_simp)
  replace b2 : w3.cell? ⟨w.heap.size + 1, 2, none⟩ = some (.int .i64 bb) := keep_cell hb3 (by go_simp)
  replace bL : w.heap.size + 1 < w3.heap.size := block_lt_of_cell b0
  have x0 : w3.cell? ⟨w2.heap.size, 0, none⟩ = some (.int .i64 xk) := keep_cell hb3 (by go_simp)
  have x1 : w3.cell? ⟨w2.heap.size, 1, none⟩ = some (.int .i64 xn) := keep_cell hb3 (by go_simp)
  have x2 : w3.cell? ⟨w2.heap.size, 2, none⟩ = some (.int .i64 xb) := keep_cell hb3 (by go_simp)
  have xL : w2.heap.size < w3.heap.size := block_lt_of_cell x0
  go_wp2_with fail
  refine (bin_to op ak an ab bk bn bb uk un ub o2 _ HB.out).mono ?_
  rintro e w4 ⟨rfl, hb4⟩
  replace a0 : w4.cell? ⟨w.heap.size, 0, none⟩ = some (.int .i64 ak) := keep_cell hb4 (by go_simp)
  replace a1 : w4.cell? ⟨w.heap.size, 1, none⟩ = some (.int .i64 an) := keep_cell hb4 (by go_simp)
  replace a2 : w4.cell? ⟨w.heap.size, 2, none⟩ = some (.int .i64 ab) := keep_cell hb4 (by go_simp)
  replace aL : w.heap.size < w4.heap.size := block_lt_of_cell a0
  replace b0 : w4.cell? ⟨w.heap.size + 1, 0, none⟩ = some (.int .i64 bk) := keep_cell hb4 (by go_simp)
  replace b1 : w4.cell? ⟨w.heap.size + 1, 1, none⟩ = some (.int .i64 bn) := keep_cell hb4 (by go_simp)
  replace b2 : w4.cell? ⟨w.heap.size + 1, 2, none⟩ = some (.int .i64 bb) := keep_cell hb4 (by go_simp)
  replace bL : w.heap.size + 1 < w4.heap.size := block_lt_of_cell b0
  replace x0 : w4.cell? ⟨w2.heap.size, 0, none⟩ = some (.int .i64 xk) := keep_cell hb4 (by go_simp)
  replace x1 : w4.cell? ⟨w2.heap.size, 1, none⟩ = some (.int .i64 xn) := keep_cell hb4 (by go_simp)
  replace x2 : w4.cell? ⟨w2.heap.size, 2, none⟩ = some (.int .i64 xb) := keep_cell hb4 (by go_simp)
  replace xL : w2.heap.size < w4.heap.size := block_lt_of_cell x0
  have y0 : w4.cell? ⟨w3.heap.size, 0, none⟩ = some (.int .i64 xk) := keep_cell hb4 (by go_simp)
  have y1 : w4.cell? ⟨w3.heap.size, 1, none⟩ = some (.int .i64 xn) := keep_cell hb4 (by go_simp)
  have y2 : w4.cell? ⟨w3.heap.size, 2, none⟩ = some (.int .i64 xb) := keep_cell hb4 (by go_simp)
  have yL : w3.heap.size < w4.heap.size := block_lt_of_cell y0
  go_wp2_with fail
  refine (rbin_to op ak an ab bk bn bb uk un ub o2 _ an0 an1 bn0 bn1 HB.out).mono ?_
  rintro e w5 ⟨rfl, hb5⟩
  replace a0 : w5.cell? ⟨w.heap.size, 0, none⟩ = some (.int .i64 ak) := keep_cell hb5 (by go_simp)
  replace a1 : w5.cell? ⟨w.heap.size, 1, none⟩ = some (.int .i64 an) := keep_cell hb5 (by go_simp)
  replace a2 : w5.cell? ⟨w.heap.size, 2, none⟩ = some (.int .i64 ab) := keep_cell hb5 (by go_simp)
  replace aL : w.heap.size < w5.heap.size := block_lt_of_cell a0
  replace b0 : w5.cell? ⟨w.heap.size + 1, 0, none⟩ = some (.int .i64 bk) := keep_cell hb5 (by go_simp)
  replace b1 : w5.cell? ⟨w.heap.size + 1, 1, none⟩ = some (.int .i64 bn) := keep_cell hb5 (by go_simp)
  replace b2 : w5.cell? ⟨w.heap.size + 1, 2, none⟩ = some (.int .i64 bb) := keep_cell hb5 (by go_simp)
  replace bL : w.heap.size + 1 < w5.heap.size := block_lt_of_cell b0
  replace x0 : w5.cell? ⟨w2.heap.size, 0, none⟩ = some (.int .i64 xk) := keep_cell hb5 (by go_simp)
  replace x1 : w5.cell? ⟨w2.heap.size, 1, none⟩ = some (.int .i64 xn) := keep_cell hb5 (by go_simp)
  replace x2 : w5.cell? ⟨w2.heap.size, 2, none⟩ = some (.int .i64 xb) := keep_cell hb5 (by go_simp)
  replace xL : w2.heap.size < w5.heap.size := block_lt_of_cell x0
  replace y0 : w5.cell? ⟨w3.heap.size, 0, none⟩ = some (.int .i64 xk) := keep_cell hb5 (by go_simp)
  replace y1 : w5.cell? ⟨w3.heap.size, 1, none⟩ = some (.int .i64 xn) := keep_cell hb5 (by go_simp)
  replace y2 : w5.cell? ⟨w3.heap.size, 2, none⟩ = some (.int .i64 xb) := keep_cell hb5 (by go_simp)
  replace yL : w3.heap.size < w5.heap.size := block_lt_of_cell y0
  have u0 : w5.cell? ⟨w4.heap.size, 0, none⟩ = some (.int .i64 uk) := keep_cell hb5 (by go_simp)
  have u1 : w5.cell? ⟨w4.heap.size, 1, none⟩ = some (.int .i64 un) := keep_cell hb5 (by go_simp)
  have u2 : w5.cell? ⟨w4.heap.size, 2, none⟩ = some (.int .i64 ub) := keep_cell hb5 (by go_simp)
  have uL : w4.heap.size < w5.heap.size := block_lt_of_cell u0
  go_wp2
  go_ret
  exact ⟨rfl, (by repeat (first | exact Below.refl _ _ | refine bel_alloc ?_ _ | refine bel_set ?_ (by first | exact Nat.le_refl _ | (simp; done) | (simp; omega)) _ | refine Below.drew ?_ | refine bel_trans ?_ (by assumption)))⟩

theorem valOps_walk (op ak an ab bk bn bb : Int) (x0 : (Lit.int .i64 op).wf = true) (xk1 : (Lit.int .i64 ak).wf = true) (xn1 : (Lit.int .i64 an).wf = true) (xb1 : (Lit.int .i64 ab).wf = true) (xk2 : (Lit.int .i64 bk).wf = true) (xn2 : (Lit.int .i64 bn).wf = true) (xb2 : (Lit.int .i64 bb).wf = true) (w : World) (ht : Tab w) :
    Calls Tryd.prog 4 #[.int .i64 op, .agg #[.int .i64 ak, .int .i64 an, .int .i64 ab], .agg #[.int .i64 bk, .int .i64 bn, .int .i64 bb]] w (retP (.bool true) w) := by
  obtain ⟨n0, n1⟩ := bnd xn1
  obtain ⟨m0, m1⟩ := bnd xn2
  rcases hU : unF op ⟨ak, an, ab⟩ with ⟨⟨xk, xn, xb⟩, o1⟩
  rcases hB : binF op ⟨ak, an, ab⟩ ⟨bk, bn, bb⟩ with ⟨⟨uk, un, ub⟩, o2⟩
  exact valOps_core (HU := hU) (HB := hB) (w := w) (ht := ht) (an0 := n0) (an1 := n1) (bn0 := m0) (bn1 := m1)

set_option maxRecDepth 100000 in
theorem valOps_lifted (os : Os) (started : os.Started) (H : Type) (enc : TypeId × Value → H) :
    ReturnsInHanded {} Tryd.checked os 4 .any (fun w args => (Rows.valOpsSpec.pre enc Tryd.prog Tryd.f4 [] false w args ∧ laidMetH Tryd.prog laid3 w) ∧ sizedMet enc Tryd.prog Tryd.f4 (OpenSpec.ofChange Rows.valOpsSpec) false w args)
      (Rows.valOpsSpec.post enc Tryd.prog Tryd.f4 false true false false) := by
  refine returnsInHanded_of_change_and (C := Tryd.checked) (X := fun w _ => laidMetH Tryd.prog laid3 w) (fun _ _ _ hh h => h.of_heap hh) own started (by kernel_rfl) Tryd.func4
    (ChangeSpec.witness_shaped (enc := enc) (C := Tryd.checked) (os := os) (X := fun w _ => laidMetH Tryd.prog laid3 w) false (World.doorLaid Tryd.prog 400 os) #[.int .i64 0, .agg #[.int .i64 0, .int .i64 0, .int .i64 0], .agg #[.int .i64 0, .int .i64 0, .int .i64 0]] 8 rfl (World.shaped_of_RefB (by kernel_rfl) (by kernel_rfl)) (by kernel_rfl) (by kernel_rfl) (by kernel_rfl) (door_met os _)) ?_
  intro W base args ds gs before hval0 hW _ _ hL _
  have hval : ∀ (j : Nat) t v, Tryd.f4.params[j]? = some t → args[j]? = some v → Value.okWide Tryd.prog W .any base t v := hval0
  have hW' := hW
  obtain ⟨p, q, hA0, hV, rfl, hfz, hnd⟩ := hW
  have hA : DataW.TrodAll enc Tryd.prog W 0 (fun _ => true) true Tryd.f4.params.toList args.toList ds p := hA0
  rw [Tryd.params4] at hA hval
  obtain ⟨v0, vs0, d0, ds0, p0, q0, hargs, rfl, rfl, h0, r0⟩ := trodAll_cons hA
  obtain ⟨v1, vs1, d1, ds1, p1, q1, rfl, rfl, rfl, h1, r1⟩ := trodAll_cons r0
  obtain ⟨v2, vs2, d2, ds2, p2, q2, rfl, rfl, rfl, h2, r2⟩ := trodAll_cons r1
  obtain ⟨rfl, rfl, rfl⟩ := trodAll_nil r2
  obtain rfl : args = #[v0, v1, v2] := by cases args; simp_all
  obtain ⟨rfl, rfl⟩ := trodVars_none hV
  obtain ⟨a0, rfl, rfl, rfl, x0⟩ := open_int Tryd.underlying3 (hval 0 3 v0 rfl rfl) h0
  obtain ⟨k1, n1, b1, rfl, rfl, rfl, xk1, xn1, xb1⟩ := open_val (hval 1 24 v1 rfl rfl) h1
  obtain ⟨k2, n2, b2, rfl, rfl, rfl, xk2, xn2, xb2⟩ := open_val (hval 2 24 v2 rfl rfl) h2
  clear hA0 hval0
  simp only [List.append_nil] at hW'
  refine (valOps_walk a0 k1 n1 b1 k2 n2 b2 x0 xk1 xn1 xb1 xk2 xn2 xb2 W (tab_of_laid hL)).mono fun e W' ⟨he, hb⟩ => ?_
  subst he
  exact ⟨_, rfl, _, _, _, [], [], [], hW', (trodAll_cons_mk (shut_bool Tryd.underlying4 _) trodAll_mk0), (trodAll_cons_mk (shut_int Tryd.underlying3 x0) (trodAll_cons_mk (shut_val xk1 xn1 xb1) (trodAll_cons_mk (shut_val xk2 xn2 xb2) trodAll_mk0))), rfl, hb.frame _, fun h => by cases h⟩

theorem valOps_row : Rows.ValOpsSaid :=
  OpenClaim.holds_of_wide 4 Tryd.f4 rfl rfl rfl rfl rfl rfl rfl ⟨rfl, rfl, rfl, rfl, rfl⟩ rfl rfl rfl rfl rfl (by kernel_rfl) Tryd.func4 (by kernel_rfl)
    (of_decide_eq_true (by kernel_rfl)) (by unfold Func.isWrapper; first | (rw [if_pos (by decide +kernel)]; kernel_rfl) | (rw [if_neg (by decide +kernel)]; exact ⟨rfl, rfl⟩))
    (fun os started H enc _ => valOps_lifted os started H enc)

/-- THE STATEMENT. -/
theorem valOps_holds : Rows.ValOpsCardSaid :=
  Claim7.holds_tied_plain_at .later [] [.data, .data, .data] true (true, "b1699b2cfa1c194e16e6121e9959784bdd3e976bd84cffeee05e479fe9b5bbbd") false
    valOps_row (fun _ h => by cases h) (by kernel_rfl) (fun _ h => by cases h) valOps_row_tie rfl ⟨rfl, rfl⟩ (by kernel_rfl) rfl
    (fun f fn hf hfn => by
      obtain rfl : f = 4 := Option.some.inj ((show Tryd.prog.funcNamed "plumbob/plumboblaw1.ValOps" = some 4 by kernel_rfl).symm.trans hf) |>.symm
      obtain rfl : fn = Tryd.f4 := (Option.some.inj (Tryd.func4.symm.trans hfn)).symm
      exact ⟨by kernel_rfl, fun j t ht => by
        rw [Tryd.params4] at ht
        have hm : t ∈ [3, 24, 24] := by simpa using Array.mem_of_getElem? ht
        have hall : ([3, 24, 24].all fun u => !Tryd.prog.wantsStandIn u) = true := by kernel_rfl
        exact (show Tryd.prog.wantsStandIn t = false by simpa using List.all_eq_true.1 hall t hm)⟩)
    (by kernel_rfl)
#print axioms valOps_holds

end Go.Proofs.YtfkalcfkbaimgaaDoor
