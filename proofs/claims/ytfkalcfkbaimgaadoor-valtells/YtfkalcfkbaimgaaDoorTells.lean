/- For every operation, any value, number and block: texts, truth, opposites, and which values may be are what the document says: the statement ValTells returns true. Conditions: the three tables of the library that the row lists start as the program's text lays them (the card ties them). -/
import Derived.Test.YtfkalcfkbaimgaaDoorDraw
import Derived.Test.YtfkalcfkbaimgaaDoorRef7
namespace Go.Proofs.YtfkalcfkbaimgaaDoor
open Go.ChangeShapes Go.WideShapes Go.ChangeAt Go.RowKit Pl
set_option linter.unusedSimpArgs false
set_option linter.unusedVariables false

theorem callT {R W v : World} {B : Nat} {k n b : Int} (hb : Below W.heap.size W v) (h : C3 W B k n b ∧ Tab W ∧ Below R.heap.size R W) : C3 v B k n b ∧ Tab v ∧ Below R.heap.size R v :=
  ⟨h.1.call hb, tab_keep h.2.1 hb, bel_trans h.2.2 hb⟩
theorem drewT {R W : World} {B : Nat} {k n b : Int} (h : C3 W B k n b ∧ Tab W ∧ Below R.heap.size R W) : C3 W.drew B k n b ∧ Tab W.drew ∧ Below R.heap.size R W.drew :=
  ⟨h.1, tab_keep h.2.1 (Below.drew (Below.refl _ _)), Below.drew h.2.2⟩
theorem tabG {A D : Prop} {W : World} (h : A ∧ Tab W ∧ D) : Tab W := h.2.1
theorem tabT {R W : World} {B : Nat} {k n b : Int} (h : C3 W B k n b ∧ Tab W ∧ Below R.heap.size R W) : Tab W := h.2.1
theorem text_as (ak an ab : Int) (s : ByteArray) (w : World) (h : Hid (s = ⟨(textF ⟨ak, an, ab⟩).toArray⟩)) (ht : Tab w) (hn0 : -9223372036854775808 ≤ an) (hn1 : an ≤ 9223372036854775807) (hb0 : -9223372036854775808 ≤ ab) (hb1 : ab ≤ 9223372036854775807) :
    Calls Tryd.prog 14 #[.agg #[.int .i64 ak, .int .i64 an, .int .i64 ab]] w (retP (.string s) w) := by
  rw [h.out]; exact text_any ak an ab w ht hn0 hn1 hb0 hb1
theorem rtext_as (ak an ab : Int) (s : ByteArray) (w : World) (h : Hid (s = ⟨(textF ⟨ak, an, ab⟩).toArray⟩)) (hn0 : -9223372036854775808 ≤ an) (hn1 : an ≤ 9223372036854775807) (hb0 : -9223372036854775808 ≤ ab) (hb1 : ab ≤ 9223372036854775807) :
    Calls Tryd.prog 25 #[.agg #[.int .i64 ak, .int .i64 an, .int .i64 ab]] w (retP (.string s) w) := by
  rw [h.out]; exact rtext_any ak an ab w hn0 hn1 hb0 hb1
theorem rof_to (n : Int) (w : World) : Calls Tryd.prog 26 #[.int .i64 n] w (retP (.agg #[.int .i64 1, .int .i64 n, .int .i64 0]) w) := rof_any n w
theorem rat_to (b n xk xn xb : Int) (w : World) (h : atF b n = ⟨xk, xn, xb⟩) : Calls Tryd.prog 27 #[.int .i64 b, .int .i64 n] w (retP (.agg #[.int .i64 xk, .int .i64 xn, .int .i64 xb]) w) := by
  have := rat_any b n w
  rw [h] at this
  exact this
theorem rgood_to (ak an ab : Int) (g : Bool) (w : World) (h : goodF ⟨ak, an, ab⟩ = g) : Calls Tryd.prog 24 #[.agg #[.int .i64 ak, .int .i64 an, .int .i64 ab]] w (retP (.bool g) w) := by
  rw [← h]; exact rgood_any ak an ab w
theorem rtrue_to (ak an ab : Int) (t ok : Bool) (w : World) (h : trueF ⟨ak, an, ab⟩ = (t, ok)) : Calls Tryd.prog 19 #[.agg #[.int .i64 ak, .int .i64 an, .int .i64 ab]] w (retP (.tuple #[.bool t, .bool ok]) w) := by
  have := rtrue_any ak an ab w
  rw [h] at this
  exact this
theorem rflip_to (op f : Int) (ok : Bool) (w : World) (h : flipF op = (f, ok)) : Calls Tryd.prog 21 #[.int .i64 op] w (retP (.tuple #[.int .i64 f, .bool ok]) w) := by
  have := rflip_any op w
  rw [h] at this
  exact this
theorem rswap_to (op f : Int) (ok : Bool) (w : World) (h : swapF op = (f, ok)) : Calls Tryd.prog 23 #[.int .i64 op] w fun e w' => e = .returned (.tuple #[.int .i64 f, .bool ok]) ∧ w' = w := by
  have := rswap_any op w
  rw [h] at this
  exact this

set_option maxRecDepth 100000 in
set_option maxHeartbeats 16000000 in
theorem tells_core (op ak an ab n k f s zk zn zb : Int) (t ok x p g : Bool) (tx : ByteArray) (w : World) (ht : Tab w) (HT : Hid (trueF ⟨ak, an, ab⟩ = (t, ok))) (HF : Hid (flipF op = (f, x))) (HS : Hid (swapF op = (s, p))) (HG : Hid (goodF ⟨ak, an, ab⟩ = g)) (HX : Hid (tx = ⟨(textF ⟨ak, an, ab⟩).toArray⟩)) (HA : Hid (atF k n = ⟨zk, zn, zb⟩))
    (hn0 : -9223372036854775808 ≤ an) (hn1 : an ≤ 9223372036854775807) (ba0 : -9223372036854775808 ≤ ab) (ba1 : ab ≤ 9223372036854775807) :
    Calls Tryd.prog 5 #[.int .i64 op, .agg #[.int .i64 ak, .int .i64 an, .int .i64 ab], .int .i64 n, .int .i64 k] w (retP (.bool true) w) := by
  go_enter Tryd.func5, Tryd.ntmps5
  go_wp2_with fail
  refine (awake_any _ (tab_keep ht (by repeat (first | exact Below.refl _ _ | refine bel_alloc ?_ _ | refine bel_set ?_ (by first | exact Nat.le_refl _ | (simp; done) | (simp; omega)) _ | refine Below.drew ?_ | refine bel_trans ?_ (by assumption))))).mono ?_
  rintro e w1 ⟨rfl, hb1⟩
  have a0 : w1.cell? ⟨w.heap.size, 0, none⟩ = some (.int .i64 ak) := keep_cell hb1 (by go_simp)
  have a1 : w1.cell? ⟨w.heap.size, 1, none⟩ = some (.int .i64 an) := keep_cell hb1 (by go_simp)
  have a2 : w1.cell? ⟨w.heap.size, 2, none⟩ = some (.int .i64 ab) := keep_cell hb1 (by go_simp)
  have aL : w.heap.size < w1.heap.size := block_lt_of_cell a0
  go_wp2_with fail
  refine (true_to ak an ab t ok _ HT.out).mono ?_
  rintro e w2 ⟨rfl, hb2⟩
  replace a0 : w2.cell? ⟨w.heap.size, 0, none⟩ = some (.int .i64 ak) := keep_cell hb2 (by go_simp)
  replace a1 : w2.cell? ⟨w.heap.size, 1, none⟩ = some (.int .i64 an) := keep_cell hb2 (by go_simp)
  replace a2 : w2.cell? ⟨w.heap.size, 2, none⟩ = some (.int .i64 ab) := keep_cell hb2 (by go_simp)
  replace aL : w.heap.size < w2.heap.size := block_lt_of_cell a0
  go_wp2_with fail
  refine (rtrue_to ak an ab t ok _ HT.out).mono ?_
  rintro e w3 ⟨rfl, hb3⟩
  replace a0 : w3.cell? ⟨w.heap.size, 0, none⟩ = some (.int .i64 ak) := keep_cell hb3 (by go_simp)
  replace a1 : w3.cell? ⟨w.heap.size, 1, none⟩ = some (.int .i64 an) := keep_cell hb3 (by go_simp)
  replace a2 : w3.cell? ⟨w.heap.size, 2, none⟩ = some (.int .i64 ab) := keep_cell hb3 (by go_simp)
  replace aL : w.heap.size < w3.heap.size := block_lt_of_cell a0
  go_wp2_with fail
  refine (flip_to op f x _ HF.out).mono ?_
  rintro e w' ⟨rfl, hw'⟩
  replace hw' := hw'.symm
  subst hw'
  go_wp2_with fail
  refine (rflip_to op f x _ HF.out).mono ?_
  rintro e w4 ⟨rfl, hb4⟩
  replace a0 : w4.cell? ⟨w.heap.size, 0, none⟩ = some (.int .i64 ak) := keep_cell hb4 (by go_simp)
  replace a1 : w4.cell? ⟨w.heap.size, 1, none⟩ = some (.int .i64 an) := keep_cell hb4 (by go_simp)
  replace a2 : w4.cell? ⟨w.heap.size, 2, none⟩ = some (.int .i64 ab) := keep_cell hb4 (by go_simp)
  replace aL : w.heap.size < w4.heap.size := block_lt_of_cell a0
  go_wp2_with fail
  refine (swap_to op s p _ HS.out).mono ?_
  rintro e w' ⟨rfl, hw'⟩
  replace hw' := hw'.symm
  subst hw'
  go_wp2_with fail
  refine (rswap_to op s p _ HS.out).mono ?_
  rintro e w' ⟨rfl, hw'⟩
  replace hw' := hw'.symm
  subst hw'
  go_wp2_with fail
  have hS0 : C3 w4 w.heap.size ak an ab ∧ Tab w4 ∧ Below w.heap.size w w4 := ⟨C3.mk' a0 a1 a2, tab_keep ht (by repeat (first | exact Below.refl _ _ | refine bel_alloc ?_ _ | refine bel_set ?_ (by first | exact Nat.le_refl _ | (simp; done) | (simp; omega)) _ | refine Below.drew ?_ | refine bel_trans ?_ (by assumption))), (by repeat (first | exact Below.refl _ _ | refine bel_alloc ?_ _ | refine bel_set ?_ (by first | exact Nat.le_refl _ | (simp; done) | (simp; omega)) _ | refine Below.drew ?_ | refine bel_trans ?_ (by assumption)))⟩
  go_region_held3 (fun w' => (w'.cell? ⟨w.heap.size, 0, none⟩ = some (.int .i64 ak) ∧ w'.cell? ⟨w.heap.size, 1, none⟩ = some (.int .i64 an) ∧ w'.cell? ⟨w.heap.size, 2, none⟩ = some (.int .i64 ab) ∧ w.heap.size < w'.heap.size) ∧ Tab w' ∧ Below w.heap.size w w')
    (first | with_reducible exact callT hv1 (by assumption) | exact drewT hS0)
    (first | (go_at_call 13; refine (good_to ak an ab g _ HG.out).mono ?_; rintro e v1 ⟨rfl, hv1⟩) | (go_at_call 24; refine (rgood_to ak an ab g _ HG.out).mono ?_; rintro e v1 ⟨rfl, hv1⟩) | (go_at_call 14; refine (text_as ak an ab tx _ HX (tabG (by assumption)) hn0 hn1 ba0 ba1).mono ?_; rintro e v1 ⟨rfl, hv1⟩) | (go_at_call 25; refine (rtext_as ak an ab tx _ HX hn0 hn1 ba0 ba1).mono ?_; rintro e v1 ⟨rfl, hv1⟩) | (go_at_call 11; refine (of_to _ _).mono ?_; rintro e v1 ⟨rfl, hv1⟩) | (go_at_call 26; refine (rof_to _ _).mono ?_; rintro e v1 ⟨rfl, hv1⟩) | (go_at_call 12; refine (at_to _ _ zk zn zb _ HA.out).mono ?_; rintro e v1 ⟨rfl, hv1⟩) | (go_at_call 27; refine (rat_to _ _ zk zn zb _ HA.out).mono ?_; rintro e v1 ⟨rfl, hv1⟩))
  all_goals
    rename_i hH
    obtain ⟨_, _, hw⟩ := hH
    go_wp2
    go_ret
    exact ⟨rfl, hw⟩

theorem valTells_walk (op ak an ab n k : Int) (x0 : (Lit.int .i64 op).wf = true) (xk : (Lit.int .i64 ak).wf = true) (xn : (Lit.int .i64 an).wf = true) (xb : (Lit.int .i64 ab).wf = true) (x2 : (Lit.int .i64 n).wf = true) (x3 : (Lit.int .i64 k).wf = true) (w : World) (ht : Tab w) :
    Calls Tryd.prog 5 #[.int .i64 op, .agg #[.int .i64 ak, .int .i64 an, .int .i64 ab], .int .i64 n, .int .i64 k] w (retP (.bool true) w) := by
  obtain ⟨n0, n1⟩ := bnd xn
  obtain ⟨b0, b1⟩ := bnd xb
  rcases hT : trueF ⟨ak, an, ab⟩ with ⟨t, ok⟩
  rcases hF : flipF op with ⟨f, x⟩
  rcases hS : swapF op with ⟨s, p⟩
  rcases hA : atF k n with ⟨zk, zn, zb⟩
  exact tells_core (w := w) (ht := ht) (HT := hT) (HF := hF) (HS := hS) (HG := rfl) (HX := rfl) (HA := hA) (hn0 := n0) (hn1 := n1) (ba0 := b0) (ba1 := b1)

set_option maxRecDepth 100000 in
theorem valTells_lifted (os : Os) (started : os.Started) (H : Type) (enc : TypeId × Value → H) :
    ReturnsInHanded {} Tryd.checked os 5 .any (fun w args => (Rows.valTellsSpec.pre enc Tryd.prog Tryd.f5 [] false w args ∧ laidMetH Tryd.prog laid3 w) ∧ sizedMet enc Tryd.prog Tryd.f5 (OpenSpec.ofChange Rows.valTellsSpec) false w args)
      (Rows.valTellsSpec.post enc Tryd.prog Tryd.f5 false true false false) := by
  refine returnsInHanded_of_change_and (C := Tryd.checked) (X := fun w _ => laidMetH Tryd.prog laid3 w) (fun _ _ _ hh h => h.of_heap hh) own started (by kernel_rfl) Tryd.func5
    (ChangeSpec.witness_shaped (enc := enc) (C := Tryd.checked) (os := os) (X := fun w _ => laidMetH Tryd.prog laid3 w) false (World.doorLaid Tryd.prog 400 os) #[.int .i64 0, .agg #[.int .i64 0, .int .i64 0, .int .i64 0], .int .i64 0, .int .i64 0] 8 rfl (World.shaped_of_RefB (by kernel_rfl) (by kernel_rfl)) (by kernel_rfl) (by kernel_rfl) (by kernel_rfl) (door_met os _)) ?_
  intro W base args ds gs before hval0 hW _ _ hL _
  have hval : ∀ (j : Nat) t v, Tryd.f5.params[j]? = some t → args[j]? = some v → Value.okWide Tryd.prog W .any base t v := hval0
  have hW' := hW
  obtain ⟨p, q, hA0, hV, rfl, hfz, hnd⟩ := hW
  have hA : DataW.TrodAll enc Tryd.prog W 0 (fun _ => true) true Tryd.f5.params.toList args.toList ds p := hA0
  rw [Tryd.params5] at hA hval
  obtain ⟨v0, vs0, d0, ds0, p0, q0, hargs, rfl, rfl, h0, r0⟩ := trodAll_cons hA
  obtain ⟨v1, vs1, d1, ds1, p1, q1, rfl, rfl, rfl, h1, r1⟩ := trodAll_cons r0
  obtain ⟨v2, vs2, d2, ds2, p2, q2, rfl, rfl, rfl, h2, r2⟩ := trodAll_cons r1
  obtain ⟨v3, vs3, d3, ds3, p3, q3, rfl, rfl, rfl, h3, r3⟩ := trodAll_cons r2
  obtain ⟨rfl, rfl, rfl⟩ := trodAll_nil r3
  obtain rfl : args = #[v0, v1, v2, v3] := by cases args; simp_all
  obtain ⟨rfl, rfl⟩ := trodVars_none hV
  obtain ⟨a0, rfl, rfl, rfl, x0⟩ := open_int Tryd.underlying3 (hval 0 3 v0 rfl rfl) h0
  obtain ⟨k1, n1, b1, rfl, rfl, rfl, xk1, xn1, xb1⟩ := open_val (hval 1 24 v1 rfl rfl) h1
  obtain ⟨a2, rfl, rfl, rfl, x2⟩ := open_int Tryd.underlying2 (hval 2 2 v2 rfl rfl) h2
  obtain ⟨a3, rfl, rfl, rfl, x3⟩ := open_int Tryd.underlying3 (hval 3 3 v3 rfl rfl) h3
  clear hA0 hval0
  simp only [List.append_nil] at hW'
  refine (valTells_walk a0 k1 n1 b1 a2 a3 x0 xk1 xn1 xb1 x2 x3 W (tab_of_laid hL)).mono fun e W' ⟨he, hb⟩ => ?_
  subst he
  exact ⟨_, rfl, _, _, _, [], [], [], hW', (trodAll_cons_mk (shut_bool Tryd.underlying4 _) trodAll_mk0), (trodAll_cons_mk (shut_int Tryd.underlying3 x0) (trodAll_cons_mk (shut_val xk1 xn1 xb1) (trodAll_cons_mk (shut_int Tryd.underlying2 x2) (trodAll_cons_mk (shut_int Tryd.underlying3 x3) trodAll_mk0)))), rfl, hb.frame _, fun h => by cases h⟩

theorem valTells_row : Rows.ValTellsSaid :=
  OpenClaim.holds_of_wide 5 Tryd.f5 rfl rfl rfl rfl rfl rfl rfl ⟨rfl, rfl, rfl, rfl, rfl⟩ rfl rfl rfl rfl rfl (by kernel_rfl) Tryd.func5 (by kernel_rfl)
    (of_decide_eq_true (by kernel_rfl)) (by unfold Func.isWrapper; first | (rw [if_pos (by decide +kernel)]; kernel_rfl) | (rw [if_neg (by decide +kernel)]; exact ⟨rfl, rfl⟩))
    (fun os started H enc _ => valTells_lifted os started H enc)

/-- THE STATEMENT. -/
theorem valTells_holds : Rows.ValTellsCardSaid :=
  Claim7.holds_tied_plain_at .later [] [.data, .data, .data] true (true, "b1699b2cfa1c194e16e6121e9959784bdd3e976bd84cffeee05e479fe9b5bbbd") false
    valTells_row (fun _ h => by cases h) (by kernel_rfl) (fun _ h => by cases h) valTells_row_tie rfl ⟨rfl, rfl⟩ (by kernel_rfl) rfl
    (fun f fn hf hfn => by
      obtain rfl : f = 5 := Option.some.inj ((show Tryd.prog.funcNamed "plumbob/plumboblaw1.ValTells" = some 5 by kernel_rfl).symm.trans hf) |>.symm
      obtain rfl : fn = Tryd.f5 := (Option.some.inj (Tryd.func5.symm.trans hfn)).symm
      exact ⟨by kernel_rfl, fun j t ht => by
        rw [Tryd.params5] at ht
        have hm : t ∈ [3, 24, 2, 3] := by simpa using Array.mem_of_getElem? ht
        have hall : ([3, 24, 2, 3].all fun u => !Tryd.prog.wantsStandIn u) = true := by kernel_rfl
        exact (show Tryd.prog.wantsStandIn t = false by simpa using List.all_eq_true.1 hall t hm)⟩)
    (by kernel_rfl)
#print axioms valTells_holds

end Go.Proofs.YtfkalcfkbaimgaaDoor
