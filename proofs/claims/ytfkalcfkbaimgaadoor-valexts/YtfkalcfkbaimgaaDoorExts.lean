/- For every int64: the lowest bits with their sign stay when they are taken again; those of 8 bits are taken from 32 the same; a number that fits stays as it is: the statement ValExts returns true. Conditions: the three tables of the library that the row lists start as the program's text lays them (the card ties them). -/
import Derived.Test.YtfkalcfkbaimgaaDoorFrame
namespace Go.Proofs.YtfkalcfkbaimgaaDoor
open Go.ChangeShapes Go.WideShapes Go.ChangeAt Go.RowKit Pl
set_option linter.unusedSimpArgs false
set_option linter.unusedVariables false

theorem i8_eq (n : Int) : IntKind.i8.wrap n = (n + 128) % 256 - 128 := by
  simp only [IntKind.wrap, IntKind.bits, IntKind.signed]; simp; split <;> omega
def e8 (n : Int) : Int := wrap64 (IntKind.i8.wrap n)
def e32 (n : Int) : Int := wrap64 (wrap32 n)
theorem e8_eq (n : Int) : e8 n = (n + 128) % 256 - 128 := by unfold e8 wrap64; rw [i8_eq]; omega
theorem e32_eq (n : Int) : e32 n = (n + 2147483648) % 4294967296 - 2147483648 := by unfold e32 wrap64 wrap32; omega
theorem un3 (n : Int) : unF 3 ⟨1, n, 0⟩ = (⟨1, e8 n, 0⟩, true) := by simp [unF, kindF, goodF, ofF, e8]
theorem un4 (n : Int) : unF 4 ⟨1, n, 0⟩ = (⟨1, e32 n, 0⟩, true) := by simp [unF, kindF, goodF, ofF, e32]

set_option maxHeartbeats 8000000 in
theorem valExts_core (n x y : Int) (w : World) (ht : Tab w) (H1 : Hid (unF 3 ⟨1, n, 0⟩ = (⟨1, x, 0⟩, true))) (H2 : Hid (unF 4 ⟨1, n, 0⟩ = (⟨1, y, 0⟩, true))) (H3 : Hid (unF 3 ⟨1, y, 0⟩ = (⟨1, x, 0⟩, true)))
    (H4 : Hid (unF 4 ⟨1, x, 0⟩ = (⟨1, x, 0⟩, true))) (H5 : Hid (unF 3 ⟨1, x, 0⟩ = (⟨1, x, 0⟩, true))) (x0 : ¬ x < -128) (x1 : ¬ 127 < x) (y0 : ¬ y < -2147483648) (y1 : ¬ 2147483647 < y)
    (p q : Bool) (hp0 : decide (-128 ≤ n) = p) (hp : p = true → decide (n ≤ 127) = (x == n)) (hp' : p = false → (x == n) = false) (hq0 : decide (-2147483648 ≤ n) = q) (hq : q = true → decide (n ≤ 2147483647) = (y == n)) (hq' : q = false → (y == n) = false) :
    Calls Tryd.prog 8 #[.int .i64 n] w (retP (.bool true) w) := by
  cases p <;> cases q
  all_goals
    simp only [reduceCtorEq, false_implies, true_implies, forall_const] at hp hp' hq hq'
    go_enter Tryd.func8, Tryd.ntmps8
    go_wp2_with fail
    refine (awake_any _ ht).mono ?_
    rintro e w1 ⟨rfl, hb1⟩
    go_wp2_with fail
    refine (of_to _ _).mono ?_
    rintro e w2 ⟨rfl, hb2⟩
    go_wp2_with fail
    refine (un_to 3 1 n 0 1 x 0 true _ H1.out).mono ?_
    rintro e w3 ⟨rfl, hb3⟩
    go_wp2_with fail
    refine (of_to _ _).mono ?_
    rintro e w4 ⟨rfl, hb4⟩
    have a0 : w4.cell? ⟨w3.heap.size, 0, none⟩ = some (.int .i64 1) := keep_cell hb4 (by go_simp)
    have a1 : w4.cell? ⟨w3.heap.size, 1, none⟩ = some (.int .i64 x) := keep_cell hb4 (by go_simp)
    have a2 : w4.cell? ⟨w3.heap.size, 2, none⟩ = some (.int .i64 0) := keep_cell hb4 (by go_simp)
    have aL : w3.heap.size < w4.heap.size := block_lt_of_cell a0
    go_wp2_with fail
    refine (un_to 4 1 n 0 1 y 0 true _ H2.out).mono ?_
    rintro e w5 ⟨rfl, hb5⟩
    replace a0 : w5.cell? ⟨w3.heap.size, 0, none⟩ = some (.int .i64 1) := keep_cell hb5 (by go_simp)
    replace a1 : w5.cell? ⟨w3.heap.size, 1, none⟩ = some (.int .i64 x) := keep_cell hb5 (by go_simp)
    replace a2 : w5.cell? ⟨w3.heap.size, 2, none⟩ = some (.int .i64 0) := keep_cell hb5 (by go_simp)
    replace aL : w3.heap.size < w5.heap.size := block_lt_of_cell a0
    go_wp2_with fail
    refine (un_to 3 1 y 0 1 x 0 true _ H3.out).mono ?_
    rintro e w6 ⟨rfl, hb6⟩
    replace a0 : w6.cell? ⟨w3.heap.size, 0, none⟩ = some (.int .i64 1) := keep_cell hb6 (by go_simp)
    replace a1 : w6.cell? ⟨w3.heap.size, 1, none⟩ = some (.int .i64 x) := keep_cell hb6 (by go_simp)
    replace a2 : w6.cell? ⟨w3.heap.size, 2, none⟩ = some (.int .i64 0) := keep_cell hb6 (by go_simp)
    replace aL : w3.heap.size < w6.heap.size := block_lt_of_cell a0
    have b0 : w6.cell? ⟨w5.heap.size, 0, none⟩ = some (.int .i64 1) := keep_cell hb6 (by go_simp)
    have b1 : w6.cell? ⟨w5.heap.size, 1, none⟩ = some (.int .i64 y) := keep_cell hb6 (by go_simp)
    have b2 : w6.cell? ⟨w5.heap.size, 2, none⟩ = some (.int .i64 0) := keep_cell hb6 (by go_simp)
    have bL : w5.heap.size < w6.heap.size := block_lt_of_cell b0
    go_wp2_with fail
    refine (un_to 4 1 x 0 1 x 0 true _ H4.out).mono ?_
    rintro e w7 ⟨rfl, hb7⟩
    replace a0 : w7.cell? ⟨w3.heap.size, 0, none⟩ = some (.int .i64 1) := keep_cell hb7 (by go_simp)
    replace a1 : w7.cell? ⟨w3.heap.size, 1, none⟩ = some (.int .i64 x) := keep_cell hb7 (by go_simp)
    replace a2 : w7.cell? ⟨w3.heap.size, 2, none⟩ = some (.int .i64 0) := keep_cell hb7 (by go_simp)
    replace aL : w3.heap.size < w7.heap.size := block_lt_of_cell a0
    replace b0 : w7.cell? ⟨w5.heap.size, 0, none⟩ = some (.int .i64 1) := keep_cell hb7 (by go_simp)
    replace b1 : w7.cell? ⟨w5.heap.size, 1, none⟩ = some (.int .i64 y) := keep_cell hb7 (by go_simp)
    replace b2 : w7.cell? ⟨w5.heap.size, 2, none⟩ = some (.int .i64 0) := keep_cell hb7 (by go_simp)
    replace bL : w5.heap.size < w7.heap.size := block_lt_of_cell b0
    have c0 : w7.cell? ⟨w6.heap.size, 0, none⟩ = some (.int .i64 1) := keep_cell hb7 (by go_simp)
    have c1 : w7.cell? ⟨w6.heap.size, 1, none⟩ = some (.int .i64 x) := keep_cell hb7 (by go_simp)
    have c2 : w7.cell? ⟨w6.heap.size, 2, none⟩ = some (.int .i64 0) := keep_cell hb7 (by go_simp)
    have cL : w6.heap.size < w7.heap.size := block_lt_of_cell c0
    go_wp2_with fail
    refine (un_to 3 1 x 0 1 x 0 true _ H5.out).mono ?_
    rintro e w8 ⟨rfl, hb8⟩
    replace a0 : w8.cell? ⟨w3.heap.size, 0, none⟩ = some (.int .i64 1) := keep_cell hb8 (by go_simp)
    replace a1 : w8.cell? ⟨w3.heap.size, 1, none⟩ = some (.int .i64 x) := keep_cell hb8 (by go_simp)
    replace a2 : w8.cell? ⟨w3.heap.size, 2, none⟩ = some (.int .i64 0) := keep_cell hb8 (by go_simp)
    replace aL : w3.heap.size < w8.heap.size := block_lt_of_cell a0
    replace b0 : w8.cell? ⟨w5.heap.size, 0, none⟩ = some (.int .i64 1) := keep_cell hb8 (by go_simp)
    replace b1 : w8.cell? ⟨w5.heap.size, 1, none⟩ = some (.int .i64 y) := keep_cell hb8 (by go_simp)
    replace b2 : w8.cell? ⟨w5.heap.size, 2, none⟩ = some (.int .i64 0) := keep_cell hb8 (by go_simp)
    replace bL : w5.heap.size < w8.heap.size := block_lt_of_cell b0
    replace c0 : w8.cell? ⟨w6.heap.size, 0, none⟩ = some (.int .i64 1) := keep_cell hb8 (by go_simp)
    replace c1 : w8.cell? ⟨w6.heap.size, 1, none⟩ = some (.int .i64 x) := keep_cell hb8 (by go_simp)
    replace c2 : w8.cell? ⟨w6.heap.size, 2, none⟩ = some (.int .i64 0) := keep_cell hb8 (by go_simp)
    replace cL : w6.heap.size < w8.heap.size := block_lt_of_cell c0
    have d0 : w8.cell? ⟨w7.heap.size, 0, none⟩ = some (.int .i64 1) := keep_cell hb8 (by go_simp)
    have d1 : w8.cell? ⟨w7.heap.size, 1, none⟩ = some (.int .i64 x) := keep_cell hb8 (by go_simp)
    have d2 : w8.cell? ⟨w7.heap.size, 2, none⟩ = some (.int .i64 0) := keep_cell hb8 (by go_simp)
    have dL : w7.heap.size < w8.heap.size := block_lt_of_cell d0
    go_wp2
    go_ret
    exact ⟨rfl, (by repeat (first | exact Below.refl _ _ | refine bel_alloc ?_ _ | refine bel_set ?_ (by first | exact Nat.le_refl _ | (simp; done) | (simp; omega)) _ | refine Below.drew ?_ | refine bel_trans ?_ (by assumption)))⟩


theorem valExts_walk (n : Int) (hn : (Lit.int .i64 n).wf = true) (w : World) (ht : Tab w) : Calls Tryd.prog 8 #[.int .i64 n] w (retP (.bool true) w) := by
  have a := e8_eq n
  have b := e32_eq n
  refine valExts_core n (e8 n) (e32 n) w ht (un3 n) (un4 n) ?_ ?_ ?_ (by omega) (by omega) (by omega) (by omega) (decide (-128 ≤ n)) (decide (-2147483648 ≤ n)) rfl ?_ ?_ rfl ?_ ?_
  · show _ = _; rw [un3, e8_eq, e8_eq, e32_eq]; congr 2; omega
  · show _ = _; rw [un4, e32_eq, e8_eq]; congr 2; omega
  · show _ = _; rw [un3, e8_eq (e8 n), e8_eq]; congr 2; omega
  · intro h; rw [Bool.eq_iff_iff]; simp at h ⊢; omega
  · intro h; simp at h ⊢; omega
  · intro h; rw [Bool.eq_iff_iff]; simp at h ⊢; omega
  · intro h; simp at h ⊢; omega

set_option maxRecDepth 100000 in
theorem valExts_lifted (os : Os) (started : os.Started) (H : Type) (enc : TypeId × Value → H) :
    ReturnsInHanded {} Tryd.checked os 8 .any (fun w args => (Rows.valExtsSpec.pre enc Tryd.prog Tryd.f8 [] false w args ∧ laidMetH Tryd.prog laid3 w) ∧ sizedMet enc Tryd.prog Tryd.f8 (OpenSpec.ofChange Rows.valExtsSpec) false w args)
      (Rows.valExtsSpec.post enc Tryd.prog Tryd.f8 false true false false) := by
  refine returnsInHanded_of_change_and (C := Tryd.checked) (X := fun w _ => laidMetH Tryd.prog laid3 w) (fun _ _ _ hh h => h.of_heap hh) own started (by kernel_rfl) Tryd.func8
    (ChangeSpec.witness_shaped (enc := enc) (C := Tryd.checked) (os := os) (X := fun w _ => laidMetH Tryd.prog laid3 w) false (World.doorLaid Tryd.prog 400 os) #[.int .i64 0] 8 rfl (World.shaped_of_RefB (by kernel_rfl) (by kernel_rfl)) (by kernel_rfl) (by kernel_rfl) (by kernel_rfl) (door_met os _)) ?_
  intro W base args ds gs before hval0 hW _ _ hL _
  have hval : ∀ (j : Nat) t v, Tryd.f8.params[j]? = some t → args[j]? = some v → Value.okWide Tryd.prog W .any base t v := hval0
  have hW' := hW
  obtain ⟨p, q, hA0, hV, rfl, hfz, hnd⟩ := hW
  have hA : DataW.TrodAll enc Tryd.prog W 0 (fun _ => true) true Tryd.f8.params.toList args.toList ds p := hA0
  rw [Tryd.params8] at hA hval
  obtain ⟨v0, vs0, d0, ds0, p0, q0, hargs, rfl, rfl, h0, r0⟩ := trodAll_cons hA
  obtain ⟨rfl, rfl, rfl⟩ := trodAll_nil r0
  obtain rfl : args = #[v0] := by cases args; simp_all
  obtain ⟨rfl, rfl⟩ := trodVars_none hV
  obtain ⟨a0, rfl, rfl, rfl, x0⟩ := open_int Tryd.underlying2 (hval 0 2 v0 rfl rfl) h0
  clear hA0 hval0
  simp only [List.append_nil] at hW'
  refine (valExts_walk a0 x0 W (tab_of_laid hL)).mono fun e W' ⟨he, hb⟩ => ?_
  subst he
  exact ⟨_, rfl, _, _, _, [], [], [], hW', (trodAll_cons_mk (shut_bool Tryd.underlying4 _) trodAll_mk0), (trodAll_cons_mk (shut_int Tryd.underlying2 x0) trodAll_mk0), rfl, hb.frame _, fun h => by cases h⟩

theorem valExts_row : Rows.ValExtsSaid :=
  OpenClaim.holds_of_wide 8 Tryd.f8 rfl rfl rfl rfl rfl rfl rfl ⟨rfl, rfl, rfl, rfl, rfl⟩ rfl rfl rfl rfl rfl (by kernel_rfl) Tryd.func8 (by kernel_rfl)
    (of_decide_eq_true (by kernel_rfl)) (by unfold Func.isWrapper; first | (rw [if_pos (by decide +kernel)]; kernel_rfl) | (rw [if_neg (by decide +kernel)]; exact ⟨rfl, rfl⟩))
    (fun os started H enc _ => valExts_lifted os started H enc)

/-- THE STATEMENT. -/
theorem valExts_holds : Rows.ValExtsCardSaid :=
  Claim7.holds_tied_plain_at .later [] [.data, .data, .data] true (true, "b1699b2cfa1c194e16e6121e9959784bdd3e976bd84cffeee05e479fe9b5bbbd") false
    valExts_row (fun _ h => by cases h) (by kernel_rfl) (fun _ h => by cases h) valExts_row_tie rfl ⟨rfl, rfl⟩ (by kernel_rfl) rfl
    (fun f fn hf hfn => by
      obtain rfl : f = 8 := Option.some.inj ((show Tryd.prog.funcNamed "plumbob/plumboblaw1.ValExts" = some 8 by kernel_rfl).symm.trans hf) |>.symm
      obtain rfl : fn = Tryd.f8 := (Option.some.inj (Tryd.func8.symm.trans hfn)).symm
      exact ⟨by kernel_rfl, fun j t ht => by
        rw [Tryd.params8] at ht
        have hm : t ∈ [2] := by simpa using Array.mem_of_getElem? ht
        have hall : ([2].all fun u => !Tryd.prog.wantsStandIn u) = true := by kernel_rfl
        exact (show Tryd.prog.wantsStandIn t = false by simpa using List.all_eq_true.1 hall t hm)⟩)
    (by kernel_rfl)
#print axioms valExts_holds

end Go.Proofs.YtfkalcfkbaimgaaDoor
