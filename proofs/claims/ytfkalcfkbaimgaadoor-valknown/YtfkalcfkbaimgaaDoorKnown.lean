/- The examples of chapter 1 answer as they are told: the closed statement ValKnown returns true. Conditions: the three tables of the library that the row lists start as the program's text lays them (the card ties them). -/
import Derived.Test.YtfkalcfkbaimgaaDoorFrame
namespace Go.Proofs.YtfkalcfkbaimgaaDoor
open Go.ChangeShapes Go.WideShapes Go.ChangeAt Go.RowKit Pl
set_option linter.unusedSimpArgs false
set_option linter.unusedVariables false

theorem decS (u : Nat) (h : ¬ u < 10) : Lib.decDigits u = Lib.decDigits (u / 10) ++ [UInt8.ofNat (48 + u % 10)] := by rw [Lib.decDigits, dif_neg h]
theorem txt4 : (⟨(textF ⟨1, -9223372036854775808, 0⟩).toArray⟩ : ByteArray) = ⟨#[45, 57, 50, 50, 51, 51, 55, 50, 48, 51, 54, 56, 53, 52, 55, 55, 53, 56, 48, 56]⟩ := by
  simp [textF, kindF, goodF, Lib.itoa, dec1, decS]

set_option maxHeartbeats 4000000 in
theorem valKnown_walk (w : World) (ht : Tab w) : Calls Tryd.prog 3 #[] w (retP (.bool true) w) := by
  go_enter Tryd.func3, Tryd.ntmps3
  go_wp2_with fail
  refine (awake_any _ ht).mono ?_
  rintro e w1 ⟨rfl, hb1⟩
  go_wp2_with fail
  refine (of_to (-7) _).mono ?_
  rintro e w2 ⟨rfl, hb2⟩
  go_wp2_with fail
  refine (of_to 2 _).mono ?_
  rintro e w3 ⟨rfl, hb3⟩
  go_wp2_with fail
  refine (bin_to 15 1 (-7) 0 1 2 0 1 (-1) 0 true _ (by kernel_rfl)).mono ?_
  rintro e w4 ⟨rfl, hb4⟩
  go_wp2_with fail
  refine (at_to 3 8 2 8 3 _ (by kernel_rfl)).mono ?_
  rintro e w5 ⟨rfl, hb5⟩
  have a0 : w5.cell? ⟨w4.heap.size, 0, none⟩ = some (.int .i64 1) := keep_cell hb5 (by go_simp)
  have a1 : w5.cell? ⟨w4.heap.size, 1, none⟩ = some (.int .i64 (-1)) := keep_cell hb5 (by go_simp)
  have a2 : w5.cell? ⟨w4.heap.size, 2, none⟩ = some (.int .i64 0) := keep_cell hb5 (by go_simp)
  have aL : w4.heap.size < w5.heap.size := block_lt_of_cell a0
  go_wp2_with fail
  refine (of_to 0 _).mono ?_
  rintro e w6 ⟨rfl, hb6⟩
  replace a0 : w6.cell? ⟨w4.heap.size, 0, none⟩ = some (.int .i64 1) := keep_cell hb6 (by go_simp)
  replace a1 : w6.cell? ⟨w4.heap.size, 1, none⟩ = some (.int .i64 (-1)) := keep_cell hb6 (by go_simp)
  replace a2 : w6.cell? ⟨w4.heap.size, 2, none⟩ = some (.int .i64 0) := keep_cell hb6 (by go_simp)
  replace aL : w4.heap.size < w6.heap.size := block_lt_of_cell a0
  go_wp2_with fail
  refine (bin_to 21 2 8 3 1 0 0 1 0 0 true _ (by kernel_rfl)).mono ?_
  rintro e w7 ⟨rfl, hb7⟩
  replace a0 : w7.cell? ⟨w4.heap.size, 0, none⟩ = some (.int .i64 1) := keep_cell hb7 (by go_simp)
  replace a1 : w7.cell? ⟨w4.heap.size, 1, none⟩ = some (.int .i64 (-1)) := keep_cell hb7 (by go_simp)
  replace a2 : w7.cell? ⟨w4.heap.size, 2, none⟩ = some (.int .i64 0) := keep_cell hb7 (by go_simp)
  replace aL : w4.heap.size < w7.heap.size := block_lt_of_cell a0
  go_wp2_with fail
  refine (at_to 3 0 2 0 3 _ (by kernel_rfl)).mono ?_
  rintro e w8 ⟨rfl, hb8⟩
  replace a0 : w8.cell? ⟨w4.heap.size, 0, none⟩ = some (.int .i64 1) := keep_cell hb8 (by go_simp)
  replace a1 : w8.cell? ⟨w4.heap.size, 1, none⟩ = some (.int .i64 (-1)) := keep_cell hb8 (by go_simp)
  replace a2 : w8.cell? ⟨w4.heap.size, 2, none⟩ = some (.int .i64 0) := keep_cell hb8 (by go_simp)
  replace aL : w4.heap.size < w8.heap.size := block_lt_of_cell a0
  have b0 : w8.cell? ⟨w7.heap.size, 0, none⟩ = some (.int .i64 1) := keep_cell hb8 (by go_simp)
  have b1 : w8.cell? ⟨w7.heap.size, 1, none⟩ = some (.int .i64 0) := keep_cell hb8 (by go_simp)
  have b2 : w8.cell? ⟨w7.heap.size, 2, none⟩ = some (.int .i64 0) := keep_cell hb8 (by go_simp)
  have bL : w7.heap.size < w8.heap.size := block_lt_of_cell b0
  go_wp2_with fail
  refine (at_to 3 8 2 8 3 _ (by kernel_rfl)).mono ?_
  rintro e w9 ⟨rfl, hb9⟩
  replace a0 : w9.cell? ⟨w4.heap.size, 0, none⟩ = some (.int .i64 1) := keep_cell hb9 (by go_simp)
  replace a1 : w9.cell? ⟨w4.heap.size, 1, none⟩ = some (.int .i64 (-1)) := keep_cell hb9 (by go_simp)
  replace a2 : w9.cell? ⟨w4.heap.size, 2, none⟩ = some (.int .i64 0) := keep_cell hb9 (by go_simp)
  replace aL : w4.heap.size < w9.heap.size := block_lt_of_cell a0
  replace b0 : w9.cell? ⟨w7.heap.size, 0, none⟩ = some (.int .i64 1) := keep_cell hb9 (by go_simp)
  replace b1 : w9.cell? ⟨w7.heap.size, 1, none⟩ = some (.int .i64 0) := keep_cell hb9 (by go_simp)
  replace b2 : w9.cell? ⟨w7.heap.size, 2, none⟩ = some (.int .i64 0) := keep_cell hb9 (by go_simp)
  replace bL : w7.heap.size < w9.heap.size := block_lt_of_cell b0
  go_wp2_with fail
  refine (bin_to 23 2 0 3 2 8 3 0 0 0 false _ (by kernel_rfl)).mono ?_
  rintro e w10 ⟨rfl, hb10⟩
  replace a0 : w10.cell? ⟨w4.heap.size, 0, none⟩ = some (.int .i64 1) := keep_cell hb10 (by go_simp)
  replace a1 : w10.cell? ⟨w4.heap.size, 1, none⟩ = some (.int .i64 (-1)) := keep_cell hb10 (by go_simp)
  replace a2 : w10.cell? ⟨w4.heap.size, 2, none⟩ = some (.int .i64 0) := keep_cell hb10 (by go_simp)
  replace aL : w4.heap.size < w10.heap.size := block_lt_of_cell a0
  replace b0 : w10.cell? ⟨w7.heap.size, 0, none⟩ = some (.int .i64 1) := keep_cell hb10 (by go_simp)
  replace b1 : w10.cell? ⟨w7.heap.size, 1, none⟩ = some (.int .i64 0) := keep_cell hb10 (by go_simp)
  replace b2 : w10.cell? ⟨w7.heap.size, 2, none⟩ = some (.int .i64 0) := keep_cell hb10 (by go_simp)
  replace bL : w7.heap.size < w10.heap.size := block_lt_of_cell b0
  go_wp2_with fail
  refine (of_to _ _).mono ?_
  rintro e w11 ⟨rfl, hb11⟩
  replace a0 : w11.cell? ⟨w4.heap.size, 0, none⟩ = some (.int .i64 1) := keep_cell hb11 (by go_simp)
  replace a1 : w11.cell? ⟨w4.heap.size, 1, none⟩ = some (.int .i64 (-1)) := keep_cell hb11 (by go_simp)
  replace a2 : w11.cell? ⟨w4.heap.size, 2, none⟩ = some (.int .i64 0) := keep_cell hb11 (by go_simp)
  replace aL : w4.heap.size < w11.heap.size := block_lt_of_cell a0
  replace b0 : w11.cell? ⟨w7.heap.size, 0, none⟩ = some (.int .i64 1) := keep_cell hb11 (by go_simp)
  replace b1 : w11.cell? ⟨w7.heap.size, 1, none⟩ = some (.int .i64 0) := keep_cell hb11 (by go_simp)
  replace b2 : w11.cell? ⟨w7.heap.size, 2, none⟩ = some (.int .i64 0) := keep_cell hb11 (by go_simp)
  replace bL : w7.heap.size < w11.heap.size := block_lt_of_cell b0
  go_wp2_with fail
  refine (of_to (-1) _).mono ?_
  rintro e w12 ⟨rfl, hb12⟩
  replace a0 : w12.cell? ⟨w4.heap.size, 0, none⟩ = some (.int .i64 1) := keep_cell hb12 (by go_simp)
  replace a1 : w12.cell? ⟨w4.heap.size, 1, none⟩ = some (.int .i64 (-1)) := keep_cell hb12 (by go_simp)
  replace a2 : w12.cell? ⟨w4.heap.size, 2, none⟩ = some (.int .i64 0) := keep_cell hb12 (by go_simp)
  replace aL : w4.heap.size < w12.heap.size := block_lt_of_cell a0
  replace b0 : w12.cell? ⟨w7.heap.size, 0, none⟩ = some (.int .i64 1) := keep_cell hb12 (by go_simp)
  replace b1 : w12.cell? ⟨w7.heap.size, 1, none⟩ = some (.int .i64 0) := keep_cell hb12 (by go_simp)
  replace b2 : w12.cell? ⟨w7.heap.size, 2, none⟩ = some (.int .i64 0) := keep_cell hb12 (by go_simp)
  replace bL : w7.heap.size < w12.heap.size := block_lt_of_cell b0
  go_wp2_with fail
  refine (bin_to 14 1 _ 0 1 (-1) 0 0 0 0 false _ (by kernel_rfl)).mono ?_
  rintro e w13 ⟨rfl, hb13⟩
  replace a0 : w13.cell? ⟨w4.heap.size, 0, none⟩ = some (.int .i64 1) := keep_cell hb13 (by go_simp)
  replace a1 : w13.cell? ⟨w4.heap.size, 1, none⟩ = some (.int .i64 (-1)) := keep_cell hb13 (by go_simp)
  replace a2 : w13.cell? ⟨w4.heap.size, 2, none⟩ = some (.int .i64 0) := keep_cell hb13 (by go_simp)
  replace aL : w4.heap.size < w13.heap.size := block_lt_of_cell a0
  replace b0 : w13.cell? ⟨w7.heap.size, 0, none⟩ = some (.int .i64 1) := keep_cell hb13 (by go_simp)
  replace b1 : w13.cell? ⟨w7.heap.size, 1, none⟩ = some (.int .i64 0) := keep_cell hb13 (by go_simp)
  replace b2 : w13.cell? ⟨w7.heap.size, 2, none⟩ = some (.int .i64 0) := keep_cell hb13 (by go_simp)
  replace bL : w7.heap.size < w13.heap.size := block_lt_of_cell b0
  go_wp2_with fail
  refine (at_to 0 5 0 0 0 _ (by kernel_rfl)).mono ?_
  rintro e w14 ⟨rfl, hb14⟩
  replace a0 : w14.cell? ⟨w4.heap.size, 0, none⟩ = some (.int .i64 1) := keep_cell hb14 (by go_simp)
  replace a1 : w14.cell? ⟨w4.heap.size, 1, none⟩ = some (.int .i64 (-1)) := keep_cell hb14 (by go_simp)
  replace a2 : w14.cell? ⟨w4.heap.size, 2, none⟩ = some (.int .i64 0) := keep_cell hb14 (by go_simp)
  replace aL : w4.heap.size < w14.heap.size := block_lt_of_cell a0
  replace b0 : w14.cell? ⟨w7.heap.size, 0, none⟩ = some (.int .i64 1) := keep_cell hb14 (by go_simp)
  replace b1 : w14.cell? ⟨w7.heap.size, 1, none⟩ = some (.int .i64 0) := keep_cell hb14 (by go_simp)
  replace b2 : w14.cell? ⟨w7.heap.size, 2, none⟩ = some (.int .i64 0) := keep_cell hb14 (by go_simp)
  replace bL : w7.heap.size < w14.heap.size := block_lt_of_cell b0
  go_wp2_with fail
  refine (good_to 3 0 0 false _ (by kernel_rfl)).mono ?_
  rintro e w15 ⟨rfl, hb15⟩
  replace a0 : w15.cell? ⟨w4.heap.size, 0, none⟩ = some (.int .i64 1) := keep_cell hb15 (by go_simp)
  replace a1 : w15.cell? ⟨w4.heap.size, 1, none⟩ = some (.int .i64 (-1)) := keep_cell hb15 (by go_simp)
  replace a2 : w15.cell? ⟨w4.heap.size, 2, none⟩ = some (.int .i64 0) := keep_cell hb15 (by go_simp)
  replace aL : w4.heap.size < w15.heap.size := block_lt_of_cell a0
  replace b0 : w15.cell? ⟨w7.heap.size, 0, none⟩ = some (.int .i64 1) := keep_cell hb15 (by go_simp)
  replace b1 : w15.cell? ⟨w7.heap.size, 1, none⟩ = some (.int .i64 0) := keep_cell hb15 (by go_simp)
  replace b2 : w15.cell? ⟨w7.heap.size, 2, none⟩ = some (.int .i64 0) := keep_cell hb15 (by go_simp)
  replace bL : w7.heap.size < w15.heap.size := block_lt_of_cell b0
  go_wp2_with fail
  refine (of_to _ _).mono ?_
  rintro e w16 ⟨rfl, hb16⟩
  replace a0 : w16.cell? ⟨w4.heap.size, 0, none⟩ = some (.int .i64 1) := keep_cell hb16 (by go_simp)
  replace a1 : w16.cell? ⟨w4.heap.size, 1, none⟩ = some (.int .i64 (-1)) := keep_cell hb16 (by go_simp)
  replace a2 : w16.cell? ⟨w4.heap.size, 2, none⟩ = some (.int .i64 0) := keep_cell hb16 (by go_simp)
  replace aL : w4.heap.size < w16.heap.size := block_lt_of_cell a0
  replace b0 : w16.cell? ⟨w7.heap.size, 0, none⟩ = some (.int .i64 1) := keep_cell hb16 (by go_simp)
  replace b1 : w16.cell? ⟨w7.heap.size, 1, none⟩ = some (.int .i64 0) := keep_cell hb16 (by go_simp)
  replace b2 : w16.cell? ⟨w7.heap.size, 2, none⟩ = some (.int .i64 0) := keep_cell hb16 (by go_simp)
  replace bL : w7.heap.size < w16.heap.size := block_lt_of_cell b0
  have ht2 : Tab w16 := tab_keep ht (by repeat (first | exact Below.refl _ _ | refine bel_alloc ?_ _ | refine bel_set ?_ (by first | exact Nat.le_refl _ | (simp; done) | (simp; omega)) _ | refine Below.drew ?_ | refine bel_trans ?_ (by assumption)))
  go_wp2_with fail
  refine (text_to 1 _ 0 _ _ txt4 ht2 (by decide) (by decide) (by decide) (by decide)).mono ?_
  rintro e w17 ⟨rfl, hb17⟩
  replace a0 : w17.cell? ⟨w4.heap.size, 0, none⟩ = some (.int .i64 1) := keep_cell hb17 (by go_simp)
  replace a1 : w17.cell? ⟨w4.heap.size, 1, none⟩ = some (.int .i64 (-1)) := keep_cell hb17 (by go_simp)
  replace a2 : w17.cell? ⟨w4.heap.size, 2, none⟩ = some (.int .i64 0) := keep_cell hb17 (by go_simp)
  replace aL : w4.heap.size < w17.heap.size := block_lt_of_cell a0
  replace b0 : w17.cell? ⟨w7.heap.size, 0, none⟩ = some (.int .i64 1) := keep_cell hb17 (by go_simp)
  replace b1 : w17.cell? ⟨w7.heap.size, 1, none⟩ = some (.int .i64 0) := keep_cell hb17 (by go_simp)
  replace b2 : w17.cell? ⟨w7.heap.size, 2, none⟩ = some (.int .i64 0) := keep_cell hb17 (by go_simp)
  replace bL : w7.heap.size < w17.heap.size := block_lt_of_cell b0
  go_wp2
  go_ret
  exact ⟨rfl, (by repeat (first | exact Below.refl _ _ | refine bel_alloc ?_ _ | refine bel_set ?_ (by first | exact Nat.le_refl _ | (simp; done) | (simp; omega)) _ | refine Below.drew ?_ | refine bel_trans ?_ (by assumption)))⟩

set_option maxRecDepth 100000 in
theorem valKnown_lifted (os : Os) (started : os.Started) (H : Type) (enc : TypeId × Value → H) :
    ReturnsInHanded {} Tryd.checked os 3 .any (fun w args => (Rows.valKnownSpec.pre enc Tryd.prog Tryd.f3 [] false w args ∧ laidMetH Tryd.prog laid3 w) ∧ sizedMet enc Tryd.prog Tryd.f3 (OpenSpec.ofChange Rows.valKnownSpec) false w args)
      (Rows.valKnownSpec.post enc Tryd.prog Tryd.f3 false true false false) := by
  refine returnsInHanded_of_change_and (C := Tryd.checked) (X := fun w _ => laidMetH Tryd.prog laid3 w) (fun _ _ _ hh h => h.of_heap hh) own started (by kernel_rfl) Tryd.func3
    (ChangeSpec.witness_shaped (enc := enc) (C := Tryd.checked) (os := os) (X := fun w _ => laidMetH Tryd.prog laid3 w) false (World.doorLaid Tryd.prog 400 os) #[] 8 rfl (World.shaped_of_RefB (by kernel_rfl) (by kernel_rfl)) (by kernel_rfl) (by kernel_rfl) (by kernel_rfl) (door_met os _)) ?_
  intro W base args ds gs before hval0 hW _ _ hL _
  have hval : ∀ (j : Nat) t v, Tryd.f3.params[j]? = some t → args[j]? = some v → Value.okWide Tryd.prog W .any base t v := hval0
  have hW' := hW
  obtain ⟨p, q, hA0, hV, rfl, hfz, hnd⟩ := hW
  have hA : DataW.TrodAll enc Tryd.prog W 0 (fun _ => true) true Tryd.f3.params.toList args.toList ds p := hA0
  rw [Tryd.params3] at hA hval
  obtain ⟨rfl, rfl, rfl⟩ := trodAll_none hA
  obtain ⟨rfl, rfl⟩ := trodVars_none hV
  clear hA0 hval0
  simp only [List.append_nil] at hW'
  refine (valKnown_walk  W (tab_of_laid hL)).mono fun e W' ⟨he, hb⟩ => ?_
  subst he
  exact ⟨_, rfl, _, _, _, [], [], [], hW', (trodAll_cons_mk (shut_bool Tryd.underlying4 _) trodAll_mk0), rfl, rfl, hb.frame _, fun h => by cases h⟩

theorem valKnown_row : Rows.ValKnownSaid :=
  OpenClaim.holds_of_wide 3 Tryd.f3 rfl rfl rfl rfl rfl rfl rfl ⟨rfl, rfl, rfl, rfl, rfl⟩ rfl rfl rfl rfl rfl (by kernel_rfl) Tryd.func3 (by kernel_rfl)
    (of_decide_eq_true (by kernel_rfl)) (by unfold Func.isWrapper; first | (rw [if_pos (by decide +kernel)]; kernel_rfl) | (rw [if_neg (by decide +kernel)]; exact ⟨rfl, rfl⟩))
    (fun os started H enc _ => valKnown_lifted os started H enc)

/-- THE STATEMENT. -/
theorem valKnown_holds : Rows.ValKnownCardSaid :=
  Claim7.holds_tied_plain_at .later [] [.data, .data, .data] true (true, "b1699b2cfa1c194e16e6121e9959784bdd3e976bd84cffeee05e479fe9b5bbbd") false
    valKnown_row (fun _ h => by cases h) (by kernel_rfl) (fun _ h => by cases h) valKnown_row_tie rfl ⟨rfl, rfl⟩ (by kernel_rfl) rfl
    (fun f fn hf hfn => by
      obtain rfl : f = 3 := Option.some.inj ((show Tryd.prog.funcNamed "plumbob/plumboblaw1.ValKnown" = some 3 by kernel_rfl).symm.trans hf) |>.symm
      obtain rfl : fn = Tryd.f3 := (Option.some.inj (Tryd.func3.symm.trans hfn)).symm
      exact ⟨by kernel_rfl, fun j t ht => by
        rw [Tryd.params3] at ht
        simp at ht⟩)
    (by kernel_rfl)
#print axioms valKnown_holds

end Go.Proofs.YtfkalcfkbaimgaaDoor
