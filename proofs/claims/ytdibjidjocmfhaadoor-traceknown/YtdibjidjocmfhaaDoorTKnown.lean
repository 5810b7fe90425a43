/- The examples of chapter 3 answer as they are told: the closed statement TraceKnown returns true. Conditions: the three tables of the library that the row lists start as the program's text lays them (the card ties them). -/
import Derived.Test.YtdibjidjocmfhaaDoorTFrame
namespace Go.Proofs.YtdibjidjocmfhaaDoor
open Go.ChangeShapes Go.WideShapes Go.ChangeAt Go.RowKit Go.Joins Go.Deep Pl
set_option linter.unusedSimpArgs false
set_option linter.unusedVariables false

abbrev zR (k : Int) : RD := ⟨k, 0, .slice none 0 0, .slice none 0 0, 0, [], []⟩
theorem zR_at (k : Int) (w : World) : RunAt w (zR k) := ⟨nil_ev w, nil_lk w⟩
theorem ok0 : EvOk [] := fun x hx => by cases hx
theorem txt0 : (⟨(textR (zR 0)).toArray⟩ : ByteArray) = ⟨#[110, 111, 110, 101, 10]⟩ := by simp [textR, textL, endL]
theorem txt4 : (⟨(textR (zR 4)).toArray⟩ : ByteArray) = ⟨#[111, 118, 101, 114, 102, 108, 111, 119, 10]⟩ := by simp [textR, textL, endL]
set_option maxHeartbeats 4000000 in
theorem traceKnown_walk (w : World) (ht : Tab w) : Calls Tryd.prog 3 #[] w (retP (.bool true) w) := by
  have HT : Hid (Tab w) := ht
  clear ht
  go_enter Tryd.func3, Tryd.ntmps3
  go_wp2_with fail
  refine (awake_any _ HT.out).mono ?_
  rintro e w1 ⟨rfl, hb1⟩
  have HB1 : Hid (Below w.heap.size w w1) := hb1
  clear hb1
  go_wp2_with fail
  refine (text_to (zR 0) _ _ txt0 (zR_at _ _) (by simp) ok0 (by simp) (by simp) (tab_keep HT.out HB1.out)).mono ?_
  rintro e w2 ⟨rfl, hb2⟩
  have HB2 : Hid (Below w.heap.size w w2) := bel_trans HB1.out hb2
  clear hb2 HB1
  go_wp2_with fail
  refine (text_to (zR 4) _ _ txt4 (zR_at _ _) (by simp) ok0 (by simp) (by simp) (tab_keep HT.out HB2.out)).mono ?_
  rintro e w3 ⟨rfl, hb3⟩
  have HB3 : Hid (Below w.heap.size w w3) := bel_trans HB2.out hb3
  clear hb3 HB2
  go_wp2_with fail
  refine (run_any _ _ _).mono ?_
  rintro e w4 ⟨ev4, lk4, rfl, hr4, hb4⟩
  have HB4 : Hid (Below w.heap.size w w4) := bel_trans HB3.out hb4
  have HR4 : Hid (RunAt w4 ⟨1, 1, ev4, lk4, 0, [(2, 1)], [(1, 1, 0)]⟩) := hr4
  clear hb4 HB3 hr4
  go_wp2_with fail
  refine (refines_to ⟨1, 1, ev4, lk4, 0, [(2, 1)], [(1, 1, 0)]⟩ (zR 4) _ HR4.out (zR_at _ _) false (by show _ = _; simp [refR])).mono ?_
  rintro e w5 ⟨rfl, hb5⟩
  have HB5 : Hid (Below w.heap.size w w5) := bel_trans HB4.out hb5
  clear hb5 HB4
  go_wp2_with fail
  refine (run_any _ _ _).mono ?_
  rintro e w6 ⟨ev6, lk6, rfl, hr6, hb6⟩
  have HB6 : Hid (Below w.heap.size w w6) := bel_trans HB5.out hb6
  have HR6 : Hid (RunAt w6 ⟨1, 1, ev6, lk6, 0, [(2, 1)], [(1, 1, 0)]⟩) := hr6
  clear hb6 HB5 hr6
  go_wp2_with fail
  refine (refines_to ⟨1, 1, ev6, lk6, 0, [(2, 1)], [(1, 1, 0)]⟩ (zR 3) _ HR6.out (zR_at _ _) true (by show _ = _; simp [refR])).mono ?_
  rintro e w7 ⟨rfl, hb7⟩
  have HB7 : Hid (Below w.heap.size w w7) := bel_trans HB6.out hb7
  clear hb7 HB6
  go_wp2_with fail
  refine (run_any _ _ _).mono ?_
  rintro e w8 ⟨ev8, lk8, rfl, hr8, hb8⟩
  have HB8 : Hid (Below w.heap.size w w8) := bel_trans HB7.out hb8
  have HR8 : Hid (EvAt w8 ev8 [(2, 1)]) := hr8.1
  obtain ⟨⟨ea, ec, hea, -⟩, ⟨la, lc, hla, -⟩⟩ := hr8
  simp only [List.length_cons, List.length_nil, Nat.zero_add] at hea hla
  subst hea hla
  clear hb8 HB7
  have hfld : ∀ w, (Instr.field 27 (.agg #[.int .i64 1, .int .i64 1, .slice ea 1 ec, .slice la 1 lc, .int .i64 0]) 2).run Tryd.prog w = .ok (.slice ea 1 ec) w := fun w => by kernel_rfl
  go_wp2_with fail
  refine (prefix_to HR8.out (nil_ev _) (r := false) (show false = evPre _ _ by simp [evPre])).mono ?_
  rintro e w9 ⟨rfl, hb9⟩
  have HB9 : Hid (Below w.heap.size w w9) := bel_trans HB8.out hb9
  clear hb9 HB8
  go_wp2
  go_ret
  exact ⟨rfl, HB9.out⟩

set_option maxRecDepth 100000 in
theorem traceKnown_lifted (os : Os) (started : os.Started) (H : Type) (enc : TypeId × Value → H) :
    ReturnsInHanded {} Tryd.checked os 3 .any (fun w args => (Rows.traceKnownSpec.pre enc Tryd.prog Tryd.f3 [] false w args ∧ laidMetH Tryd.prog laid3 w) ∧ sizedMet enc Tryd.prog Tryd.f3 (OpenSpec.ofChange Rows.traceKnownSpec) false w args)
      (Rows.traceKnownSpec.post enc Tryd.prog Tryd.f3 false true false false) := by
  refine returnsInHanded_of_change_and (C := Tryd.checked) (X := fun w _ => laidMetH Tryd.prog laid3 w) (fun _ _ _ hh h => h.of_heap hh) own started (by kernel_rfl) Tryd.func3
    (ChangeSpec.witness_shaped (enc := enc) (C := Tryd.checked) (os := os) (X := fun w _ => laidMetH Tryd.prog laid3 w) false (World.doorLaid Tryd.prog 400 os) #[] 8 rfl (World.shaped_of_RefB (by kernel_rfl) (by kernel_rfl)) (by kernel_rfl) (by kernel_rfl) (by kernel_rfl) (door_met os _)) ?_
  intro W base args ds gs before hval0 hW _ _ hL _
  have hval : ∀ (j : Nat) t v, Tryd.f3.params[j]? = some t → args[j]? = some v → Value.okWide Tryd.prog W .any base t v := hval0
  have hW' := hW
  obtain ⟨p, q, hA0, hV, rfl, hfz, hnd⟩ := hW
  have hA : DataW.TrodAll enc Tryd.prog W 0 (fun _ => true) true Tryd.f3.params.toList args.toList ds p := hA0
  rw [Tryd.params3] at hA hval
  obtain ⟨rfl, rfl, rfl⟩ := trodAll_none hA
  obtain ⟨rfl, rfl⟩ := trodVars_none hV
  clear hA0 hval0
  simp only [List.append_nil] at hW'
  refine (traceKnown_walk W (tab_of_laid hL)).mono fun e W' ⟨he, hb⟩ => ?_
  subst he
  exact ⟨_, rfl, _, _, _, [], [], [], hW', (trodAll_cons_mk (shut_bool Tryd.underlying4 _) trodAll_mk0), rfl, rfl, hb.frame _, fun h => by cases h⟩

theorem traceKnown_row : Rows.TraceKnownSaid :=
  OpenClaim.holds_of_wide 3 Tryd.f3 rfl rfl rfl rfl rfl rfl rfl ⟨rfl, rfl, rfl, rfl, rfl⟩ rfl rfl rfl rfl rfl (by kernel_rfl) Tryd.func3 (by kernel_rfl)
    (of_decide_eq_true (by kernel_rfl)) (by unfold Func.isWrapper; first | (rw [if_pos (by decide +kernel)]; kernel_rfl) | (rw [if_neg (by decide +kernel)]; exact ⟨rfl, rfl⟩))
    (fun os started H enc _ => traceKnown_lifted os started H enc)

/-- THE STATEMENT. -/
theorem traceKnown_holds : Rows.TraceKnownCardSaid :=
  Claim7.holds_tied_plain_at .later [] [.data, .data, .data] true (true, "1eda6df1707c50841f6cd8d75dc7a6165e0984391ccf47f29fcd572f8f1e9166") false
    traceKnown_row (fun _ h => by cases h) (by kernel_rfl) (fun _ h => by cases h) traceKnown_row_tie rfl ⟨rfl, rfl⟩ (by kernel_rfl) rfl
    (fun f fn hf hfn => by
      obtain rfl : f = 3 := Option.some.inj ((show Tryd.prog.funcNamed "plumbob/plumboblaw3.TraceKnown" = some 3 by kernel_rfl).symm.trans hf) |>.symm
      obtain rfl : fn = Tryd.f3 := (Option.some.inj (Tryd.func3.symm.trans hfn)).symm
      exact ⟨by kernel_rfl, fun j t ht => by
        rw [Tryd.params3] at ht
        simp at ht⟩)
    (by kernel_rfl)
#print axioms traceKnown_holds

end Go.Proofs.YtdibjidjocmfhaaDoor
