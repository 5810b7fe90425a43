/- LexKnown: the examples of the chapter on words are cut as they are told: the law answers true. -/
import Derived.Test.YtabkaiaajghafaaDoorLFrame
namespace Go.Proofs.YtabkaiaajghafaaDoor
open Go.ChangeShapes Go.WideShapes Go.ChangeAt Go.RowKit Go.Joins Go.Deep
set_option linter.unusedSimpArgs false
set_option linter.unusedVariables false

set_option maxRecDepth 100000 in
set_option maxHeartbeats 8000000 in
theorem lexKnown_walk (w : World) (hl : LexTab w) (he : ErrTab w) : Calls Tryd.prog 3 #[] w (retP (.bool true) w) := by
  have HL : Hid (∀ W, Below w.heap.size w W → LexTab W ∧ ErrTab W) := fun W h => ⟨hl.keep h, he.keep h⟩
  have HB0 : Hid (Below w.heap.size w w) := Below.refl _ _
  clear hl he
  go_enter Tryd.func3, Tryd.ntmps3
  go_wp2_with fail
  refine (awake_any _ (HL.out _ HB0.out).1 (HL.out _ HB0.out).2).mono ?_
  rintro e w1 ⟨rfl, hb1⟩
  have HB1 : Hid (Below w.heap.size w w1) := bel_trans HB0.out hb1
  clear hb1 HB0
  go_wp2_with fail
  refine (words_bad _ 0 (1, 1) _ (HL.out _ HB1.out).1 (HL.out _ HB1.out).2 (by rw [lex_1a]) (by decide) (by decide) (by rfl)).mono ?_
  rintro e w2 ⟨rfl, hb2⟩
  have HB2 : Hid (Below w.heap.size w (w2.alloc (.cells #[.int .i64 1, .int .i64 1] 25))) := bel_alloc (bel_trans HB1.out hb2) _
  clear hb2 HB1
  go_wp2_with fail
  refine (words_bad _ 2 (2, 2) _ (HL.out _ HB2.out).1 (HL.out _ HB2.out).2 (by rw [lex_at]) (by decide) (by decide) (by rfl)).mono ?_
  rintro e w3 ⟨rfl, hb3⟩
  have HB3 : Hid (Below w.heap.size w (w3.alloc (.cells #[.int .i64 2, .int .i64 2] 25))) := bel_alloc (bel_trans HB2.out hb3) _
  have p0 : w3.cell? ⟨w2.heap.size, 0, none⟩ = some (.int .i64 1) := keep_cell hb3 (by go_simp)
  have p1 : w3.cell? ⟨w2.heap.size, 1, none⟩ = some (.int .i64 1) := keep_cell hb3 (by go_simp)
  have n23 : w2.heap.size < w3.heap.size := by have := hb3.size; simp at this; omega
  clear hb3 HB2
  go_wp2_with fail
  refine (words_bad _ 0 (1, 1) _ (HL.out _ HB3.out).1 (HL.out _ HB3.out).2 (by rw [lex_rem]) (by decide) (by decide) (by rfl)).mono ?_
  rintro e w4 ⟨rfl, hb4⟩
  have HB4 : Hid (Below w.heap.size w (w4.alloc (.cells #[.int .i64 1, .int .i64 1] 25))) := bel_alloc (bel_trans HB3.out hb4) _
  have p2 : w4.cell? ⟨w2.heap.size, 0, none⟩ = some (.int .i64 1) := keep_cell hb4 (by go_simp)
  have p3 : w4.cell? ⟨w2.heap.size, 1, none⟩ = some (.int .i64 1) := keep_cell hb4 (by go_simp)
  have q2 : w4.cell? ⟨w3.heap.size, 0, none⟩ = some (.int .i64 2) := keep_cell hb4 (by go_simp)
  have q3 : w4.cell? ⟨w3.heap.size, 1, none⟩ = some (.int .i64 2) := keep_cell hb4 (by go_simp)
  have n34 : w3.heap.size < w4.heap.size := by have := hb4.size; simp at this; omega
  have n24 : w2.heap.size < w4.heap.size := by omega
  clear hb4 HB3 p0 p1
  go_wp2_with fail
  refine (words_list _ _ _ (HL.out _ HB4.out).1 (HL.out _ HB4.out).2 lex_int (by decide) (by simp)).mono ?_
  rintro e w5 ⟨g, cap, rfl, hb5, hg1, hg2, hcap, hc⟩
  have HB5 : Hid (Below w.heap.size w w5) := bel_trans HB4.out hb5
  have x2 := hc 2 _ _ rfl
  have g0 : w5.cell? ⟨g, 10, none⟩ = some (.int .i64 3) := x2.c0
  have g3 : w5.cell? ⟨g, 13, none⟩ = some (.int .i64 3) := x2.c3
  have g4 : w5.cell? ⟨g, 14, none⟩ = some (.int .i64 4) := x2.c4
  have p4 : w5.cell? ⟨w2.heap.size, 0, none⟩ = some (.int .i64 1) := keep_cell hb5 (by go_simp)
  have p5 : w5.cell? ⟨w2.heap.size, 1, none⟩ = some (.int .i64 1) := keep_cell hb5 (by go_simp)
  have q4 : w5.cell? ⟨w3.heap.size, 0, none⟩ = some (.int .i64 2) := keep_cell hb5 (by go_simp)
  have q5 : w5.cell? ⟨w3.heap.size, 1, none⟩ = some (.int .i64 2) := keep_cell hb5 (by go_simp)
  have n45 : w4.heap.size < w5.heap.size := by have := hb5.size; simp at this; omega
  have n25 : w2.heap.size < w5.heap.size := by omega
  have n35 : w3.heap.size < w5.heap.size := by omega
  have l3 : (3 : Nat) ≤ cap := hcap
  clear hb5 HB4 x2 hc p2 p3 q2 q3 hcap hg1
  go_wp2
  go_ret
  exact ⟨rfl, bel_alloc HB5.out _⟩

set_option maxRecDepth 100000 in
theorem lexKnown_lifted (os : Os) (started : os.Started) (H : Type) (enc : TypeId × Value → H) :
    ReturnsInHanded {} Tryd.checked os 3 .any (fun w args => (Rows.lexKnownSpec.pre enc Tryd.prog Tryd.f3 [] false w args ∧ laidMetH Tryd.prog laid7 w) ∧ sizedMet enc Tryd.prog Tryd.f3 (OpenSpec.ofChange Rows.lexKnownSpec) false w args)
      (Rows.lexKnownSpec.post enc Tryd.prog Tryd.f3 false true false false) := by
  refine returnsInHanded_of_change_and (C := Tryd.checked) (X := fun w _ => laidMetH Tryd.prog laid7 w) (fun _ _ _ hh h => h.of_heap hh) own started (by kernel_rfl) Tryd.func3
    (ChangeSpec.witness_shaped (enc := enc) (C := Tryd.checked) (os := os) (X := fun w _ => laidMetH Tryd.prog laid7 w) false (World.doorLaid Tryd.prog 400 os) #[] 8 rfl (World.shaped_of_RefB (by kernel_rfl) (by kernel_rfl)) (by kernel_rfl) (by kernel_rfl) (by kernel_rfl) (door_met os _)) ?_
  intro W base args ds gs before hval0 hW _ _ hL _
  have hval : ∀ (j : Nat) t v, Tryd.f3.params[j]? = some t → args[j]? = some v → Value.okWide Tryd.prog W .any base t v := hval0
  have hW' := hW
  obtain ⟨p, q, hA0, hV, rfl, hfz, hnd⟩ := hW
  have hA : DataW.TrodAll enc Tryd.prog W 0 (fun _ => true) true Tryd.f3.params.toList args.toList ds p := hA0
  rw [Tryd.params3] at hA hval
  obtain ⟨rfl, rfl, rfl⟩ := trodAll_none hA
  obtain ⟨rfl, rfl⟩ := trodVars_none hV
  clear hA0 hval0
  simp only [List.append_nil] at hW'
  refine (lexKnown_walk W (tabs_of_laid hL).1 (tabs_of_laid hL).2).mono fun e W' ⟨he, hb⟩ => ?_
  subst he
  exact ⟨_, rfl, _, _, _, [], [], [], hW', (trodAll_cons_mk (shut_bool Tryd.underlying4 _) trodAll_mk0), rfl, rfl, hb.frame _, fun h => by cases h⟩

theorem lexKnown_row : Rows.LexKnownSaid :=
  OpenClaim.holds_of_wide 3 Tryd.f3 rfl rfl rfl rfl rfl rfl rfl ⟨rfl, rfl, rfl, rfl, rfl⟩ rfl rfl rfl rfl rfl (by kernel_rfl) Tryd.func3 (by kernel_rfl)
    (of_decide_eq_true (by kernel_rfl)) (by unfold Func.isWrapper; first | (rw [if_pos (by decide +kernel)]; kernel_rfl) | (rw [if_neg (by decide +kernel)]; exact ⟨rfl, rfl⟩))
    (fun os started H enc _ => lexKnown_lifted os started H enc)

/-- THE STATEMENT. -/
theorem lexKnown_holds : Rows.LexKnownCardSaid :=
  Claim7.holds_tied_plain_at .later [] [.data, .data, .data, .sentinel, .sentinel, .data, .data] true (true, "a2661baaf88c53e237696182aad5fe305074b58c818a1835c7059ad1bd0741a2") true
    lexKnown_row (fun _ h => by cases h) (by kernel_rfl) (fun _ h => by cases h) lexKnown_row_tie rfl ⟨rfl, rfl⟩ (by kernel_rfl) rfl
    (fun f fn hf hfn => by
      obtain rfl : f = 3 := Option.some.inj ((show Tryd.prog.funcNamed "plumbob/plumboblaw4.LexKnown" = some 3 by kernel_rfl).symm.trans hf) |>.symm
      obtain rfl : fn = Tryd.f3 := (Option.some.inj (Tryd.func3.symm.trans hfn)).symm
      exact ⟨by kernel_rfl, fun j t ht => by
        rw [Tryd.params3] at ht
        simp at ht⟩)
    (by kernel_rfl)
#print axioms lexKnown_holds

end Go.Proofs.YtabkaiaajghafaaDoor
