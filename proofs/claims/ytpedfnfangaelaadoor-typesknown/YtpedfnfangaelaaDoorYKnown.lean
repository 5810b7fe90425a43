/- TypesKnown: the examples of chapter 6 answer as they are told. -/
import Derived.Test.YtpedfnfangaelaaDoorYFrame
namespace Go.Proofs.YtpedfnfangaelaaDoor
open Go.ChangeShapes Go.WideShapes Go.ChangeAt Go.RowKit Go.Joins Go.Deep
set_option linter.unusedSimpArgs false
set_option linter.unusedVariables false

theorem row_getN {w : World} {base e size n : Nat} {v : Value} {xs : List Value} (h : w.ownsRow base e size v n xs) {g cap m : Nat} (hv : v = .slice (some ⟨g, 0, none⟩) m cap) {j : Nat} {u : Value} (hj : xs[j]? = some u) : w.cell? ⟨g, j, none⟩ = some u := by
  obtain ⟨hl, ⟨e0, _⟩ | ⟨g2, c2, cur, e0, hb, hh, h4, h5, h6, h7⟩⟩ := h
  · rw [e0] at hv; cases hv
  · rw [e0] at hv
    cases hv
    refine heap_cell hh ?_
    rw [← h7, List.getElem?_take] at hj
    split at hj
    · simpa using hj
    · cases hj
def tab0 : Tab := ⟨[], []⟩
theorem new_two : newF (sampleL ++ sampleL) = (5, 1, [shpP]) := by kernel_rfl
theorem new_nil : newF [] = (0, 0, []) := by kernel_rfl
theorem size_void : szF tab0 ⟨#[118, 111, 105, 100]⟩ = (0, 0, 5) := by kernel_rfl
theorem size_big : szF tab0 ⟨#[105, 110, 116, 91, 50, 48, 48, 48, 48, 93]⟩ = (0, 0, 2) := by kernel_rfl
theorem shape_none : shF tab0 ⟨#[112]⟩ = (⟨[], 0, 0⟩, false) := by kernel_rfl
theorem join_ip : joinS ⟨#[105, 110, 116]⟩ ⟨#[105, 110, 116, 42]⟩ = (⟨#[]⟩, false) := by kernel_rfl
theorem elem_i : elF ⟨#[105, 110, 116]⟩ = (⟨#[]⟩, false) := by kernel_rfl
theorem good_0 : GoodT tab0 := fun x hx => by simp [tab0] at hx
theorem two_s : StS (sampleL ++ sampleL) := fun x hx => by
  rw [List.mem_append] at hx
  exact hx.elim (sample_s x) (sample_s x)
theorem fields_of {w : World} {f g : Nat} (h : SampleAt w f g) : FdAt w (.slice (some ⟨f, 0, none⟩) 4 4) [⟨⟨#[99]⟩, ⟨#[99, 104, 97, 114]⟩⟩, ⟨⟨#[105]⟩, ⟨#[105, 110, 116]⟩⟩, ⟨⟨#[100]⟩, ⟨#[99, 104, 97, 114]⟩⟩, ⟨⟨#[108]⟩, ⟨#[108, 111, 110, 103]⟩⟩] := by
  obtain ⟨a, cap, e, _, hc⟩ := sample_st w w f g h.1 h.2
  cases e
  obtain ⟨b, off, e, hc⟩ := hc (by simp [sampleL])
  cases e
  obtain ⟨c0, fv, c1, c2⟩ := hc 0 _ rfl
  rw [heap_cell (o := 1) (v := .slice (some ⟨f, 0, none⟩) 4 4) h.2 (by rfl)] at c1
  cases c1
  exact c2
theorem FdAt.of_heap {w w' : World} {v : Value} {l : List Fd} (h : FdAt w v l) (hb : ∀ b, v.ownBlock = some b → w'.heap[b]? = w.heap[b]?) : FdAt w' v l := by
  obtain ⟨a, cap, rfl, h1, h3⟩ := h
  refine ⟨a, cap, rfl, h1, fun hl => ?_⟩
  obtain ⟨b, off, rfl, hc⟩ := h3 hl
  have e := hb b rfl
  refine ⟨b, off, rfl, fun i x hx => ?_⟩
  have := hc i x hx
  exact ⟨(World.cell?_of_block e).trans this.1, (World.cell?_of_block e).trans this.2⟩
theorem two_at {w : World} {base f1 f2 g cap : Nat} {g1 g2 : Nat} (h : w.ownsRow base 40 2 (.slice (some ⟨g, 0, none⟩) 2 cap) 2 [.string ⟨#[112]⟩, .slice (some ⟨f1, 0, none⟩) 4 4, .string ⟨#[112]⟩, .slice (some ⟨f2, 0, none⟩) 4 4]) (h1 : FdAt w (.slice (some ⟨f1, 0, none⟩) 4 4) [⟨⟨#[99]⟩, ⟨#[99, 104, 97, 114]⟩⟩, ⟨⟨#[105]⟩, ⟨#[105, 110, 116]⟩⟩, ⟨⟨#[100]⟩, ⟨#[99, 104, 97, 114]⟩⟩, ⟨⟨#[108]⟩, ⟨#[108, 111, 110, 103]⟩⟩]) (h2 : FdAt w (.slice (some ⟨f2, 0, none⟩) 4 4) [⟨⟨#[99]⟩, ⟨#[99, 104, 97, 114]⟩⟩, ⟨⟨#[105]⟩, ⟨#[105, 110, 116]⟩⟩, ⟨⟨#[100]⟩, ⟨#[99, 104, 97, 114]⟩⟩, ⟨⟨#[108]⟩, ⟨#[108, 111, 110, 103]⟩⟩]) : StAt w (.slice (some ⟨g, 0, none⟩) 2 cap) (sampleL ++ sampleL) := by
  refine ⟨some ⟨g, 0, none⟩, cap, rfl, by decide, fun _ => ⟨g, 0, rfl, fun i x hx => ?_⟩⟩
  match i, hx with
  | 0, hx =>
    simp only [sampleL, List.cons_append, List.nil_append, List.getElem?_cons_zero, Option.some.injEq] at hx
    subst hx
    exact ⟨row_getN h rfl (j := 0) rfl, _, row_getN h rfl (j := 1) rfl, h1⟩
  | 1, hx =>
    simp only [sampleL, List.cons_append, List.nil_append, List.getElem?_cons_succ, List.getElem?_cons_zero, Option.some.injEq] at hx
    subst hx
    exact ⟨row_getN h rfl (j := 2) rfl, _, row_getN h rfl (j := 3) rfl, h2⟩
  | i + 2, hx => simp [sampleL] at hx
theorem infoSt : (Tryd.prog.info? 40).map (fun i => (i.zero, i.size, i.bytes)) = some (some (.agg #[.string ⟨#[]⟩, .slice none 0 0]), 2, 40) := by kernel_rfl
set_option maxRecDepth 100000 in
set_option maxHeartbeats 4000000 in
theorem typesKnown_walk (w : World) : Calls Tryd.prog 3 #[] w (retP (.bool true) w) := by
  have HS : Hid (∀ w, Calls Tryd.prog 9 #[] w fun e w' => e = .returned (.slice (some ⟨w.heap.size + 1, 0, none⟩) 1 1) ∧ SampleAt w' w.heap.size (w.heap.size + 1) ∧ Below w.heap.size w w') := sample_to
  have HN1 : Hid (∀ w' v, StAt w' v (sampleL ++ sampleL) → Calls Tryd.prog 8 #[v] w' fun e w2 => e = .returned (.tuple #[.pointer none, .int .i64 1, .int .i64 5]) ∧ Below w'.heap.size w' w2) := fun w' v h => (new_any v _ w' h two_s).mono (fun e w2 h2 => by
    rw [new_two] at h2
    exact ⟨h2.2.1 (by decide), h2.1⟩)
  have HN0 : Hid (∀ w', Calls Tryd.prog 8 #[.slice none 0 0] w' fun e w2 => Below w'.heap.size w' w2 ∧ ∃ tb, e = .returned (.tuple #[.pointer (some ⟨tb, 0, none⟩), .int .i64 0, .int .i64 0]) ∧ TabAt w2 tb tab0) := fun w' => (new_any _ [] w' ⟨none, 0, rfl, by decide, fun h => absurd rfl h⟩ (fun x hx => by simp at hx)).mono (fun e w2 h2 => by
    rw [new_nil] at h2
    obtain ⟨tb, h3, h4, _⟩ := h2.2.2 rfl
    exact ⟨h2.1, tb, h3, h4⟩)
  have HZ1 : Hid (∀ w' tb, TabAt w' tb tab0 → Calls Tryd.prog 10 #[.pointer (some ⟨tb, 0, none⟩), .string ⟨#[118, 111, 105, 100]⟩] w' (retP (.tuple #[.int .i64 0, .int .i64 0, .int .i64 5]) w')) := fun w' tb h => by
    have := size_any tb tab0 ⟨#[118, 111, 105, 100]⟩ (by decide) w' h good_0
    rw [size_void] at this
    exact this
  have HZ2 : Hid (∀ w' tb, TabAt w' tb tab0 → Calls Tryd.prog 10 #[.pointer (some ⟨tb, 0, none⟩), .string ⟨#[105, 110, 116, 91, 50, 48, 48, 48, 48, 93]⟩] w' (retP (.tuple #[.int .i64 0, .int .i64 0, .int .i64 2]) w')) := fun w' tb h => by
    have := size_any tb tab0 ⟨#[105, 110, 116, 91, 50, 48, 48, 48, 48, 93]⟩ (by decide) w' h good_0
    rw [size_big] at this
    exact this
  have HL : Hid (∀ w' tb, TabAt w' tb tab0 → Calls Tryd.prog 11 #[.pointer (some ⟨tb, 0, none⟩), .string ⟨#[112]⟩] w' (retLy [] false w')) := fun w' tb h => by
    have := layout_any tb tab0 ⟨#[112]⟩ (by decide) w' h (by rw [shape_none]; intro h; cases h)
    rw [shape_none] at this
    exact this
  have HE : Hid (∀ w', Calls Tryd.prog 13 #[.string ⟨#[105, 110, 116]⟩] w' (retP (.tuple #[.string ⟨#[]⟩, .bool false]) w')) := fun w' => by
    have := elem_any ⟨#[105, 110, 116]⟩ (by decide) w'
    rw [elem_i] at this
    exact this
  have HJ : Hid (∀ w', Calls Tryd.prog 12 #[.string ⟨#[105, 110, 116]⟩, .string ⟨#[105, 110, 116, 42]⟩] w' fun e w2 => e = .returned (.tuple #[.string ⟨#[]⟩, .bool false]) ∧ w2 = w') := fun w' => by
    have := join_any ⟨#[105, 110, 116]⟩ ⟨#[105, 110, 116, 42]⟩ w'
    rw [join_ip] at this
    exact this
  obtain ⟨i0, hi, hz0, hz1, hz2⟩ := info_parts infoSt
  have HI : Hid (Tryd.prog.info? 40 = some i0 ∧ i0.zero = some (.agg #[.string ⟨#[]⟩, .slice none 0 0]) ∧ i0.size = 2 ∧ i0.bytes = 40) := ⟨hi, hz0, hz1, hz2⟩
  clear hi hz0 hz1 hz2
  go_enter Tryd.func3, Tryd.ntmps3
  go_wp2_with fail
  refine (awake_any _).mono ?_
  rintro e w0 ⟨rfl, hb0⟩
  dsimp only
  go_wp2_with fail
  refine (HS.out _).mono ?_
  rintro e w1 ⟨rfl, hs1, hb1⟩
  dsimp only
  have H1 : Hid (SampleAt w1 w0.heap.size (w0.heap.size + 1) ∧ Below w.heap.size w w1) := ⟨hs1, bel_trans hb0 hb1⟩
  have hws : w.heap.size ≤ w0.heap.size + 1 := by have := hb0.size; omega
  clear hs1 hb1 hb0
  go_wp2_with fail
  refine (HS.out _).mono ?_
  rintro e w2 ⟨rfl, hs2, hb2⟩
  dsimp only
  have hz : w0.heap.size + 1 < w1.heap.size := (Array.getElem?_eq_some_iff.1 H1.out.1.2).1
  have hz2 : w1.heap.size + 1 < w2.heap.size := (Array.getElem?_eq_some_iff.1 hs2.2).1
  have H2 : Hid (SampleAt w2 w0.heap.size (w0.heap.size + 1) ∧ SampleAt w2 w1.heap.size (w1.heap.size + 1) ∧ Below w.heap.size w w2) := ⟨⟨keep_heap hb2 H1.out.1.1, keep_heap hb2 H1.out.1.2⟩, hs2, bel_trans H1.out.2 hb2⟩
  have HOW : Hid (w2.ownsRow w.heap.size 40 2 (.slice (some ⟨w0.heap.size + 1, 0, none⟩) 1 1) 1 [.string ⟨#[112]⟩, .slice (some ⟨w0.heap.size, 0, none⟩) 4 4]) := ⟨rfl, .inr ⟨w0.heap.size + 1, 1, _, rfl, hws, H2.out.1.2, Nat.le_refl _, by unfold maxLen; omega, rfl, rfl⟩⟩
  clear H1 hb2 hs2
  go_wp2_with (at_builtin; refine wpList_append_lies _ (by rfl) _ _ 27 (by rfl) w.heap.size 40 i0 (.agg #[.string ⟨#[]⟩, .slice none 0 0]) 2 40 Tryd.underlying27 HI.out.1 HI.out.2.1 HI.out.2.2.1 HI.out.2.2.2 rfl (by omega) (.slice (some ⟨w0.heap.size + 1, 0, none⟩) 1 1) 1 [.string ⟨#[112]⟩, .slice (some ⟨w0.heap.size, 0, none⟩) 4 4] (by rfl) HOW.out ⟨w1.heap.size + 1, 0, none⟩ 1 1 [.string ⟨#[112]⟩, .slice (some ⟨w1.heap.size, 0, none⟩) 4 4] (by rfl) (by rfl) (World.news_of_block H2.out.2.1.2) ?c2 (by omega) ?c3 ?c4 (by omega) w2.heap.size rfl ?_)
  case c2 => intro u hu; simp at hu; rcases hu with rfl | rfl <;> rfl
  case c3 => unfold maxLen; omega
  case c4 => omega
  intro g cap w3 hown hgrow hat hlt
  have hb3 : Below w.heap.size w w3 := H2.out.2.2.grown hgrow (by have := H2.out.2.2.size; omega) (by intro k hk; simp [Value.ownBlock] at hk; omega)
  have H3 : Hid (StAt w3 (.slice (some ⟨g, 0, none⟩) 2 cap) (sampleL ++ sampleL) ∧ Below w.heap.size w w3) := by
    refine ⟨two_at (g1 := 0) (g2 := 0) hown ?_ ?_, hb3⟩
    · refine FdAt.of_heap (fields_of H2.out.1) (fun b hb => ?_)
      simp only [Value.ownBlock, Option.some.injEq] at hb
      subst hb
      exact hgrow.block _ (by omega) (by simp [Value.ownBlock])
    · refine FdAt.of_heap (fields_of H2.out.2.1) (fun b hb => ?_)
      simp only [Value.ownBlock, Option.some.injEq] at hb
      subst hb
      exact hgrow.block _ (by omega) (by simp [Value.ownBlock]; omega)
  clear hown hgrow hat hlt hb3 HOW H2
  go_wp2_with fail
  refine (HN1.out _ _ H3.out.1).mono ?_
  rintro e w4 ⟨rfl, hb4⟩
  dsimp only
  have H4 : Hid (Below w.heap.size w w4) := bel_trans H3.out.2 hb4
  clear hb4 H3
  go_wp2_with fail
  refine (HN0.out _).mono ?_
  rintro e w5 ⟨hb5, tb, rfl, ht5⟩
  dsimp only
  have H5 : Hid (TabAt w5 tb tab0 ∧ Below w.heap.size w w5) := ⟨ht5, bel_trans H4.out hb5⟩
  clear hb5 ht5 H4
  go_wp2_with fail
  refine (HZ1.out _ _ H5.out.1).mono ?_
  rintro e w6 ⟨rfl, hb6⟩
  dsimp only
  have H6 : Hid (TabAt w6 tb tab0 ∧ Below w.heap.size w w6) := ⟨H5.out.1.keep hb6, bel_trans H5.out.2 hb6⟩
  clear hb6 H5
  go_wp2_with fail
  refine (HZ2.out _ _ H6.out.1).mono ?_
  rintro e w7 ⟨rfl, hb7⟩
  dsimp only
  have H7 : Hid (TabAt w7 tb tab0 ∧ Below w.heap.size w w7) := ⟨H6.out.1.keep hb7, bel_trans H6.out.2 hb7⟩
  clear hb7 H6
  go_wp2_with fail
  refine (HL.out _ _ H7.out.1).mono ?_
  rintro e w8 ⟨lv, rfl, hp8, hb8⟩
  have H8 : Hid (Below w.heap.size w w8) := bel_trans H7.out.2 hb8
  clear hb8 H7 hp8
  simp only [Bool.false_eq_true, if_false]
  go_wp2_with fail
  refine (HJ.out _).mono ?_
  rintro e w9 ⟨rfl, hw⟩
  replace hw := hw.symm
  subst hw
  dsimp only
  go_wp2_with fail
  refine (HE.out _).mono ?_
  rintro e w9 ⟨rfl, hb9⟩
  go_wp2
  go_ret
  exact ⟨rfl, bel_trans H8.out hb9⟩

set_option maxRecDepth 100000 in
theorem typesKnown_lifted (os : Os) (started : os.Started) (H : Type) (enc : TypeId × Value → H) :
    ReturnsInHanded {} Tryd.checked os 3 .any (fun w args => (Rows.typesKnownSpec.pre enc Tryd.prog Tryd.f3 [] false w args ∧ laidMetH Tryd.prog laidY w) ∧ sizedMet enc Tryd.prog Tryd.f3 (OpenSpec.ofChange Rows.typesKnownSpec) false w args)
      (Rows.typesKnownSpec.post enc Tryd.prog Tryd.f3 false true false false) := by
  refine returnsInHanded_of_change_and (C := Tryd.checked) (X := fun w _ => laidMetH Tryd.prog laidY w) (fun _ _ _ hh h => h.of_heap hh) own started (by kernel_rfl) Tryd.func3
    (ChangeSpec.witness_shaped (enc := enc) (C := Tryd.checked) (os := os) (X := fun w _ => laidMetH Tryd.prog laidY w) false (World.laidAll Tryd.prog os laidY) #[] 8 (World.laidAll_os _ _ _) (World.shaped_of_ZipB (by kernel_rfl) (by kernel_rfl)) (by kernel_rfl) (by kernel_rfl) (by kernel_rfl) (by rw [MakeChecks.laidMetH_plain _ _ _ (by kernel_rfl)]; exact laidMet_laidAll _ (by kernel_rfl) (by kernel_rfl))) ?_
  intro W base args ds gs before hval0 hW _ _ hL hsz
  have hval : ∀ (j : Nat) t v, Tryd.f3.params[j]? = some t → args[j]? = some v → Value.okWide Tryd.prog W .any base t v := hval0
  have hW' := hW
  obtain ⟨p, q, hA0, hV, rfl, hfz, hnd⟩ := hW
  have hA : DataW.TrodAll enc Tryd.prog W 0 (fun _ => true) true Tryd.f3.params.toList args.toList ds p := hA0
  rw [Tryd.params3] at hA hval
  obtain ⟨rfl, rfl, rfl⟩ := trodAll_none hA
  obtain ⟨rfl, rfl⟩ := trodVars_none hV
  clear hA0 hval0
  simp only [List.append_nil] at hW'
  refine (typesKnown_walk W).mono fun e W' ⟨he, hb⟩ => ?_
  subst he
  exact ⟨_, rfl, _, _, _, [], [], [], hW', (trodAll_cons_mk (shut_bool Tryd.underlying4 _) trodAll_mk0), rfl, rfl, hb.frame _, fun h => by cases h⟩

theorem typesKnown_row : Rows.TypesKnownSaid :=
  OpenClaim.holds_of_wide 3 Tryd.f3 rfl rfl rfl rfl rfl rfl rfl ⟨rfl, rfl, rfl, rfl, rfl⟩ rfl rfl rfl rfl rfl (by kernel_rfl) Tryd.func3 (by kernel_rfl)
    (of_decide_eq_true (by kernel_rfl)) (by unfold Func.isWrapper; first | (rw [if_pos (by decide +kernel)]; kernel_rfl) | (rw [if_neg (by decide +kernel)]; exact ⟨rfl, rfl⟩))
    (fun os started H enc _ => typesKnown_lifted os started H enc)

/-- THE STATEMENT. -/
theorem typesKnown_holds : Rows.TypesKnownCardSaid :=
  Claim7.holds_tied_plain_at .later [] [.data, .pinned] true (true, "29392686a52119d4eeb73c91770ab67103ffef7a474302fbb8fe089bd7741dec") false
    typesKnown_row (fun _ h => by cases h) (by kernel_rfl) (fun _ h => by cases h) typesKnown_row_tie rfl ⟨rfl, rfl⟩ (by kernel_rfl) rfl
    (fun f fn hf hfn => by
      obtain rfl : f = 3 := Option.some.inj ((show Tryd.prog.funcNamed "plumbob/plumboblaw6.TypesKnown" = some 3 by kernel_rfl).symm.trans hf) |>.symm
      obtain rfl : fn = Tryd.f3 := (Option.some.inj (Tryd.func3.symm.trans hfn)).symm
      exact ⟨by kernel_rfl, fun j t ht => by
        rw [Tryd.params3] at ht
        simp at ht⟩)
    (by kernel_rfl)
#print axioms typesKnown_holds

end Go.Proofs.YtpedfnfangaelaaDoor
