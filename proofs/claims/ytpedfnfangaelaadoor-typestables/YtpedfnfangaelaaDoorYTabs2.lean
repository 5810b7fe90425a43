/- TypesTables: structs are taken or refused, sizes and places are as the document says, for every list of structs and of texts. -/
import Derived.Test.YtpedfnfangaelaaDoorYTabs
import Derived.Test.YtpedfnfangaelaaDoorYOpen
import Derived.Deep.Strs
namespace Go.Proofs.YtpedfnfangaelaaDoor
open Go.ChangeShapes Go.WideShapes Go.ChangeAt Go.RowKit Go.Joins Go.Deep
set_option linter.unusedSimpArgs false
set_option linter.unusedVariables false
set_option maxRecDepth 100000

theorem open_ask {H : Type} {enc : TypeId × Value → H} {w : World} {r : Reach} {b0 : Nat} {v : Value} {d : DataW H} {p : List MemPlace} (hv : Value.okWide Tryd.prog w r b0 37 v) (h : DataW.Trod enc Tryd.prog w 0 (fun _ => true) true 37 v d p) (hw : Lt 37 d) : ∃ l, AskAt w v l ∧ ∀ s ∈ l, s.size ≤ 281474976710656 := by
  obtain ⟨a0, len0, cap0, rfl⟩ := okWide_slice Tryd.underlying37 hv
  obtain ⟨fuel, hf0⟩ := h
  have hf : DataW.trod enc Tryd.prog w 0 (fun _ => true) true fuel 37 [.slice a0 len0 cap0] = some (d, p) := hf0
  rcases open_strs Tryd.underlying37 Tryd.underlying9 cells9 hf with ⟨hcs, _⟩ | ⟨a, len, cap, m, Sx, hcs, hb, hl, hm, hmm, hx, hall⟩
  · simp at hcs
    obtain ⟨rfl, rfl, rfl⟩ := hcs
    exact ⟨[], ⟨none, 0, rfl, by decide, fun h => absurd rfl h⟩, fun s hs => by cases hs⟩
  · simp at hcs
    obtain ⟨rfl, rfl, rfl⟩ := hcs
    simp only [Prod.mk.injEq] at hx
    obtain ⟨rfl, _⟩ := hx
    have hlm : len0 ≤ m := by rw [hmm]; split <;> omega
    obtain ⟨hw1, hw2⟩ := Lt.slice Tryd.underlying37 hw
    refine ⟨(List.range len0).map Sx, ⟨some a, cap0, by simp, by simp; unfold maxLen at hm; omega, fun hne => ?_⟩, fun y hy => ?_⟩
    · have hpos : 0 < len0 := by
        rcases Nat.eq_zero_or_pos len0 with h0 | h0
        · exact absurd (by rw [h0]; rfl) hne
        · exact h0
      have ha := spot_none (hall 0 (by omega)).1
      refine ⟨a.block, a.off, by rw [← ha], fun i y hy => ?_⟩
      obtain ⟨hi, rfl⟩ := getElem?_map_range Sx hy
      have := (hall i (by omega)).1
      rw [ha, add_plain] at this
      exact this
    · simp only [List.mem_map, List.mem_range] at hy
      obtain ⟨i, hi, rfl⟩ := hy
      have hr : reachBytes ≤ 281474976710656 := by decide
      have h0 := hw2 _ (List.mem_map.2 ⟨i, by simpa using hi, rfl⟩) (Sx i).data.toList.length (by simp [DataW.weights])
      exact Nat.le_trans h0 hr

set_option maxRecDepth 100000 in
theorem typesTables_lifted (os : Os) (started : os.Started) (H : Type) (enc : TypeId × Value → H) :
    ReturnsInHanded {} Tryd.checked os 4 .any (fun w args => (Rows.typesTablesSpec.pre enc Tryd.prog Tryd.f4 [] false w args ∧ laidMetH Tryd.prog laidY w) ∧ sizedMet enc Tryd.prog Tryd.f4 (OpenSpec.ofChange Rows.typesTablesSpec) false w args)
      (Rows.typesTablesSpec.post enc Tryd.prog Tryd.f4 false true false false) := by
  refine returnsInHanded_of_change_and (C := Tryd.checked) (X := fun w _ => laidMetH Tryd.prog laidY w) (fun _ _ _ hh h => h.of_heap hh) own started (by kernel_rfl) Tryd.func4
    (ChangeSpec.witness_shaped (enc := enc) (C := Tryd.checked) (os := os) (X := fun w _ => laidMetH Tryd.prog laidY w) false (World.laidAll Tryd.prog os laidY) #[.slice none 0 0, .slice none 0 0] 8 (World.laidAll_os _ _ _) (World.shaped_of_ZipB (by kernel_rfl) (by kernel_rfl)) (by kernel_rfl) (by kernel_rfl) (by kernel_rfl) (by rw [MakeChecks.laidMetH_plain _ _ _ (by kernel_rfl)]; exact laidMet_laidAll _ (by kernel_rfl) (by kernel_rfl))) ?_
  intro W base args ds gs before hval0 hW _ hsz hL _
  have hval : ∀ (j : Nat) t v, Tryd.f4.params[j]? = some t → args[j]? = some v → Value.okWide Tryd.prog W .any base t v := hval0
  have hW' := hW
  obtain ⟨p, q, hA0, hV, rfl, hfz, hnd⟩ := hW
  have hA : DataW.TrodAll enc Tryd.prog W 0 (fun _ => true) true Tryd.f4.params.toList args.toList ds p := hA0
  rw [Tryd.params4] at hA hval
  obtain ⟨v0, vs0, d0, ds0, p0, q0, hargs, rfl, rfl, h0, r0⟩ := trodAll_cons hA
  obtain ⟨v1, vs1, d1, ds1, p1, q1, rfl, rfl, rfl, h1, r1⟩ := trodAll_cons r0
  obtain ⟨rfl, rfl, rfl⟩ := trodAll_nil r1
  obtain rfl : args = #[v0, v1] := by cases args; simp_all
  obtain ⟨rfl, rfl⟩ := trodVars_none hV
  have hlt0 : ∀ x ∈ p0, x.block < W.heap.size := fun x hx => by simpa using hW'.lt x (by simp [hx])
  have hlt1 : ∀ x ∈ p1, x.block < W.heap.size := fun x hx => by simpa using hW'.lt x (by simp [hx])
  have hargs0 : ∀ (W' : World), Below W.heap.size W W' → DataW.Trod enc Tryd.prog W' 0 (fun b => decide (b < W.heap.size)) true 27 v0 d0 p0 := fun W' hn => Below.trod laidOut (by kernel_rfl) (of_decide_eq_true (by kernel_rfl)) h0 hn hlt0
  have hargs1 : ∀ (W' : World), Below W.heap.size W W' → DataW.Trod enc Tryd.prog W' 0 (fun b => decide (b < W.heap.size)) true 37 v1 d1 p1 := fun W' hn => Below.trod laidOut (by kernel_rfl) (of_decide_eq_true (by kernel_rfl)) h1 hn hlt1
  have hlw0 : Lt 27 d0 := fun n hn => by have := List.all_eq_true.1 hsz n (by simp only [Tryd.params4, DataW.weightsEach, List.cons_append, List.nil_append, List.mem_append]; exact .inl hn); simpa using this
  have hlw1 : Lt 37 d1 := fun n hn => by have := List.all_eq_true.1 hsz n (by simp only [Tryd.params4, DataW.weightsEach, List.cons_append, List.nil_append, List.mem_append]; exact .inr (.inl hn)); simpa using this
  obtain ⟨sts, hst, hss⟩ : ∃ l, StAt W v0 l ∧ StS l := open_sl (hval 0 27 v0 rfl rfl) h0 hlw0
  obtain ⟨ask, hak, has⟩ : ∃ l, AskAt W v1 l ∧ ∀ s ∈ l, s.size ≤ 281474976710656 := open_ask (hval 1 37 v1 rfl rfl) h1 hlw1
  clear hA0 hval0
  simp only [List.append_nil] at hW'
  refine (typesTables_walk v0 v1 sts ask W hst hss hak has).mono fun e W' ⟨he, hb⟩ => ?_
  subst he
  exact ⟨_, rfl, _, _, _, [], _, [], hW', (trodAll_cons_mk (shut_bool Tryd.underlying4 _) trodAll_mk0), (trodAll_cons_mk (hargs0 _ hb) (trodAll_cons_mk (hargs1 _ hb) trodAll_mk0)), rfl, hb.frame _, fun h => by cases h⟩

theorem typesTables_row : Rows.TypesTablesSaid :=
  OpenClaim.holds_of_wide 4 Tryd.f4 rfl rfl rfl rfl rfl rfl rfl ⟨rfl, rfl, rfl, rfl, rfl⟩ rfl rfl rfl rfl rfl (by kernel_rfl) Tryd.func4 (by kernel_rfl)
    (of_decide_eq_true (by kernel_rfl)) (by unfold Func.isWrapper; first | (rw [if_pos (by decide +kernel)]; kernel_rfl) | (rw [if_neg (by decide +kernel)]; exact ⟨rfl, rfl⟩))
    (fun os started H enc _ => typesTables_lifted os started H enc)

/-- THE STATEMENT. -/
theorem typesTables_holds : Rows.TypesTablesCardSaid :=
  Claim7.holds_tied_plain_at .later [] [.data, .pinned] true (true, "29392686a52119d4eeb73c91770ab67103ffef7a474302fbb8fe089bd7741dec") false
    typesTables_row (fun _ h => by cases h) (by kernel_rfl) (fun _ h => by cases h) typesTables_row_tie rfl ⟨rfl, rfl⟩ (by kernel_rfl) rfl
    (fun f fn hf hfn => by
      obtain rfl : f = 4 := Option.some.inj ((show Tryd.prog.funcNamed "plumbob/plumboblaw6.TypesTables" = some 4 by kernel_rfl).symm.trans hf) |>.symm
      obtain rfl : fn = Tryd.f4 := (Option.some.inj (Tryd.func4.symm.trans hfn)).symm
      exact ⟨by kernel_rfl, fun j t ht => by
        rw [Tryd.params4] at ht
        have hm : t ∈ [27, 37] := by simpa using Array.mem_of_getElem? ht
        have hall : ([27, 37].all fun u => !Tryd.prog.wantsStandIn u) = true := by kernel_rfl
        exact (show Tryd.prog.wantsStandIn t = false by simpa using List.all_eq_true.1 hall t hm)⟩)
    (by kernel_rfl)
#print axioms typesTables_holds

end Go.Proofs.YtpedfnfangaelaaDoor
