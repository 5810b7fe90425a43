/- TypesJoins: the type that two numbers are reckoned in is what the document says, in either order, for every two texts. -/
import Derived.Test.YtpedfnfangaelaaDoorYFrame
namespace Go.Proofs.YtpedfnfangaelaaDoor
open Go.ChangeShapes Go.WideShapes Go.ChangeAt Go.RowKit Go.Joins Go.Deep
set_option linter.unusedSimpArgs false
set_option linter.unusedVariables false

set_option maxHeartbeats 1000000 in
theorem rInteger_any (s : ByteArray) (w : World) : Calls Tryd.prog 20 #[.string s] w fun e w' => e = .returned (.bool (intS s)) ∧ w' = w := by
  cases h1 : isS s cChar
  · cases h2 : isS s cInt
    · have e : intS s = isS s cLong := by simp only [intS, h1, h2, Bool.false_or]
      rw [e]
      simp only [isS_eq, cChar, cInt, cLong] at h1 h2 ⊢
      go_enter Tryd.func20, Tryd.ntmps20
      go_wp2
      go_ret
      exact ⟨rfl, rfl⟩
    · have e : intS s = true := by simp only [intS, h1, h2, Bool.false_or, Bool.true_or]
      rw [e]
      simp only [isS_eq, cChar, cInt, cLong] at h1 h2
      go_enter Tryd.func20, Tryd.ntmps20
      go_wp2
      go_ret
      exact ⟨rfl, rfl⟩
  · have e : intS s = true := by simp only [intS, h1, Bool.true_or]
    rw [e]
    simp only [isS_eq, cChar, cInt, cLong] at h1
    go_enter Tryd.func20, Tryd.ntmps20
    go_wp2
    go_ret
    exact ⟨rfl, rfl⟩
set_option maxHeartbeats 1000000 in
theorem rJoin_any (a b : ByteArray) (w : World) : Calls Tryd.prog 22 #[.string a, .string b] w fun e w' => e = .returned (.tuple #[.string (joinS a b).1, .bool (joinS a b).2]) ∧ w' = w := by
  have HA : Hid (∀ w, Calls Tryd.prog 20 #[.string a] w fun e w' => e = .returned (.bool (intS a)) ∧ w' = w) := fun w => rInteger_any a w
  have HB : Hid (∀ w, Calls Tryd.prog 20 #[.string b] w fun e w' => e = .returned (.bool (intS b)) ∧ w' = w) := fun w => rInteger_any b w
  unfold joinS
  generalize intS a = ia at *
  generalize intS b = ib at *
  cases ia
  · simp only [Bool.false_and, Bool.false_eq_true, if_false]
    go_enter Tryd.func22, Tryd.ntmps22
    go_wp2_with (go_at_call 20; refine (HA.out _).mono ?_; rintro e w1 ⟨rfl, rfl⟩)
    go_ret2
    exact ⟨rfl, rfl⟩
  cases ib
  · simp only [Bool.and_false, Bool.false_eq_true, if_false]
    go_enter Tryd.func22, Tryd.ntmps22
    go_wp2_with (go_at_call 20; first | (refine (HA.out _).mono ?_; rintro e w1 ⟨rfl, rfl⟩; clear HA) | (refine (HB.out _).mono ?_; rintro e w1 ⟨rfl, rfl⟩))
    go_ret2
    exact ⟨rfl, rfl⟩
  simp only [Bool.and_self, if_true]
  cases h1 : isS a cLong
  · cases h2 : isS b cLong
    · simp only [Bool.or_self, Bool.false_eq_true, if_false, bInt]
      simp only [isS_eq, cLong] at h1 h2
      go_enter Tryd.func22, Tryd.ntmps22
      go_wp2_with (go_at_call 20; first | (refine (HA.out _).mono ?_; rintro e w1 ⟨rfl, rfl⟩; clear HA) | (refine (HB.out _).mono ?_; rintro e w1 ⟨rfl, rfl⟩))
      go_ret2
      exact ⟨rfl, rfl⟩
    · simp only [Bool.false_or, if_true, bLong]
      simp only [isS_eq, cLong] at h1 h2
      go_enter Tryd.func22, Tryd.ntmps22
      go_wp2_with (go_at_call 20; first | (refine (HA.out _).mono ?_; rintro e w1 ⟨rfl, rfl⟩; clear HA) | (refine (HB.out _).mono ?_; rintro e w1 ⟨rfl, rfl⟩))
      go_ret2
      exact ⟨rfl, rfl⟩
  · simp only [Bool.true_or, if_true, bLong]
    simp only [isS_eq, cLong] at h1
    go_enter Tryd.func22, Tryd.ntmps22
    go_wp2_with (go_at_call 20; first | (refine (HA.out _).mono ?_; rintro e w1 ⟨rfl, rfl⟩; clear HA) | (refine (HB.out _).mono ?_; rintro e w1 ⟨rfl, rfl⟩))
    go_ret2
    exact ⟨rfl, rfl⟩
theorem join_comm (a b : ByteArray) : joinS b a = joinS a b := by
  unfold joinS
  rw [Bool.and_comm, Bool.or_comm]
set_option maxHeartbeats 1000000 in
theorem typesJoins_walk (a b : ByteArray) (w : World) : Calls Tryd.prog 5 #[.string a, .string b] w (retP (.bool true) w) := by
  have H1 : Hid (∀ w, Calls Tryd.prog 12 #[.string a, .string b] w fun e w' => e = .returned (.tuple #[.string (joinS a b).1, .bool (joinS a b).2]) ∧ w' = w) := fun w => join_any a b w
  have H2 : Hid (∀ w, Calls Tryd.prog 22 #[.string a, .string b] w fun e w' => e = .returned (.tuple #[.string (joinS a b).1, .bool (joinS a b).2]) ∧ w' = w) := fun w => rJoin_any a b w
  have H3 : Hid (∀ w, Calls Tryd.prog 12 #[.string b, .string a] w fun e w' => e = .returned (.tuple #[.string (joinS a b).1, .bool (joinS a b).2]) ∧ w' = w) := fun w => join_comm a b ▸ join_any b a w
  generalize joinS a b = j at *
  obtain ⟨x, ok⟩ := j
  dsimp only at *
  go_enter Tryd.func5, Tryd.ntmps5
  go_wp2_with fail
  refine (awake_any _).mono ?_
  rintro e w1 ⟨rfl, hb1⟩
  dsimp only
  go_wp2_with fail
  refine (H1.out _).mono ?_
  rintro e w2 ⟨rfl, hw⟩
  replace hw := hw.symm
  subst hw
  dsimp only
  go_wp2_with fail
  refine (H2.out _).mono ?_
  rintro e w2 ⟨rfl, hw⟩
  replace hw := hw.symm
  subst hw
  dsimp only
  go_wp2_with fail
  refine (H3.out _).mono ?_
  rintro e w2 ⟨rfl, hw⟩
  replace hw := hw.symm
  subst hw
  cases ok
  all_goals
    go_wp2
    go_ret
    exact ⟨rfl, hb1⟩

set_option maxRecDepth 100000 in
theorem typesJoins_lifted (os : Os) (started : os.Started) (H : Type) (enc : TypeId × Value → H) :
    ReturnsInHanded {} Tryd.checked os 5 .any (fun w args => (Rows.typesJoinsSpec.pre enc Tryd.prog Tryd.f5 [] false w args ∧ laidMetH Tryd.prog laidY w) ∧ sizedMet enc Tryd.prog Tryd.f5 (OpenSpec.ofChange Rows.typesJoinsSpec) false w args)
      (Rows.typesJoinsSpec.post enc Tryd.prog Tryd.f5 false true false false) := by
  refine returnsInHanded_of_change_and (C := Tryd.checked) (X := fun w _ => laidMetH Tryd.prog laidY w) (fun _ _ _ hh h => h.of_heap hh) own started (by kernel_rfl) Tryd.func5
    (ChangeSpec.witness_shaped (enc := enc) (C := Tryd.checked) (os := os) (X := fun w _ => laidMetH Tryd.prog laidY w) false (World.laidAll Tryd.prog os laidY) #[.string ⟨#[]⟩, .string ⟨#[]⟩] 8 (World.laidAll_os _ _ _) (World.shaped_of_ZipB (by kernel_rfl) (by kernel_rfl)) (by kernel_rfl) (by kernel_rfl) (by kernel_rfl) (by rw [MakeChecks.laidMetH_plain _ _ _ (by kernel_rfl)]; exact laidMet_laidAll _ (by kernel_rfl) (by kernel_rfl))) ?_
  intro W base args ds gs before hval0 hW _ _ hL hsz
  have hval : ∀ (j : Nat) t v, Tryd.f5.params[j]? = some t → args[j]? = some v → Value.okWide Tryd.prog W .any base t v := hval0
  have hW' := hW
  obtain ⟨p, q, hA0, hV, rfl, hfz, hnd⟩ := hW
  have hA : DataW.TrodAll enc Tryd.prog W 0 (fun _ => true) true Tryd.f5.params.toList args.toList ds p := hA0
  rw [Tryd.params5] at hA hval
  obtain ⟨v0, vs0, d0, ds0, p0, q0, hargs, rfl, rfl, h0, r0⟩ := trodAll_cons hA
  obtain ⟨v1, vs1, d1, ds1, p1, q1, rfl, rfl, rfl, h1, r1⟩ := trodAll_cons r0
  obtain ⟨rfl, rfl, rfl⟩ := trodAll_nil r1
  obtain rfl : args = #[v0, v1] := by cases args; simp_all
  obtain ⟨rfl, rfl⟩ := trodVars_none hV
  obtain ⟨a, rfl, rfl, rfl, hla⟩ := Go.ChangeMaps.open_string Tryd.underlying9 (hval 0 9 v0 rfl rfl) h0
  obtain ⟨b, rfl, rfl, rfl, hlb⟩ := Go.ChangeMaps.open_string Tryd.underlying9 (hval 1 9 v1 rfl rfl) h1
  clear hA0 hval0
  simp only [List.append_nil] at hW'
  refine (typesJoins_walk a b W).mono fun e W' ⟨he, hb⟩ => ?_
  subst he
  exact ⟨_, rfl, _, _, _, [], _, [], hW', (trodAll_cons_mk (shut_bool Tryd.underlying4 _) trodAll_mk0), (trodAll_cons_mk (Go.ChangeMaps.shut_string Tryd.underlying9 hla) (trodAll_cons_mk (Go.ChangeMaps.shut_string Tryd.underlying9 hlb) trodAll_mk0)), rfl, hb.frame _, fun h => by cases h⟩

theorem typesJoins_row : Rows.TypesJoinsSaid :=
  OpenClaim.holds_of_wide 5 Tryd.f5 rfl rfl rfl rfl rfl rfl rfl ⟨rfl, rfl, rfl, rfl, rfl⟩ rfl rfl rfl rfl rfl (by kernel_rfl) Tryd.func5 (by kernel_rfl)
    (of_decide_eq_true (by kernel_rfl)) (by unfold Func.isWrapper; first | (rw [if_pos (by decide +kernel)]; kernel_rfl) | (rw [if_neg (by decide +kernel)]; exact ⟨rfl, rfl⟩))
    (fun os started H enc _ => typesJoins_lifted os started H enc)

/-- THE STATEMENT. -/
theorem typesJoins_holds : Rows.TypesJoinsCardSaid :=
  Claim7.holds_tied_plain_at .later [] [.data, .pinned] true (true, "29392686a52119d4eeb73c91770ab67103ffef7a474302fbb8fe089bd7741dec") false
    typesJoins_row (fun _ h => by cases h) (by kernel_rfl) (fun _ h => by cases h) typesJoins_row_tie rfl ⟨rfl, rfl⟩ (by kernel_rfl) rfl
    (fun f fn hf hfn => by
      obtain rfl : f = 5 := Option.some.inj ((show Tryd.prog.funcNamed "plumbob/plumboblaw6.TypesJoins" = some 5 by kernel_rfl).symm.trans hf) |>.symm
      obtain rfl : fn = Tryd.f5 := (Option.some.inj (Tryd.func5.symm.trans hfn)).symm
      exact ⟨by kernel_rfl, fun j t ht => by
        rw [Tryd.params5] at ht
        have hm : t ∈ [9] := by simpa using Array.mem_of_getElem? ht
        have hall : ([9].all fun u => !Tryd.prog.wantsStandIn u) = true := by kernel_rfl
        exact (show Tryd.prog.wantsStandIn t = false by simpa using List.all_eq_true.1 hall t hm)⟩)
    (by kernel_rfl)
#print axioms typesJoins_holds

end Go.Proofs.YtpedfnfangaelaaDoor
