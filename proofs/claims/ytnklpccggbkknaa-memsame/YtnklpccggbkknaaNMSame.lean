/- For all calls on two memories: they are the same just if their blocks and bytes are, as the document's own memories tell: the statement MemSame returns true. No condition. -/
import Derived.Test.YtnklpccggbkknaaNRel4
import Derived.Test.YtnklpccggbkknaaNPlayed
import Derived.Test.YtnklpccggbkknaaMAwake
import Derived.Test.YtnklpccggbkknaaMOpen
namespace Go.Proofs.Ytnklpccggbkknaa
open Go.ChangeShapes Go.WideShapes Go.ChangeAt Go.RowKit Go.Joins Pl
set_option linter.unusedSimpArgs false
set_option linter.unusedVariables false

theorem rsame_to {w : World} {p q bA bB : Nat} {RA RB' : Nat → Option Role} {A B : RM} (hA : RMem w bA p RA A) (hB : RMem w bB q RB' B) (oA : OkN A) (oB : OkN B) {r : Bool} (he : r = true ↔ SameN A B) :
    Calls Try.prog 26 #[.pointer (some ⟨p, 0, none⟩), .pointer (some ⟨q, 0, none⟩)] w (retP (.bool r) w) :=
  (rsame_any hA hB oA oB).mono fun e w' ⟨r', h1, h2, h3⟩ => ⟨by rw [h1, show r' = r from Bool.eq_iff_iff.2 (h2.trans he.symm)], h3⟩


set_option maxRecDepth 100000 in
set_option maxHeartbeats 2000000 in
theorem memSame_short (a1 a2 : Option Addr) (n1 c1 n2 c2 : Nat) (w : World) (hl : (40 : Int) < n1 ∨ (40 : Int) < n2) : Calls Try.prog 4 #[.slice a1 n1 c1, .slice a2 n2 c2] w (retP (.bool true) w) := by
  by_cases h0 : (40 : Int) < n1
  · clear hl
    go_enter Try.func4, Try.ntmps4
    go_wp2_with (go_at_call 6; refine (awake_any _).mono ?_; rintro e w1 ⟨rfl, hb1⟩; obtain ⟨hc1, hf1⟩ := bcell hb1; have hz1 := bsize hb1; try simp only [World.size_alloc, World.size_drew, World.cell?_drew, World.frozen?_drew] at hz1 hc1 hf1)
    go_ret
    exact ⟨rfl, (by repeat (first | with_reducible exact Below.refl _ _ | with_reducible refine bel_alloc ?_ _ | with_reducible refine bel_set ?_ (by first | exact Nat.le_refl _ | (simp; done) | (simp; omega)) _ | with_reducible refine Below.drew ?_ | refine bel_trans ?_ (by assumption)))⟩
  · have h1 : (40 : Int) < n2 := by omega
    clear hl
    go_enter Try.func4, Try.ntmps4
    go_wp2_with (go_at_call 6; refine (awake_any _).mono ?_; rintro e w1 ⟨rfl, hb1⟩; obtain ⟨hc1, hf1⟩ := bcell hb1; have hz1 := bsize hb1; try simp only [World.size_alloc, World.size_drew, World.cell?_drew, World.frozen?_drew] at hz1 hc1 hf1)
    go_ret
    exact ⟨rfl, (by repeat (first | with_reducible exact Below.refl _ _ | with_reducible refine bel_alloc ?_ _ | with_reducible refine bel_set ?_ (by first | exact Nat.le_refl _ | (simp; done) | (simp; omega)) _ | with_reducible refine Below.drew ?_ | refine bel_trans ?_ (by assumption)))⟩


set_option maxRecDepth 100000 in
set_option maxHeartbeats 8000000 in
theorem memSame_walk (a1 a2 : Option Addr) (b1 off1 n1 c1 b2 off2 n2 c2 : Nat) (Z1 Z2 : Nat → Nat → Int) (w : World) (h1 : (n1 : Int) ≤ 40) (h2 : (n2 : Int) ≤ 40) (HA1 : Hid (0 < n1 → a1 = some ⟨b1, off1, none⟩ ∧ ∀ i, i < n1 → ∀ j, j < 9 → w.cell? ⟨b1, off1 + i * 9 + j, none⟩ = some (.int .i64 (Z1 i j)))) (HA2 : Hid (0 < n2 → a2 = some ⟨b2, off2, none⟩ ∧ ∀ i, i < n2 → ∀ j, j < 9 → w.cell? ⟨b2, off2 + i * 9 + j, none⟩ = some (.int .i64 (Z2 i j)))) :
    Calls Try.prog 4 #[.slice a1 n1 c1, .slice a2 n2 c2] w (retP (.bool true) w) := by
  have t1 : decide ((40 : Int) < (n1 : Int)) = false := by simp; omega
  have t2 : decide ((40 : Int) < (n2 : Int)) = false := by simp; omega
  have HPL1 : Hid (∀ W, Below w.heap.size w W → Calls Try.prog 25 #[.slice a1 n1 c1] W fun e w' => e = .returned (.tuple #[.pointer (some ⟨W.heap.size, 0, none⟩), .pointer (some ⟨W.heap.size + 1, 0, none⟩)]) ∧ PP W w' W.heap.size (W.heap.size + 1) (playM Z1 n1) (playN Z1 n1)) := fun W hW =>
    played_walk a1 b1 off1 n1 c1 Z1 W (by omega) (fun hp => ⟨(HA1.out hp).1, fun i hi j hj => keep_cell hW ((HA1.out hp).2 i hi j hj)⟩)
  have HPL2 : Hid (∀ W, Below w.heap.size w W → Calls Try.prog 25 #[.slice a2 n2 c2] W fun e w' => e = .returned (.tuple #[.pointer (some ⟨W.heap.size, 0, none⟩), .pointer (some ⟨W.heap.size + 1, 0, none⟩)]) ∧ PP W w' W.heap.size (W.heap.size + 1) (playM Z2 n2) (playN Z2 n2)) := fun W hW =>
    played_walk a2 b2 off2 n2 c2 Z2 W (by omega) (fun hp => ⟨(HA2.out hp).1, fun i hi j hj => keep_cell hW ((HA2.out hp).2 i hi j hj)⟩)
  clear HA1 HA2
  have r1 := rel_play Z1 n1
  have r2 := rel_play Z2 n2
  have o1 := ok_of r1 (by have := ptrs_play Z1 n1; omega)
  have o2 := ok_of r2 (by have := ptrs_play Z2 n2; omega)
  obtain ⟨r, hr⟩ : ∃ r : Bool, r = true ↔ SameM (playM Z1 n1) (playM Z2 n2) := by
    by_cases h : SameM (playM Z1 n1) (playM Z2 n2)
    · exact ⟨true, by simp [h]⟩
    · exact ⟨false, by simp [h]⟩
  have HR : Hid ((r = true ↔ SameM (playM Z1 n1) (playM Z2 n2)) ∧ (r = true ↔ SameM (playM Z2 n2) (playM Z1 n1)) ∧ (r = true ↔ SameN (playN Z1 n1) (playN Z2 n2)) ∧ OkN (playN Z1 n1) ∧ OkN (playN Z2 n2)) := ⟨hr, hr.trans ⟨SameM.symm, SameM.symm⟩, hr.trans (same_eq r1 r2), o1, o2⟩
  clear r1 r2 o1 o2 hr
  go_enter Try.func4, Try.ntmps4
  go_wp2_with fail
  refine (awake_any _).mono ?_
  rintro e w1 ⟨rfl, hb1⟩
  go_wp2_with fail
  refine (HPL1.out w1 hb1).mono ?_
  rintro e w2 ⟨rfl, R1, Q1, m1, q1, p1, d1⟩
  have HM1 : Hid (Mem w2 w1.heap.size w1.heap.size R1 (playM Z1 n1) ∧ RMem w2 w1.heap.size (w1.heap.size + 1) Q1 (playN Z1 n1)) := ⟨m1, q1⟩
  have HB2 : Hid (Below w.heap.size w w2) := bel_trans hb1 d1
  generalize w1.heap.size = pm at *
  clear m1 q1 p1 d1 hb1
  go_wp2_with fail
  refine (HPL2.out w2 HB2.out).mono ?_
  rintro e w3 ⟨rfl, R2, Q2, m2, q2, p2, d2⟩
  have HS : Hid (∀ W, Below w3.heap.size w3 W → Mem W pm pm R1 (playM Z1 n1) ∧ RMem W pm (pm + 1) Q1 (playN Z1 n1) ∧ Mem W w2.heap.size w2.heap.size R2 (playM Z2 n2) ∧ RMem W w2.heap.size (w2.heap.size + 1) Q2 (playN Z2 n2)) := fun W hW => ⟨(HM1.out.1.below d2).below hW, (HM1.out.2.below d2).below hW, m2.below hW, q2.below hW⟩
  have HB3 : Hid (Below w.heap.size w w3) := bel_trans HB2.out d2
  generalize w2.heap.size = pn at *
  clear m2 q2 p2 d2 HM1 HB2 HPL1 HPL2
  go_wp2_with fail
  refine (same_to (HS.out _ (Below.refl _ _)).1 (HS.out _ (Below.refl _ _)).2.2.1 (r := r) HR.out.1).mono ?_
  rintro e w4 ⟨rfl, hb4⟩
  have HB4 : Hid (Below w3.heap.size w3 w4) := hb4
  clear hb4
  go_wp2_with fail
  refine (rsame_to (HS.out _ HB4.out).2.1 (HS.out _ HB4.out).2.2.2 HR.out.2.2.2.1 HR.out.2.2.2.2 (r := r) HR.out.2.2.1).mono ?_
  rintro e w5 ⟨rfl, hb5⟩
  have HB5 : Hid (Below w3.heap.size w3 w5) := bel_trans HB4.out hb5
  clear hb5
  have er : (r == r) = true := by simp
  go_wp2_with fail
  refine (same_to (HS.out _ HB5.out).2.2.1 (HS.out _ HB5.out).1 (r := r) HR.out.2.1).mono ?_
  rintro e w6 ⟨rfl, hb6⟩
  have HB6 : Hid (Below w3.heap.size w3 w6) := bel_trans HB5.out hb6
  clear hb6
  go_wp2_with fail
  refine (rsame_to (HS.out _ HB6.out).2.1 (HS.out _ HB6.out).2.2.2 HR.out.2.2.2.1 HR.out.2.2.2.2 (r := r) HR.out.2.2.1).mono ?_
  rintro e w7 ⟨rfl, hb7⟩
  have HB7 : Hid (Below w3.heap.size w3 w7) := bel_trans HB6.out hb7
  clear hb7
  go_wp2_with fail
  refine (same_to (HS.out _ HB7.out).1 (HS.out _ HB7.out).1 (r := true) ⟨fun _ => SameM.refl _, fun _ => rfl⟩).mono ?_
  rintro e w8 ⟨rfl, hb8⟩
  have HB8 : Hid (Below w3.heap.size w3 w8) := bel_trans HB7.out hb8
  clear hb8
  have HBf : Hid (Below w.heap.size w w8) := bel_trans HB3.out HB8.out
  go_wp2
  go_ret
  exact ⟨rfl, HBf.out⟩
theorem memSame_all {H : Type} {enc : TypeId × Value → H} {W : World} {base : Nat} {v0 v1 : Value} {d0 d1 : DataW H} {p0 p1 : List MemPlace} (hv0 : Value.okWide Try.prog W .any base 22 v0) (h0 : DataW.Trod enc Try.prog W 0 (fun _ => true) true 22 v0 d0 p0)
    (hv1 : Value.okWide Try.prog W .any base 22 v1) (h1 : DataW.Trod enc Try.prog W 0 (fun _ => true) true 22 v1 d1 p1) : Calls Try.prog 4 #[v0, v1] W (retP (.bool true) W) := by
  obtain ⟨a0, n0, c0, rfl⟩ := okWide_slice Try.underlying22 hv0
  obtain ⟨a1, n1, c1, rfl⟩ := okWide_slice Try.underlying22 hv1
  obtain ⟨_, hz0⟩ := open_acts h0
  obtain ⟨_, hz1⟩ := open_acts h1
  by_cases hs : (40 : Int) < n0 ∨ (40 : Int) < n1
  · exact memSame_short a0 a1 n0 c0 n1 c1 W hs
  · have e0 : ∃ (b off : Nat) (Z : Nat → Nat → Int), 0 < n0 → a0 = some ⟨b, off, none⟩ ∧ ∀ i, i < n0 → ∀ j, j < 9 → W.cell? ⟨b, off + i * 9 + j, none⟩ = some (.int .i64 (Z i j)) := by
      by_cases hl : 0 < n0
      · obtain ⟨b, off, Z, ha, hc⟩ := hz0 hl
        exact ⟨b, off, Z, fun _ => ⟨ha, hc⟩⟩
      · exact ⟨0, 0, fun _ _ => 0, fun h => absurd h hl⟩
    have e1 : ∃ (b off : Nat) (Z : Nat → Nat → Int), 0 < n1 → a1 = some ⟨b, off, none⟩ ∧ ∀ i, i < n1 → ∀ j, j < 9 → W.cell? ⟨b, off + i * 9 + j, none⟩ = some (.int .i64 (Z i j)) := by
      by_cases hl : 0 < n1
      · obtain ⟨b, off, Z, ha, hc⟩ := hz1 hl
        exact ⟨b, off, Z, fun _ => ⟨ha, hc⟩⟩
      · exact ⟨0, 0, fun _ _ => 0, fun h => absurd h hl⟩
    obtain ⟨b, off, Z, e0⟩ := e0
    obtain ⟨b', off', Z', e1⟩ := e1
    exact memSame_walk a0 a1 b off n0 c0 b' off' n1 c1 Z Z' W (by omega) (by omega) e0 e1

set_option maxRecDepth 100000 in
theorem memSame_lifted (os : Os) (started : os.Started) (H : Type) (enc : TypeId × Value → H) :
    ReturnsInHanded {} Try.checked os 4 .any (Rows.memSameSpec.pre6 enc Try.prog Try.f4 Rows.memSameRow.domain false) (Rows.memSameSpec.post enc Try.prog Try.f4 false true false false) := by
  refine returnsInHanded_of_change (C := Try.checked) own started (by kernel_rfl) Try.func4
    (ChangeSpec.witness6 (enc := enc) (C := Try.checked) false ⟨#[], #[.slice none 0 0, .slice none 0 0], []⟩ 8 (by kernel_rfl) (by kernel_rfl) (by kernel_rfl) (by kernel_rfl)) ?_
  intro W base args ds gs before hval0 hW hcnd _
  have hval : ∀ (j : Nat) t v, Try.f4.params[j]? = some t → args[j]? = some v → Value.okWide Try.prog W .any base t v := hval0
  have hW' := hW
  obtain ⟨p, q, hA0, hV, rfl, hfz, hnd⟩ := hW
  have hA : DataW.TrodAll enc Try.prog W 0 (fun _ => true) true Try.f4.params.toList args.toList ds p := hA0
  rw [Try.params4] at hA hval
  obtain ⟨v0, vs0, d0, ds0, p0, q0, hargs, rfl, rfl, h0, r0⟩ := trodAll_cons hA
  obtain ⟨v1, vs1, d1, ds1, p1, q1, rfl, rfl, rfl, h1, r1⟩ := trodAll_cons r0
  obtain ⟨rfl, rfl, rfl⟩ := trodAll_nil r1
  obtain rfl : args = #[v0, v1] := by cases args; simp_all
  obtain ⟨rfl, rfl⟩ := trodVars_none hV
  have hv0 := hval 0 22 v0 rfl rfl
  have hv1 := hval 1 22 v1 rfl rfl
  have hlt0 : ∀ x ∈ p0, x.block < W.heap.size := fun x hx => by simpa using hW'.lt x (by simp [hx])
  have hlt1 : ∀ x ∈ p1, x.block < W.heap.size := fun x hx => by simpa using hW'.lt x (by simp [hx])
  have hargs0 : ∀ (W' : World), Below W.heap.size W W' → DataW.Trod enc Try.prog W' 0 (fun b => decide (b < W.heap.size)) true 22 v0 d0 p0 := fun W' hn => Below.trod laidOut (by kernel_rfl) (of_decide_eq_true (by kernel_rfl)) h0 hn hlt0
  have hargs1 : ∀ (W' : World), Below W.heap.size W W' → DataW.Trod enc Try.prog W' 0 (fun b => decide (b < W.heap.size)) true 22 v1 d1 p1 := fun W' hn => Below.trod laidOut (by kernel_rfl) (of_decide_eq_true (by kernel_rfl)) h1 hn hlt1
  clear hA0 hval0
  simp only [List.append_nil] at hW'
  refine (memSame_all hv0 h0 hv1 h1).mono fun e W' ⟨he, hb⟩ => ?_
  subst he
  exact ⟨_, rfl, _, _, _, [], _, [], hW', (trodAll_cons_mk (shut_bool Try.underlying4 _) trodAll_mk0), (trodAll_cons_mk (hargs0 _ hb) (trodAll_cons_mk (hargs1 _ hb) trodAll_mk0)), rfl, hb.frame _, fun h => by cases h⟩

/-- THE STATEMENT. -/
theorem memSame_holds : Rows.MemSameSaid :=
  OpenClaim.holds_of_wide 4 Try.f4 rfl rfl rfl rfl rfl rfl rfl ⟨rfl, rfl, rfl, rfl, rfl⟩ rfl rfl rfl rfl rfl (by kernel_rfl) Try.func4 (by kernel_rfl)
    (of_decide_eq_true (by kernel_rfl)) (by unfold Func.isWrapper; first | (rw [if_pos (by decide +kernel)]; kernel_rfl) | (rw [if_neg (by decide +kernel)]; exact ⟨rfl, rfl⟩))
    (fun os started H enc _ => memSame_lifted os started H enc)
#print axioms memSame_holds

end Go.Proofs.Ytnklpccggbkknaa
