/- For all calls (at most 80) and any place of a cut: a memory does, call by call, what the document says; a copy stays as it was: the statement MemPlays returns true. No condition. -/
import Derived.Test.YtnklpccggbkknaaNPlays
import Derived.Deep.DeepCutAuto
import Derived.Deep.CutRange
namespace Go.Proofs.Ytnklpccggbkknaa
open Go.ChangeShapes Go.WideShapes Go.ChangeAt Go.RowKit Go.Joins Pl
set_option linter.unusedSimpArgs false
set_option linter.unusedVariables false


set_option maxRecDepth 1000000 in
set_option maxHeartbeats 20000000 in
theorem memPlays_walk (a1 : Option Addr) (b1 off1 n1 c1 : Nat) (Z : Nat → Nat → Int) (cut : Int) (w : World) (h1 : (n1 : Int) ≤ 80)
    (HA : Hid (0 < n1 → a1 = some ⟨b1, off1, none⟩ ∧ ∀ i, i < n1 → ∀ j, j < 9 → w.cell? ⟨b1, off1 + i * 9 + j, none⟩ = some (.int .i64 (Z i j)))) :
    Calls Try.prog 3 #[.slice a1 n1 c1, .int .i64 cut] w (retP (.bool true) w) := by
  have t1 : decide ((80 : Int) < (n1 : Int)) = false := by simp; omega
  go_enter Try.func3, Try.ntmps3
  go_wp2_with fail
  refine (awake_any _).mono ?_
  rintro e w1 ⟨rfl, hb1⟩
  go_wp2_with fail
  refine (new_any w1).mono ?_
  rintro e w2 ⟨rfl, hw2⟩
  have HB2 : Hid (Below w.heap.size w w2) := by rw [hw2]; exact bel_alloc hb1 _
  have HM2 : Hid (Mem w2 w.heap.size w1.heap.size (oneR w1.heap.size .mem) []) := by rw [hw2]; exact new_mem w1 w.heap.size hb1.size
  have hz2 : w2.heap.size = w1.heap.size + 1 := by rw [hw2, World.size_alloc]
  have HZ2 : Hid (w2.heap.size = w1.heap.size + 1) := hz2
  generalize hpm : w1.heap.size = pm at *
  clear hb1 hw2 hz2 hpm
  have HQ3 : Hid (RMem (w2.alloc (.cells #[.slice none 0 0, .slice none 0 0] 30)) w.heap.size w2.heap.size (oneR w2.heap.size .mem) ⟨[], []⟩) := rnew_mem w2 w.heap.size HB2.out.size
  have HM3 : Hid (Mem (w2.alloc (.cells #[.slice none 0 0, .slice none 0 0] 30)) w.heap.size pm (oneR pm .mem) []) := HM2.out.below ((Below.refl _ _).alloc (Nat.le_refl _) _)
  have HB3 : Hid (Below w.heap.size w (w2.alloc (.cells #[.slice none 0 0, .slice none 0 0] 30))) := bel_alloc HB2.out _
  go_wp2_with fail
  refine (copy_to (base' := w.heap.size) HM3.out HB3.out.size).mono ?_
  rintro e w4 ⟨pc0, S0, rfl, m4, d4, f4⟩
  have HM4 : Hid (Mem w4 w.heap.size pm (oneR pm .mem) [] ∧ RMem w4 w.heap.size w2.heap.size (oneR w2.heap.size .mem) ⟨[], []⟩ ∧ Mem w4 w.heap.size pc0 S0 [] ∧ Below w.heap.size w w4 ∧ (∀ b, S0 b ≠ none → w2.heap.size + 1 ≤ b)) := ⟨HM3.out.below d4, HQ3.out.below d4, m4, bel_trans HB3.out d4, fun b hb => by have := f4 b hb; rw [World.size_alloc] at this; exact this⟩
  clear m4 d4 f4 HM3 HQ3 HB3 HM2 HB2
  go_wp2_with fail
  refine (copy_to (base' := w.heap.size) HM4.out.1 HM4.out.2.2.2.1.size).mono ?_
  rintro e w5 ⟨ph0, T0, rfl, m5, d5, f5⟩
  have H0 : Hid (PK w w5 pm w2.heap.size pc0 ph0 [] ⟨[], []⟩ [] []) := by
    obtain ⟨k1, k2, k3, k4, k5⟩ := HM4.out
    have hz := HZ2.out
    refine ⟨_, _, S0, T0, k1.below d5, k2.below d5, k3.below d5, m5, ⟨fun b hb => ?_, fun b hb => ?_, apart_new k1 f5, fun b hb => ?_, fun b hb => ?_⟩, bel_trans k4 d5⟩
    · by_cases e : b = w2.heap.size
      · subst e
        exfalso
        apply hb
        unfold oneR
        rw [if_neg (by omega)]
      · simp [oneR, e]
    · cases hS : S0 b with
      | none => rfl
      | some r =>
        have h1 := k5 b (by rw [hS]; simp)
        have h2 : b = pm := by
          by_cases e : b = pm
          · exact e
          · simp [oneR, e] at hb
        omega
    · cases hS : S0 b with
      | none => rfl
      | some r =>
        have h1 := k5 b (by rw [hS]; simp)
        have h2 : b = w2.heap.size := by
          by_cases e : b = w2.heap.size
          · exact e
          · simp [oneR, e] at hb
        omega
    · cases hS : T0 b with
      | none => rfl
      | some r =>
        have h1 := f5 b (by rw [hS]; simp)
        have h2 := (k2.rng b hb).2
        omega
  generalize w2.heap.size = pr at *
  clear m5 d5 f5 HM4 HZ2
  go_wp2
  refine pl_loop a1 n1 c1 pm pr cut w _ _ _ _ _ _ _ _ _ _ _ _ _ _ _ _ _ _ _ _ _ _ _ _ _ _ _ _ _ _ _ _ _ _ _ _ _ _ _ _ _ _ _ _ _ _ _ _ _ _ _ _ _ _ _ _ _ _ _ _ _ _ _ _ _ _ _ _ _ _ _ _ _ _ _ _ _ _ _ _ _ _ _ _ _ _ _ _ _ _ _ _ _ _ _ _ _ _ _ _ _ _ _ _ _ _ _ _ _ _ _ _ _ _ _ _ _ _ _ _ _ _ _ _ _ _ _ _ _ _ _ _ _ _ _ _ _ _ _ _ _ _ _ _ _ _ _ _ _ _ _ _ _ _ _ _ _ _ _ _ _ _ _ _ _ _ _ _ _ _ _ _ _ _ _ _ _ _ _ _ _ _ _ _ _ _ _ _ _ _ _ _ _ _ _ _ _ _ _ _ _ _ _ _ _ _ _ _ _ _ _ _ b1 off1 Z _ _ ?hq h1 HA ?hx ?hr
  case hq => (intro c a d v x h; cases d <;> exact h)
  case hr => exact ⟨0, pc0, ph0, [], ⟨[], []⟩, [], by omega, rfl, rfl, rfl, H0, MRel.nil, Nat.le_refl _⟩
  case hx =>
    intro a' wr hI
    clear H0 HA
    unfold PlI at hI
    obtain ⟨z4z, hI⟩ := hI
    obtain ⟨z7z, hI⟩ := hI
    obtain ⟨z8z, hI⟩ := hI
    obtain ⟨z9z, hI⟩ := hI
    obtain ⟨z10z, hI⟩ := hI
    obtain ⟨z11z, hI⟩ := hI
    obtain ⟨z12z, hI⟩ := hI
    obtain ⟨z13z, hI⟩ := hI
    obtain ⟨z14z, hI⟩ := hI
    obtain ⟨z15z, hI⟩ := hI
    obtain ⟨z16z, hI⟩ := hI
    obtain ⟨z17z, hI⟩ := hI
    obtain ⟨z18z, hI⟩ := hI
    obtain ⟨z19z, hI⟩ := hI
    obtain ⟨z20z, hI⟩ := hI
    obtain ⟨z21z, hI⟩ := hI
    obtain ⟨z34z, hI⟩ := hI
    obtain ⟨z35z, hI⟩ := hI
    obtain ⟨z36z, hI⟩ := hI
    obtain ⟨z37z, hI⟩ := hI
    obtain ⟨z38z, hI⟩ := hI
    obtain ⟨z39z, hI⟩ := hI
    obtain ⟨z40z, hI⟩ := hI
    obtain ⟨z41z, hI⟩ := hI
    obtain ⟨z42z, hI⟩ := hI
    obtain ⟨z43z, hI⟩ := hI
    obtain ⟨z44z, hI⟩ := hI
    obtain ⟨z45z, hI⟩ := hI
    obtain ⟨z46z, hI⟩ := hI
    obtain ⟨z47z, hI⟩ := hI
    obtain ⟨z48z, hI⟩ := hI
    obtain ⟨z49z, hI⟩ := hI
    obtain ⟨z50z, hI⟩ := hI
    obtain ⟨z51z, hI⟩ := hI
    obtain ⟨z52z, hI⟩ := hI
    obtain ⟨z53z, hI⟩ := hI
    obtain ⟨z54z, hI⟩ := hI
    obtain ⟨z55z, hI⟩ := hI
    obtain ⟨z56z, hI⟩ := hI
    obtain ⟨z57z, hI⟩ := hI
    obtain ⟨z58z, hI⟩ := hI
    obtain ⟨z59z, hI⟩ := hI
    obtain ⟨z60z, hI⟩ := hI
    obtain ⟨z61z, hI⟩ := hI
    obtain ⟨z62z, hI⟩ := hI
    obtain ⟨z63z, hI⟩ := hI
    obtain ⟨z64z, hI⟩ := hI
    obtain ⟨z65z, hI⟩ := hI
    obtain ⟨z66z, hI⟩ := hI
    obtain ⟨z67z, hI⟩ := hI
    obtain ⟨z68z, hI⟩ := hI
    obtain ⟨z69z, hI⟩ := hI
    obtain ⟨z70z, hI⟩ := hI
    obtain ⟨z71z, hI⟩ := hI
    obtain ⟨z72z, hI⟩ := hI
    obtain ⟨z73z, hI⟩ := hI
    obtain ⟨z74z, hI⟩ := hI
    obtain ⟨z75z, hI⟩ := hI
    obtain ⟨z76z, hI⟩ := hI
    obtain ⟨z77z, hI⟩ := hI
    obtain ⟨z78z, hI⟩ := hI
    obtain ⟨z79z, hI⟩ := hI
    obtain ⟨z80z, hI⟩ := hI
    obtain ⟨z81z, hI⟩ := hI
    obtain ⟨z82z, hI⟩ := hI
    obtain ⟨z83z, hI⟩ := hI
    obtain ⟨z84z, hI⟩ := hI
    obtain ⟨z85z, hI⟩ := hI
    obtain ⟨z86z, hI⟩ := hI
    obtain ⟨z87z, hI⟩ := hI
    obtain ⟨z88z, hI⟩ := hI
    obtain ⟨z89z, hI⟩ := hI
    obtain ⟨z90z, hI⟩ := hI
    obtain ⟨z91z, hI⟩ := hI
    obtain ⟨z92z, hI⟩ := hI
    obtain ⟨z93z, hI⟩ := hI
    obtain ⟨z94z, hI⟩ := hI
    obtain ⟨z95z, hI⟩ := hI
    obtain ⟨z96z, hI⟩ := hI
    obtain ⟨z97z, hI⟩ := hI
    obtain ⟨z98z, hI⟩ := hI
    obtain ⟨z99z, hI⟩ := hI
    obtain ⟨z100z, hI⟩ := hI
    obtain ⟨z101z, hI⟩ := hI
    obtain ⟨z102z, hI⟩ := hI
    obtain ⟨z103z, hI⟩ := hI
    obtain ⟨z104z, hI⟩ := hI
    obtain ⟨z105z, hI⟩ := hI
    obtain ⟨z106z, hI⟩ := hI
    obtain ⟨z107z, hI⟩ := hI
    obtain ⟨z108z, hI⟩ := hI
    obtain ⟨z109z, hI⟩ := hI
    obtain ⟨z110z, hI⟩ := hI
    obtain ⟨z111z, hI⟩ := hI
    obtain ⟨z112z, hI⟩ := hI
    obtain ⟨z113z, hI⟩ := hI
    obtain ⟨z114z, hI⟩ := hI
    obtain ⟨z115z, hI⟩ := hI
    obtain ⟨z116z, hI⟩ := hI
    obtain ⟨z117z, hI⟩ := hI
    obtain ⟨z118z, hI⟩ := hI
    obtain ⟨z119z, hI⟩ := hI
    obtain ⟨z120z, hI⟩ := hI
    obtain ⟨z121z, hI⟩ := hI
    obtain ⟨z122z, hI⟩ := hI
    obtain ⟨z123z, hI⟩ := hI
    obtain ⟨z124z, hI⟩ := hI
    obtain ⟨z125z, hI⟩ := hI
    obtain ⟨z126z, hI⟩ := hI
    obtain ⟨z127z, hI⟩ := hI
    obtain ⟨z128z, hI⟩ := hI
    obtain ⟨z129z, hI⟩ := hI
    obtain ⟨z130z, hI⟩ := hI
    obtain ⟨z131z, hI⟩ := hI
    obtain ⟨z132z, hI⟩ := hI
    obtain ⟨z133z, hI⟩ := hI
    obtain ⟨z134z, hI⟩ := hI
    obtain ⟨z135z, hI⟩ := hI
    obtain ⟨z136z, hI⟩ := hI
    obtain ⟨z137z, hI⟩ := hI
    obtain ⟨z138z, hI⟩ := hI
    obtain ⟨z139z, hI⟩ := hI
    obtain ⟨z140z, hI⟩ := hI
    obtain ⟨z141z, hI⟩ := hI
    obtain ⟨z142z, hI⟩ := hI
    obtain ⟨z143z, hI⟩ := hI
    obtain ⟨z144z, hI⟩ := hI
    obtain ⟨z145z, hI⟩ := hI
    obtain ⟨z146z, hI⟩ := hI
    obtain ⟨z147z, hI⟩ := hI
    obtain ⟨z148z, hI⟩ := hI
    obtain ⟨z149z, hI⟩ := hI
    obtain ⟨z150z, hI⟩ := hI
    obtain ⟨z151z, hI⟩ := hI
    obtain ⟨z152z, hI⟩ := hI
    obtain ⟨z153z, hI⟩ := hI
    obtain ⟨z154z, hI⟩ := hI
    obtain ⟨z155z, hI⟩ := hI
    obtain ⟨z156z, hI⟩ := hI
    obtain ⟨z157z, hI⟩ := hI
    obtain ⟨z158z, hI⟩ := hI
    obtain ⟨z159z, hI⟩ := hI
    obtain ⟨z160z, hI⟩ := hI
    obtain ⟨z161z, hI⟩ := hI
    obtain ⟨z162z, hI⟩ := hI
    obtain ⟨z163z, hI⟩ := hI
    obtain ⟨z164z, hI⟩ := hI
    obtain ⟨z165z, hI⟩ := hI
    obtain ⟨z166z, hI⟩ := hI
    obtain ⟨z167z, hI⟩ := hI
    obtain ⟨z168z, hI⟩ := hI
    obtain ⟨z169z, hI⟩ := hI
    obtain ⟨z170z, hI⟩ := hI
    obtain ⟨z171z, hI⟩ := hI
    obtain ⟨z172z, hI⟩ := hI
    obtain ⟨z173z, hI⟩ := hI
    obtain ⟨z174z, hI⟩ := hI
    obtain ⟨z175z, hI⟩ := hI
    obtain ⟨z176z, hI⟩ := hI
    obtain ⟨z177z, hI⟩ := hI
    obtain ⟨z178z, hI⟩ := hI
    obtain ⟨z179z, hI⟩ := hI
    obtain ⟨z180z, hI⟩ := hI
    obtain ⟨z181z, hI⟩ := hI
    obtain ⟨z182z, hI⟩ := hI
    obtain ⟨z183z, hI⟩ := hI
    obtain ⟨z184z, hI⟩ := hI
    obtain ⟨z185z, hI⟩ := hI
    obtain ⟨z186z, hI⟩ := hI
    obtain ⟨z187z, hI⟩ := hI
    obtain ⟨z188z, hI⟩ := hI
    obtain ⟨z189z, hI⟩ := hI
    obtain ⟨z190z, hI⟩ := hI
    obtain ⟨z191z, hI⟩ := hI
    obtain ⟨z192z, hI⟩ := hI
    obtain ⟨z193z, hI⟩ := hI
    obtain ⟨z194z, hI⟩ := hI
    obtain ⟨z195z, hI⟩ := hI
    obtain ⟨z196z, hI⟩ := hI
    obtain ⟨z197z, hI⟩ := hI
    obtain ⟨z198z, hI⟩ := hI
    obtain ⟨z199z, hI⟩ := hI
    obtain ⟨z200z, hI⟩ := hI
    obtain ⟨z201z, hI⟩ := hI
    obtain ⟨hI, ha⟩ := hI
    obtain ⟨i, pc, ph, M, N, C, hi, h7, h8, h9, HPK, HREL, HPT0⟩ := hI
    subst h7 h8 h9 ha
    obtain ⟨R, Q, S, T, m1, q1, m2, m3, ap, hB⟩ := HPK.out
    have HS : Hid (∀ W, Below wr.heap.size wr W → Mem W w.heap.size pm R M ∧ Mem W w.heap.size pc S C ∧ Mem W w.heap.size ph T C) := fun W hW => ⟨m1.below hW, m2.below hW, m3.below hW⟩
    have HB : Hid (Below w.heap.size w wr) := hB
    clear m1 q1 m2 m3 ap hB HPK HREL HPT0
    go_wp2_with fail
    refine (same_to (HS.out _ (Below.refl _ _)).2.1 (HS.out _ (Below.refl _ _)).2.2 (r := true) ⟨fun _ => SameM.refl _, fun _ => rfl⟩).mono ?_
    rintro e w5 ⟨rfl, hb5⟩
    have HB5 : Hid (Below wr.heap.size wr w5) := hb5
    clear hb5
    go_wp2_with fail
    refine (same_to (HS.out _ HB5.out).2.2 (HS.out _ HB5.out).2.1 (r := true) ⟨fun _ => SameM.refl _, fun _ => rfl⟩).mono ?_
    rintro e w6 ⟨rfl, hb6⟩
    have HB6 : Hid (Below wr.heap.size wr w6) := bel_trans HB5.out hb6
    clear hb6 HB5
    go_wp2_with fail
    refine (copy_to (base' := w.heap.size) (HS.out _ HB6.out).1 (bel_trans HB.out HB6.out).size).mono ?_
    rintro e w7 ⟨P3, R3, rfl, m7, d7, f7⟩
    have HM7 : Hid (Mem w7 w.heap.size P3 R3 M ∧ Below wr.heap.size wr w7) := ⟨m7, bel_trans HB6.out d7⟩
    clear m7 d7 f7 HB6
    go_wp2_with fail
    refine (same_to (HS.out _ HM7.out.2).1 HM7.out.1 (r := true) ⟨fun _ => SameM.refl _, fun _ => rfl⟩).mono ?_
    rintro e w8 ⟨rfl, hb8⟩
    have HB8 : Hid (Below w.heap.size w w8) := bel_trans (bel_trans HB.out HM7.out.2) hb8
    clear hb8
    go_wp2
    go_ret
    exact ⟨rfl, HB8.out⟩


theorem memPlays_all {H : Type} {enc : TypeId × Value → H} {W : World} {base : Nat} {v0 : Value} {d0 : DataW H} {p0 : List MemPlace} (hv0 : Value.okWide Try.prog W .any base 22 v0) (h0 : DataW.Trod enc Try.prog W 0 (fun _ => true) true 22 v0 d0 p0) (cut : Int) :
    Calls Try.prog 3 #[v0, .int .i64 cut] W (retP (.bool true) W) := by
  obtain ⟨a0, n0, c0, rfl⟩ := okWide_slice Try.underlying22 hv0
  obtain ⟨_, hz0⟩ := open_acts h0
  by_cases hs : (80 : Int) < n0
  · exact memPlays_short a0 n0 c0 cut W hs
  · by_cases hl : 0 < n0
    · obtain ⟨b, off, Z, ha, hc⟩ := hz0 hl
      exact memPlays_walk a0 b off n0 c0 Z cut W (by omega) (fun _ => ⟨ha, hc⟩)
    · exact memPlays_walk a0 0 0 n0 c0 (fun _ _ => 0) cut W (by omega) (fun h => absurd h hl)

set_option maxRecDepth 100000 in
theorem memPlays_lifted (os : Os) (started : os.Started) (H : Type) (enc : TypeId × Value → H) :
    ReturnsInHanded {} Try.checked os 3 .any (Rows.memPlaysSpec.pre6 enc Try.prog Try.f3 Rows.memPlaysRow.domain false) (Rows.memPlaysSpec.post enc Try.prog Try.f3 false true false false) := by
  refine returnsInHanded_of_change (C := Try.checked) own started (by kernel_rfl) Try.func3
    (ChangeSpec.witness6 (enc := enc) (C := Try.checked) false ⟨#[], #[.slice none 0 0, .int .i64 0], []⟩ 8 (by kernel_rfl) (by kernel_rfl) (by kernel_rfl) (by kernel_rfl)) ?_
  intro W base args ds gs before hval0 hW hcnd _
  have hval : ∀ (j : Nat) t v, Try.f3.params[j]? = some t → args[j]? = some v → Value.okWide Try.prog W .any base t v := hval0
  have hW' := hW
  obtain ⟨p, q, hA0, hV, rfl, hfz, hnd⟩ := hW
  have hA : DataW.TrodAll enc Try.prog W 0 (fun _ => true) true Try.f3.params.toList args.toList ds p := hA0
  rw [Try.params3] at hA hval
  obtain ⟨v0, vs0, d0, ds0, p0, q0, hargs, rfl, rfl, h0, r0⟩ := trodAll_cons hA
  obtain ⟨v1, vs1, d1, ds1, p1, q1, rfl, rfl, rfl, h1, r1⟩ := trodAll_cons r0
  obtain ⟨rfl, rfl, rfl⟩ := trodAll_nil r1
  obtain rfl : args = #[v0, v1] := by cases args; simp_all
  obtain ⟨rfl, rfl⟩ := trodVars_none hV
  have hv0 := hval 0 22 v0 rfl rfl
  obtain ⟨a1, rfl, rfl, rfl, x1⟩ := open_int Try.underlying3 (hval 1 3 v1 rfl rfl) h1
  have hlt0 : ∀ x ∈ p0, x.block < W.heap.size := fun x hx => by simpa using hW'.lt x (by simp [hx])
  have hargs0 : ∀ (W' : World), Below W.heap.size W W' → DataW.Trod enc Try.prog W' 0 (fun b => decide (b < W.heap.size)) true 22 v0 d0 p0 := fun W' hn => Below.trod laidOut (by kernel_rfl) (of_decide_eq_true (by kernel_rfl)) h0 hn hlt0
  clear hA0 hval0
  simp only [List.append_nil] at hW'
  refine (memPlays_all hv0 h0 a1).mono fun e W' ⟨he, hb⟩ => ?_
  subst he
  exact ⟨_, rfl, _, _, _, [], _, [], hW', (trodAll_cons_mk (shut_bool Try.underlying4 _) trodAll_mk0), (trodAll_cons_mk (hargs0 _ hb) (trodAll_cons_mk (shut_int Try.underlying3 x1) trodAll_mk0)), rfl, hb.frame _, fun h => by cases h⟩

/-- THE STATEMENT. -/
theorem memPlays_holds : Rows.MemPlaysSaid :=
  OpenClaim.holds_of_wide 3 Try.f3 rfl rfl rfl rfl rfl rfl rfl ⟨rfl, rfl, rfl, rfl, rfl⟩ rfl rfl rfl rfl rfl (by kernel_rfl) Try.func3 (by kernel_rfl)
    (of_decide_eq_true (by kernel_rfl)) (by unfold Func.isWrapper; first | (rw [if_pos (by decide +kernel)]; kernel_rfl) | (rw [if_neg (by decide +kernel)]; exact ⟨rfl, rfl⟩))
    (fun os started H enc _ => memPlays_lifted os started H enc)
#print axioms memPlays_holds

end Go.Proofs.Ytnklpccggbkknaa
