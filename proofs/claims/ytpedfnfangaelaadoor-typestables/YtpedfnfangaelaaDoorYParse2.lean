/- Package types: contract of parse. -/
import Derived.Test.YtpedfnfangaelaaDoorYParse
namespace Go.Proofs.YtpedfnfangaelaaDoor
open Go.ChangeShapes Go.WideShapes Go.ChangeAt Go.RowKit
set_option linter.unusedSimpArgs false
set_option linter.unusedVariables false


/-- A type's text without its stars. -/
def baseS (r : ByteArray) : ByteArray := ⟨(Lib.trimRightB r.data.toList 42).toArray⟩
theorem size_baseS (r : ByteArray) : (baseS r).size ≤ r.size := by
  show (Lib.trimRightB r.data.toList 42).toArray.size ≤ r.data.size
  simp only [List.size_toArray, Lib.trimRightB, List.length_reverse]
  have := (List.dropWhile_sublist (p := (· == (42 : UInt8))) (l := r.data.toList.reverse)).length_le
  simpa using this
def formS (r : ByteArray) (c : Int) : Fm := ⟨(cut1 (baseS r) 32).1, (cut1 (baseS r) 32).2.1, (r.size : Int) - (baseS r).size, c⟩
def formOk (r : ByteArray) (c : Int) : Bool :=
  if (cut1 (baseS r) 32).2.2 = true then isS (cut1 (baseS r) 32).1 cStruct && nameS (cut1 (baseS r) 32).2.1
  else if isS (cut1 (baseS r) 32).1 cVoid = true then decide (0 < (r.size : Int) - (baseS r).size) || c == 0 else intS (cut1 (baseS r) 32).1
/-- What a type's text says, and whether it is one. -/
def parseS (t : ByteArray) : Fm × Bool := if (cutC t).2.2 = true then (formS (cutC t).1 (cutC t).2.1, formOk (cutC t).1 (cutC t).2.1) else (⟨⟨#[]⟩, ⟨#[]⟩, 0, 0⟩, false)
theorem size_cutC (t : ByteArray) : (cutC t).1.size ≤ t.size := by
  unfold cutC
  split
  · split
    · exact (size_cut1 t 91).1
    · exact Nat.zero_le _
  · exact Nat.le_refl _
theorem end_T {P : Program} {fn : Func} {a : Act} {w w' : World} {v : Value} (hr : (results fn a.tmps).run P w' = .ok v w') (hd : a.defers = []) (hb : Below w.heap.size w w') :
    bodyPost P fn (retP v w) .ret a w' := bodyPost_ret hr hd ⟨rfl, hb⟩
set_option maxHeartbeats 4000000 in
theorem parse_any (t : ByteArray) (ht : (t.size : Int) ≤ 4611686018427387904) (w : World) : Calls Tryd.prog 25 #[.string t] w (retP (.tuple #[(parseS t).1.v, .bool (parseS t).2]) w) := by
  have HC : Hid (∀ w, Calls Tryd.prog 42 #[.string t] w (retP (.tuple #[.string (cutC t).1, .int .i64 (cutC t).2.1, .bool (cutC t).2.2]) w)) := fun w => cutCount_any t ht w
  have hs := size_cutC t
  unfold parseS
  generalize (cutC t).1 = r at *
  generalize (cutC t).2.1 = c at *
  generalize (cutC t).2.2 = ok at *
  cases ok
  · simp only [Bool.false_eq_true, if_false, Fm.v]
    clear ht hs
    go_enter Tryd.func25, Tryd.ntmps25
    go_wp2_with (go_at_call 42; refine (HC.out _).mono ?_; rintro e w1 ⟨rfl, hb1⟩; have hB1 := new_heap hb1; have hz1 := bsize hb1; simp only [World.size_alloc] at hz1; have r0 := heap_cell (o := 0) (v := .string ⟨#[]⟩) hB1 (by rfl); have r1 := heap_cell (o := 1) (v := .string ⟨#[]⟩) hB1 (by rfl); have r2 := heap_cell (o := 2) (v := .int .i64 0) hB1 (by rfl); have r3 := heap_cell (o := 3) (v := .int .i64 0) hB1 (by rfl); have f0 := heap_frozen (o := 0) hB1; have f1 := heap_frozen (o := 1) hB1; have f2 := heap_frozen (o := 2) hB1; have f3 := heap_frozen (o := 3) hB1)
    exact end_T (by simp [results, Tryd.results25, go_sem, r0, r1, r2, r3]) rfl (by repeat (first | with_reducible exact Below.refl _ _ | assumption | with_reducible refine bel_alloc ?_ _ | with_reducible refine Below.drew ?_ | with_reducible refine bel_drewN ?_ _ | with_reducible refine bel_set ?_ (by go_light; first | (simp; done) | (simp; omega) | omega) _ | refine bel_trans ?_ (by assumption)))
  simp only [if_true]
  have hrs : (r.size : Int) ≤ 4611686018427387904 := by omega
  have HT : Hid (∀ w, Calls Tryd.prog 43 #[.string r, .string ⟨#[42]⟩] w fun e w' => e = .returned (.string (baseS r)) ∧ w' = w) := fun w => Tryd.strings_TrimRight_one r 42 (by decide) w (by omega)
  have hbs := size_baseS r
  simp only [formS, formOk]
  generalize baseS r = b at *
  have HK : Hid (∀ w, Calls Tryd.prog 44 #[.string b, .string ⟨#[32]⟩] w (retP (.tuple #[.string (cut1 b 32).1, .string (cut1 b 32).2.1, .bool (cut1 b 32).2.2]) w)) := fun w => cut_any b 32 (by omega) w
  have hks := size_cut1 b 32
  generalize (cut1 b 32).1 = wd at *
  generalize (cut1 b 32).2.1 = nm at *
  generalize (cut1 b 32).2.2 = named at *
  have hnm : (nm.size : Int) ≤ 4611686018427387904 := by omega
  have HN : Hid (∀ w, Calls Tryd.prog 40 #[.string nm] w fun e w' => e = .returned (.bool (nameS nm)) ∧ w' = w) := fun w => isName_any nm hnm w
  have HI : Hid (∀ w, Calls Tryd.prog 30 #[.string wd] w fun e w' => e = .returned (.bool (intS wd)) ∧ w' = w) := fun w => isInteger_any wd w
  obtain ⟨st, hst⟩ : ∃ st, (r.size : Int) - (b.size : Int) = st := ⟨_, rfl⟩
  have hw64 : wrap64 ((r.size : Int) - (b.size : Int)) = st := by unfold wrap64; omega
  have b0 : 0 ≤ st := by omega
  rw [hst]
  clear hst
  generalize nameS nm = isn at *
  generalize intS wd = isi at *
  clear ht hs hrs hbs hks hnm
  cases named
  · simp only [Bool.false_eq_true, if_false]
    by_cases hv : isS wd cVoid = true
    · simp only [hv, if_true, Fm.v]
      simp only [isS_eq, cVoid] at hv
      by_cases hs : 0 < st
      · have qs : decide (0 < st) = true := by simpa using hs
        simp only [qs, Bool.true_or]
        go_enter Tryd.func25, Tryd.ntmps25
        go_wp2_with (first | (go_at_call 42; refine (HC.out _).mono ?_; rintro e w1 ⟨rfl, hb1⟩; have hB1 := new_heap hb1; have hz1 := bsize hb1; simp only [World.size_alloc] at hz1; have r0 := heap_cell (o := 0) (v := .string ⟨#[]⟩) hB1 (by rfl); have r1 := heap_cell (o := 1) (v := .string ⟨#[]⟩) hB1 (by rfl); have r2 := heap_cell (o := 2) (v := .int .i64 0) hB1 (by rfl); have r3 := heap_cell (o := 3) (v := .int .i64 0) hB1 (by rfl); have f0 := heap_frozen (o := 0) hB1; have f1 := heap_frozen (o := 1) hB1; have f2 := heap_frozen (o := 2) hB1; have f3 := heap_frozen (o := 3) hB1) | (go_at_call 43; refine (HT.out _).mono ?_; rintro e w2 ⟨rfl, hw⟩; replace hw := hw.symm; subst hw))
        refine (HK.out _).mono ?_
        rintro e w3 ⟨rfl, hb3⟩
        have hB3 := old_heap hb3 hB1
        have hF3 := new_heap hb3
        have hz3 := bsize hb3
        simp only [World.size_alloc] at hz3
        have hlt : w1.heap.size < w3.heap.size := by omega
        have hne : ¬ w.heap.size = w1.heap.size := by omega
        have hne' : ¬ w1.heap.size = w.heap.size := by omega
        clear r0 r1 r2 r3 f0 f1 f2 f3
        have r0 := heap_cell (o := 0) (v := .string ⟨#[]⟩) hB3 (by rfl)
        have f0 := heap_frozen (o := 0) hB3
        have g0 := heap_cell (o := 0) (v := .string ⟨#[]⟩) hF3 (by rfl)
        have k0 := heap_frozen (o := 0) hF3
        have r1 := heap_cell (o := 1) (v := .string ⟨#[]⟩) hB3 (by rfl)
        have f1 := heap_frozen (o := 1) hB3
        have g1 := heap_cell (o := 1) (v := .string ⟨#[]⟩) hF3 (by rfl)
        have k1 := heap_frozen (o := 1) hF3
        have r2 := heap_cell (o := 2) (v := .int .i64 0) hB3 (by rfl)
        have f2 := heap_frozen (o := 2) hB3
        have g2 := heap_cell (o := 2) (v := .int .i64 st) hF3 (by rfl)
        have k2 := heap_frozen (o := 2) hF3
        have r3 := heap_cell (o := 3) (v := .int .i64 0) hB3 (by rfl)
        have f3 := heap_frozen (o := 3) hB3
        have g3 := heap_cell (o := 3) (v := .int .i64 c) hF3 (by rfl)
        have k3 := heap_frozen (o := 3) hF3
        go_wp2_with (first | (go_at_call 40; refine (HN.out _).mono ?_; rintro e w2 ⟨rfl, hw⟩; replace hw := hw.symm; subst hw) | (go_at_call 30; refine (HI.out _).mono ?_; rintro e w2 ⟨rfl, hw⟩; replace hw := hw.symm; subst hw))
        exact end_T (by simp [results, Tryd.results25, go_sem, *]) rfl (by repeat (first | with_reducible exact Below.refl _ _ | assumption | with_reducible refine bel_alloc ?_ _ | with_reducible refine Below.drew ?_ | with_reducible refine bel_drewN ?_ _ | with_reducible refine bel_set ?_ (by go_light; first | (simp; done) | (simp; omega) | omega) _ | refine bel_trans ?_ (by assumption)))
      · have qs : decide (0 < st) = false := by simpa using hs
        simp only [qs, Bool.false_or]
        go_enter Tryd.func25, Tryd.ntmps25
        go_wp2_with (first | (go_at_call 42; refine (HC.out _).mono ?_; rintro e w1 ⟨rfl, hb1⟩; have hB1 := new_heap hb1; have hz1 := bsize hb1; simp only [World.size_alloc] at hz1; have r0 := heap_cell (o := 0) (v := .string ⟨#[]⟩) hB1 (by rfl); have r1 := heap_cell (o := 1) (v := .string ⟨#[]⟩) hB1 (by rfl); have r2 := heap_cell (o := 2) (v := .int .i64 0) hB1 (by rfl); have r3 := heap_cell (o := 3) (v := .int .i64 0) hB1 (by rfl); have f0 := heap_frozen (o := 0) hB1; have f1 := heap_frozen (o := 1) hB1; have f2 := heap_frozen (o := 2) hB1; have f3 := heap_frozen (o := 3) hB1) | (go_at_call 43; refine (HT.out _).mono ?_; rintro e w2 ⟨rfl, hw⟩; replace hw := hw.symm; subst hw))
        refine (HK.out _).mono ?_
        rintro e w3 ⟨rfl, hb3⟩
        have hB3 := old_heap hb3 hB1
        have hF3 := new_heap hb3
        have hz3 := bsize hb3
        simp only [World.size_alloc] at hz3
        have hlt : w1.heap.size < w3.heap.size := by omega
        have hne : ¬ w.heap.size = w1.heap.size := by omega
        have hne' : ¬ w1.heap.size = w.heap.size := by omega
        clear r0 r1 r2 r3 f0 f1 f2 f3
        have r0 := heap_cell (o := 0) (v := .string ⟨#[]⟩) hB3 (by rfl)
        have f0 := heap_frozen (o := 0) hB3
        have g0 := heap_cell (o := 0) (v := .string ⟨#[]⟩) hF3 (by rfl)
        have k0 := heap_frozen (o := 0) hF3
        have r1 := heap_cell (o := 1) (v := .string ⟨#[]⟩) hB3 (by rfl)
        have f1 := heap_frozen (o := 1) hB3
        have g1 := heap_cell (o := 1) (v := .string ⟨#[]⟩) hF3 (by rfl)
        have k1 := heap_frozen (o := 1) hF3
        have r2 := heap_cell (o := 2) (v := .int .i64 0) hB3 (by rfl)
        have f2 := heap_frozen (o := 2) hB3
        have g2 := heap_cell (o := 2) (v := .int .i64 st) hF3 (by rfl)
        have k2 := heap_frozen (o := 2) hF3
        have r3 := heap_cell (o := 3) (v := .int .i64 0) hB3 (by rfl)
        have f3 := heap_frozen (o := 3) hB3
        have g3 := heap_cell (o := 3) (v := .int .i64 c) hF3 (by rfl)
        have k3 := heap_frozen (o := 3) hF3
        go_wp2_with (first | (go_at_call 40; refine (HN.out _).mono ?_; rintro e w2 ⟨rfl, hw⟩; replace hw := hw.symm; subst hw) | (go_at_call 30; refine (HI.out _).mono ?_; rintro e w2 ⟨rfl, hw⟩; replace hw := hw.symm; subst hw))
        exact end_T (by simp [results, Tryd.results25, go_sem, *]) rfl (by repeat (first | with_reducible exact Below.refl _ _ | assumption | with_reducible refine bel_alloc ?_ _ | with_reducible refine Below.drew ?_ | with_reducible refine bel_drewN ?_ _ | with_reducible refine bel_set ?_ (by go_light; first | (simp; done) | (simp; omega) | omega) _ | refine bel_trans ?_ (by assumption)))
    · have hv' : isS wd cVoid = false := by simpa using hv
      simp only [hv', Bool.false_eq_true, if_false, Fm.v]
      simp only [isS_eq, cVoid] at hv'
      clear hv
      go_enter Tryd.func25, Tryd.ntmps25
      go_wp2_with (first | (go_at_call 42; refine (HC.out _).mono ?_; rintro e w1 ⟨rfl, hb1⟩; have hB1 := new_heap hb1; have hz1 := bsize hb1; simp only [World.size_alloc] at hz1; have r0 := heap_cell (o := 0) (v := .string ⟨#[]⟩) hB1 (by rfl); have r1 := heap_cell (o := 1) (v := .string ⟨#[]⟩) hB1 (by rfl); have r2 := heap_cell (o := 2) (v := .int .i64 0) hB1 (by rfl); have r3 := heap_cell (o := 3) (v := .int .i64 0) hB1 (by rfl); have f0 := heap_frozen (o := 0) hB1; have f1 := heap_frozen (o := 1) hB1; have f2 := heap_frozen (o := 2) hB1; have f3 := heap_frozen (o := 3) hB1) | (go_at_call 43; refine (HT.out _).mono ?_; rintro e w2 ⟨rfl, hw⟩; replace hw := hw.symm; subst hw))
      refine (HK.out _).mono ?_
      rintro e w3 ⟨rfl, hb3⟩
      have hB3 := old_heap hb3 hB1
      have hF3 := new_heap hb3
      have hz3 := bsize hb3
      simp only [World.size_alloc] at hz3
      have hlt : w1.heap.size < w3.heap.size := by omega
      have hne : ¬ w.heap.size = w1.heap.size := by omega
      have hne' : ¬ w1.heap.size = w.heap.size := by omega
      clear r0 r1 r2 r3 f0 f1 f2 f3
      have r0 := heap_cell (o := 0) (v := .string ⟨#[]⟩) hB3 (by rfl)
      have f0 := heap_frozen (o := 0) hB3
      have g0 := heap_cell (o := 0) (v := .string ⟨#[]⟩) hF3 (by rfl)
      have k0 := heap_frozen (o := 0) hF3
      have r1 := heap_cell (o := 1) (v := .string ⟨#[]⟩) hB3 (by rfl)
      have f1 := heap_frozen (o := 1) hB3
      have g1 := heap_cell (o := 1) (v := .string ⟨#[]⟩) hF3 (by rfl)
      have k1 := heap_frozen (o := 1) hF3
      have r2 := heap_cell (o := 2) (v := .int .i64 0) hB3 (by rfl)
      have f2 := heap_frozen (o := 2) hB3
      have g2 := heap_cell (o := 2) (v := .int .i64 st) hF3 (by rfl)
      have k2 := heap_frozen (o := 2) hF3
      have r3 := heap_cell (o := 3) (v := .int .i64 0) hB3 (by rfl)
      have f3 := heap_frozen (o := 3) hB3
      have g3 := heap_cell (o := 3) (v := .int .i64 c) hF3 (by rfl)
      have k3 := heap_frozen (o := 3) hF3
      go_wp2_with (first | (go_at_call 40; refine (HN.out _).mono ?_; rintro e w2 ⟨rfl, hw⟩; replace hw := hw.symm; subst hw) | (go_at_call 30; refine (HI.out _).mono ?_; rintro e w2 ⟨rfl, hw⟩; replace hw := hw.symm; subst hw))
      exact end_T (by simp [results, Tryd.results25, go_sem, *]) rfl (by repeat (first | with_reducible exact Below.refl _ _ | assumption | with_reducible refine bel_alloc ?_ _ | with_reducible refine Below.drew ?_ | with_reducible refine bel_drewN ?_ _ | with_reducible refine bel_set ?_ (by go_light; first | (simp; done) | (simp; omega) | omega) _ | refine bel_trans ?_ (by assumption)))
  · simp only [if_true]
    cases hv : isS wd cStruct
    · simp only [Bool.false_and, Fm.v]
      simp only [isS_eq, cStruct] at hv
      go_enter Tryd.func25, Tryd.ntmps25
      go_wp2_with (first | (go_at_call 42; refine (HC.out _).mono ?_; rintro e w1 ⟨rfl, hb1⟩; have hB1 := new_heap hb1; have hz1 := bsize hb1; simp only [World.size_alloc] at hz1; have r0 := heap_cell (o := 0) (v := .string ⟨#[]⟩) hB1 (by rfl); have r1 := heap_cell (o := 1) (v := .string ⟨#[]⟩) hB1 (by rfl); have r2 := heap_cell (o := 2) (v := .int .i64 0) hB1 (by rfl); have r3 := heap_cell (o := 3) (v := .int .i64 0) hB1 (by rfl); have f0 := heap_frozen (o := 0) hB1; have f1 := heap_frozen (o := 1) hB1; have f2 := heap_frozen (o := 2) hB1; have f3 := heap_frozen (o := 3) hB1) | (go_at_call 43; refine (HT.out _).mono ?_; rintro e w2 ⟨rfl, hw⟩; replace hw := hw.symm; subst hw))
      refine (HK.out _).mono ?_
      rintro e w3 ⟨rfl, hb3⟩
      have hB3 := old_heap hb3 hB1
      have hF3 := new_heap hb3
      have hz3 := bsize hb3
      simp only [World.size_alloc] at hz3
      have hlt : w1.heap.size < w3.heap.size := by omega
      have hne : ¬ w.heap.size = w1.heap.size := by omega
      have hne' : ¬ w1.heap.size = w.heap.size := by omega
      clear r0 r1 r2 r3 f0 f1 f2 f3
      have r0 := heap_cell (o := 0) (v := .string ⟨#[]⟩) hB3 (by rfl)
      have f0 := heap_frozen (o := 0) hB3
      have g0 := heap_cell (o := 0) (v := .string ⟨#[]⟩) hF3 (by rfl)
      have k0 := heap_frozen (o := 0) hF3
      have r1 := heap_cell (o := 1) (v := .string ⟨#[]⟩) hB3 (by rfl)
      have f1 := heap_frozen (o := 1) hB3
      have g1 := heap_cell (o := 1) (v := .string ⟨#[]⟩) hF3 (by rfl)
      have k1 := heap_frozen (o := 1) hF3
      have r2 := heap_cell (o := 2) (v := .int .i64 0) hB3 (by rfl)
      have f2 := heap_frozen (o := 2) hB3
      have g2 := heap_cell (o := 2) (v := .int .i64 st) hF3 (by rfl)
      have k2 := heap_frozen (o := 2) hF3
      have r3 := heap_cell (o := 3) (v := .int .i64 0) hB3 (by rfl)
      have f3 := heap_frozen (o := 3) hB3
      have g3 := heap_cell (o := 3) (v := .int .i64 c) hF3 (by rfl)
      have k3 := heap_frozen (o := 3) hF3
      go_wp2_with (first | (go_at_call 40; refine (HN.out _).mono ?_; rintro e w2 ⟨rfl, hw⟩; replace hw := hw.symm; subst hw) | (go_at_call 30; refine (HI.out _).mono ?_; rintro e w2 ⟨rfl, hw⟩; replace hw := hw.symm; subst hw))
      exact end_T (by simp [results, Tryd.results25, go_sem, *]) rfl (by repeat (first | with_reducible exact Below.refl _ _ | assumption | with_reducible refine bel_alloc ?_ _ | with_reducible refine Below.drew ?_ | with_reducible refine bel_drewN ?_ _ | with_reducible refine bel_set ?_ (by go_light; first | (simp; done) | (simp; omega) | omega) _ | refine bel_trans ?_ (by assumption)))
    · simp only [Bool.true_and, Fm.v]
      simp only [isS_eq, cStruct] at hv
      go_enter Tryd.func25, Tryd.ntmps25
      go_wp2_with (first | (go_at_call 42; refine (HC.out _).mono ?_; rintro e w1 ⟨rfl, hb1⟩; have hB1 := new_heap hb1; have hz1 := bsize hb1; simp only [World.size_alloc] at hz1; have r0 := heap_cell (o := 0) (v := .string ⟨#[]⟩) hB1 (by rfl); have r1 := heap_cell (o := 1) (v := .string ⟨#[]⟩) hB1 (by rfl); have r2 := heap_cell (o := 2) (v := .int .i64 0) hB1 (by rfl); have r3 := heap_cell (o := 3) (v := .int .i64 0) hB1 (by rfl); have f0 := heap_frozen (o := 0) hB1; have f1 := heap_frozen (o := 1) hB1; have f2 := heap_frozen (o := 2) hB1; have f3 := heap_frozen (o := 3) hB1) | (go_at_call 43; refine (HT.out _).mono ?_; rintro e w2 ⟨rfl, hw⟩; replace hw := hw.symm; subst hw))
      refine (HK.out _).mono ?_
      rintro e w3 ⟨rfl, hb3⟩
      have hB3 := old_heap hb3 hB1
      have hF3 := new_heap hb3
      have hz3 := bsize hb3
      simp only [World.size_alloc] at hz3
      have hlt : w1.heap.size < w3.heap.size := by omega
      have hne : ¬ w.heap.size = w1.heap.size := by omega
      have hne' : ¬ w1.heap.size = w.heap.size := by omega
      clear r0 r1 r2 r3 f0 f1 f2 f3
      have r0 := heap_cell (o := 0) (v := .string ⟨#[]⟩) hB3 (by rfl)
      have f0 := heap_frozen (o := 0) hB3
      have g0 := heap_cell (o := 0) (v := .string ⟨#[]⟩) hF3 (by rfl)
      have k0 := heap_frozen (o := 0) hF3
      have r1 := heap_cell (o := 1) (v := .string ⟨#[]⟩) hB3 (by rfl)
      have f1 := heap_frozen (o := 1) hB3
      have g1 := heap_cell (o := 1) (v := .string ⟨#[]⟩) hF3 (by rfl)
      have k1 := heap_frozen (o := 1) hF3
      have r2 := heap_cell (o := 2) (v := .int .i64 0) hB3 (by rfl)
      have f2 := heap_frozen (o := 2) hB3
      have g2 := heap_cell (o := 2) (v := .int .i64 st) hF3 (by rfl)
      have k2 := heap_frozen (o := 2) hF3
      have r3 := heap_cell (o := 3) (v := .int .i64 0) hB3 (by rfl)
      have f3 := heap_frozen (o := 3) hB3
      have g3 := heap_cell (o := 3) (v := .int .i64 c) hF3 (by rfl)
      have k3 := heap_frozen (o := 3) hF3
      go_wp2_with (first | (go_at_call 40; refine (HN.out _).mono ?_; rintro e w2 ⟨rfl, hw⟩; replace hw := hw.symm; subst hw) | (go_at_call 30; refine (HI.out _).mono ?_; rintro e w2 ⟨rfl, hw⟩; replace hw := hw.symm; subst hw))
      exact end_T (by simp [results, Tryd.results25, go_sem, *]) rfl (by repeat (first | with_reducible exact Below.refl _ _ | assumption | with_reducible refine bel_alloc ?_ _ | with_reducible refine Below.drew ?_ | with_reducible refine bel_drewN ?_ _ | with_reducible refine bel_set ?_ (by go_light; first | (simp; done) | (simp; omega) | omega) _ | refine bel_trans ?_ (by assumption)))

end Go.Proofs.YtpedfnfangaelaaDoor
