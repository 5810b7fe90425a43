/- Package types: contracts of single, Size, Scalar, Elem. -/
import Derived.Test.YtpedfnfangaelaaDoorYTab
namespace Go.Proofs.YtpedfnfangaelaaDoor
open Go.ChangeShapes Go.WideShapes Go.ChangeAt Go.RowKit
set_option linter.unusedSimpArgs false
set_option linter.unusedVariables false

/-- The size and alignment of a type, its brackets aside. -/
def sgF (T : Tab) (f : Fm) : Int × Int × Bool :=
  if f.isStruct = true then ((shF T f.name).1.size, (shF T f.name).1.align, (shF T f.name).2)
  else if 0 < f.stars then ptF T f
  else if isS f.word cChar = true then (1, 1, true) else if isS f.word cInt = true then (4, 4, true) else if isS f.word cLong = true then (8, 8, true) else (0, 0, false)

set_option maxHeartbeats 4000000 in
theorem single_any (tb : Nat) (T : Tab) (f : Fm) (hs : f.name.size ≤ maxLen) (w : World) (h : TabAt w tb T) :
    Calls Tryd.prog 26 #[.pointer (some ⟨tb, 0, none⟩), f.v] w (retP (.tuple #[.int .i64 (sgF T f).1, .int .i64 (sgF T f).2.1, .bool (sgF T f).2.2]) w) := by
  have HT : Hid (TabAt w tb T ∧ f.name.size ≤ maxLen) := ⟨h, hs⟩
  have HS : Hid (∀ w, Calls Tryd.prog 39 #[f.v] w (retP (.bool f.isStruct) w)) := fun w => isStruct_any f w
  have HP : Hid (∀ w', TabAt w' tb T → Calls Tryd.prog 45 #[.pointer (some ⟨tb, 0, none⟩), f.v] w' (retP (.tuple #[.int .i64 (ptF T f).1, .int .i64 (ptF T f).2.1, .bool (ptF T f).2.2]) w')) := fun w' h' => pointer_any tb T f hs w' h'
  have HF : Hid (∀ w', TabAt w' tb T → Calls Tryd.prog 28 #[.pointer (some ⟨tb, 0, none⟩), .string f.name] w' (retS (shF T f.name).1 (shF T f.name).2 w')) := fun w' h' => shapeOf_any tb T f.name hs w' h'
  clear h hs
  unfold sgF
  generalize ptF T f = pt at *
  generalize shF T f.name = sh at *
  generalize f.isStruct = isst at *
  obtain ⟨wd, nm, st, ct⟩ := f
  obtain ⟨⟨pls, sz, al⟩, ok⟩ := sh
  obtain ⟨p0, p1, p2⟩ := pt
  simp only [Fm.v] at *
  cases isst
  · simp only [Bool.false_eq_true, if_false]
    by_cases hst : 0 < st
    · rw [if_pos hst]
      have q0 : decide (0 < st) = true := by simpa using hst
      clear hst HF
      go_enter Tryd.func26, Tryd.ntmps26
      go_wp2_with fail
      refine (HS.out _).mono ?_
      rintro e w1 ⟨rfl, hb1⟩
      dsimp only
      have hB1 := new_heap hb1
      have hz1 := bsize hb1
      simp only [World.size_alloc] at hz1
      have f0 := heap_cell (o := 0) (v := .string wd) hB1 (by rfl)
      have fz0 := heap_frozen (o := 0) hB1
      have f1 := heap_cell (o := 1) (v := .string nm) hB1 (by rfl)
      have fz1 := heap_frozen (o := 1) hB1
      have f2 := heap_cell (o := 2) (v := .int .i64 st) hB1 (by rfl)
      have fz2 := heap_frozen (o := 2) hB1
      have f3 := heap_cell (o := 3) (v := .int .i64 ct) hB1 (by rfl)
      have fz3 := heap_frozen (o := 3) hB1
      go_wp2_with fail
      refine (HP.out _ (HT.out.1.keep (by repeat (first | with_reducible exact Below.refl _ _ | assumption | with_reducible refine bel_alloc ?_ _ | with_reducible refine Below.drew ?_ | with_reducible refine bel_drewN ?_ _ | with_reducible refine bel_set ?_ (by go_light; first | (simp; done) | (simp; omega) | omega) _ | refine bel_trans ?_ (by assumption))))).mono ?_
      rintro e w2 ⟨rfl, hb2⟩
      go_wp2
      go_ret3
      exact ⟨rfl, (by repeat (first | with_reducible exact Below.refl _ _ | assumption | with_reducible refine bel_alloc ?_ _ | with_reducible refine Below.drew ?_ | with_reducible refine bel_drewN ?_ _ | with_reducible refine bel_set ?_ (by go_light; first | (simp; done) | (simp; omega) | omega) _ | refine bel_trans ?_ (by assumption)))⟩
    · rw [if_neg hst]
      have q0 : decide (0 < st) = false := by simpa using hst
      clear hst HF HP

      by_cases h1 : isS wd cChar = true
      · rw [if_pos h1]
        simp only [isS_eq, cChar] at h1
        go_enter Tryd.func26, Tryd.ntmps26
        go_wp2_with fail
        refine (HS.out _).mono ?_
        rintro e w1 ⟨rfl, hb1⟩
        dsimp only
        have hB1 := new_heap hb1
        have hz1 := bsize hb1
        simp only [World.size_alloc] at hz1
        have f0 := heap_cell (o := 0) (v := .string wd) hB1 (by rfl)
        have fz0 := heap_frozen (o := 0) hB1
        have f1 := heap_cell (o := 1) (v := .string nm) hB1 (by rfl)
        have fz1 := heap_frozen (o := 1) hB1
        have f2 := heap_cell (o := 2) (v := .int .i64 st) hB1 (by rfl)
        have fz2 := heap_frozen (o := 2) hB1
        have f3 := heap_cell (o := 3) (v := .int .i64 ct) hB1 (by rfl)
        have fz3 := heap_frozen (o := 3) hB1
        go_wp2_with fail
        go_ret3
        exact ⟨rfl, (by repeat (first | with_reducible exact Below.refl _ _ | assumption | with_reducible refine bel_alloc ?_ _ | with_reducible refine Below.drew ?_ | with_reducible refine bel_drewN ?_ _ | with_reducible refine bel_set ?_ (by go_light; first | (simp; done) | (simp; omega) | omega) _ | refine bel_trans ?_ (by assumption)))⟩
      rw [if_neg h1]
      have h1' : isS wd cChar = false := by simpa using h1
      clear h1
      by_cases h2 : isS wd cInt = true
      · rw [if_pos h2]
        simp only [isS_eq, cChar, cInt] at h1' h2
        go_enter Tryd.func26, Tryd.ntmps26
        go_wp2_with fail
        refine (HS.out _).mono ?_
        rintro e w1 ⟨rfl, hb1⟩
        dsimp only
        have hB1 := new_heap hb1
        have hz1 := bsize hb1
        simp only [World.size_alloc] at hz1
        have f0 := heap_cell (o := 0) (v := .string wd) hB1 (by rfl)
        have fz0 := heap_frozen (o := 0) hB1
        have f1 := heap_cell (o := 1) (v := .string nm) hB1 (by rfl)
        have fz1 := heap_frozen (o := 1) hB1
        have f2 := heap_cell (o := 2) (v := .int .i64 st) hB1 (by rfl)
        have fz2 := heap_frozen (o := 2) hB1
        have f3 := heap_cell (o := 3) (v := .int .i64 ct) hB1 (by rfl)
        have fz3 := heap_frozen (o := 3) hB1
        go_wp2_with fail
        go_ret3
        exact ⟨rfl, (by repeat (first | with_reducible exact Below.refl _ _ | assumption | with_reducible refine bel_alloc ?_ _ | with_reducible refine Below.drew ?_ | with_reducible refine bel_drewN ?_ _ | with_reducible refine bel_set ?_ (by go_light; first | (simp; done) | (simp; omega) | omega) _ | refine bel_trans ?_ (by assumption)))⟩
      rw [if_neg h2]
      have h2' : isS wd cInt = false := by simpa using h2
      clear h2
      by_cases h3 : isS wd cLong = true
      · rw [if_pos h3]
        simp only [isS_eq, cChar, cInt, cLong] at h1' h2' h3
        go_enter Tryd.func26, Tryd.ntmps26
        go_wp2_with fail
        refine (HS.out _).mono ?_
        rintro e w1 ⟨rfl, hb1⟩
        dsimp only
        have hB1 := new_heap hb1
        have hz1 := bsize hb1
        simp only [World.size_alloc] at hz1
        have f0 := heap_cell (o := 0) (v := .string wd) hB1 (by rfl)
        have fz0 := heap_frozen (o := 0) hB1
        have f1 := heap_cell (o := 1) (v := .string nm) hB1 (by rfl)
        have fz1 := heap_frozen (o := 1) hB1
        have f2 := heap_cell (o := 2) (v := .int .i64 st) hB1 (by rfl)
        have fz2 := heap_frozen (o := 2) hB1
        have f3 := heap_cell (o := 3) (v := .int .i64 ct) hB1 (by rfl)
        have fz3 := heap_frozen (o := 3) hB1
        go_wp2_with fail
        go_ret3
        exact ⟨rfl, (by repeat (first | with_reducible exact Below.refl _ _ | assumption | with_reducible refine bel_alloc ?_ _ | with_reducible refine Below.drew ?_ | with_reducible refine bel_drewN ?_ _ | with_reducible refine bel_set ?_ (by go_light; first | (simp; done) | (simp; omega) | omega) _ | refine bel_trans ?_ (by assumption)))⟩
      rw [if_neg h3]
      have h3' : isS wd cLong = false := by simpa using h3
      clear h3
      simp only [isS_eq, cChar, cInt, cLong] at h1' h2' h3'
      go_enter Tryd.func26, Tryd.ntmps26
      go_wp2_with fail
      refine (HS.out _).mono ?_
      rintro e w1 ⟨rfl, hb1⟩
      dsimp only
      have hB1 := new_heap hb1
      have hz1 := bsize hb1
      simp only [World.size_alloc] at hz1
      have f0 := heap_cell (o := 0) (v := .string wd) hB1 (by rfl)
      have fz0 := heap_frozen (o := 0) hB1
      have f1 := heap_cell (o := 1) (v := .string nm) hB1 (by rfl)
      have fz1 := heap_frozen (o := 1) hB1
      have f2 := heap_cell (o := 2) (v := .int .i64 st) hB1 (by rfl)
      have fz2 := heap_frozen (o := 2) hB1
      have f3 := heap_cell (o := 3) (v := .int .i64 ct) hB1 (by rfl)
      have fz3 := heap_frozen (o := 3) hB1
      go_wp2_with fail
      go_ret3
      exact ⟨rfl, (by repeat (first | with_reducible exact Below.refl _ _ | assumption | with_reducible refine bel_alloc ?_ _ | with_reducible refine Below.drew ?_ | with_reducible refine bel_drewN ?_ _ | with_reducible refine bel_set ?_ (by go_light; first | (simp; done) | (simp; omega) | omega) _ | refine bel_trans ?_ (by assumption)))⟩
  · simp only [if_true]
    clear HP
    go_enter Tryd.func26, Tryd.ntmps26
    go_wp2_with fail
    refine (HS.out _).mono ?_
    rintro e w1 ⟨rfl, hb1⟩
    dsimp only
    have hB1 := new_heap hb1
    have hz1 := bsize hb1
    simp only [World.size_alloc] at hz1
    have f0 := heap_cell (o := 0) (v := .string wd) hB1 (by rfl)
    have fz0 := heap_frozen (o := 0) hB1
    have f1 := heap_cell (o := 1) (v := .string nm) hB1 (by rfl)
    have fz1 := heap_frozen (o := 1) hB1
    have f2 := heap_cell (o := 2) (v := .int .i64 st) hB1 (by rfl)
    have fz2 := heap_frozen (o := 2) hB1
    have f3 := heap_cell (o := 3) (v := .int .i64 ct) hB1 (by rfl)
    have fz3 := heap_frozen (o := 3) hB1
    go_wp2_with fail
    refine (HF.out _ (HT.out.1.keep (by repeat (first | with_reducible exact Below.refl _ _ | assumption | with_reducible refine bel_alloc ?_ _ | with_reducible refine Below.drew ?_ | with_reducible refine bel_drewN ?_ _ | with_reducible refine bel_set ?_ (by go_light; first | (simp; done) | (simp; omega) | omega) _ | refine bel_trans ?_ (by assumption))))).mono ?_
    rintro e w2 ⟨pv, rfl, ⟨pa, pc, rfl, hp⟩, hb2⟩
    clear hp
    go_wp2
    go_quiet (fail)
    go_wp2
    go_ret3
    exact ⟨rfl, (by repeat (first | with_reducible exact Below.refl _ _ | assumption | with_reducible refine bel_alloc ?_ _ | with_reducible refine Below.drew ?_ | with_reducible refine bel_drewN ?_ _ | with_reducible refine bel_set ?_ (by go_light; first | (simp; done) | (simp; omega) | omega) _ | refine bel_trans ?_ (by assumption)))⟩

end Go.Proofs.YtpedfnfangaelaaDoor
