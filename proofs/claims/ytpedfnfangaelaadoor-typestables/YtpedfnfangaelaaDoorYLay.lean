/- Package types: contracts of Scalar, Elem, Layout. -/
import Derived.Test.YtpedfnfangaelaaDoorYSize2
import Derived.Deep.AppendLies
import Derived.Lib.SmallJoins
import Derived.Laws.AppendOwn
namespace Go.Proofs.YtpedfnfangaelaaDoor
open Go.ChangeShapes Go.WideShapes Go.ChangeAt Go.RowKit
set_option linter.unusedSimpArgs false
set_option linter.unusedVariables false

/-- Is it of numbers, or a pointer? -/
def scF (T : Tab) (t : ByteArray) : Bool := (parseS t).2 && (!(parseS t).1.isArray && (!(parseS t).1.isStruct && (sgF T (parseS t).1).2.2))

set_option maxHeartbeats 4000000 in
theorem scalar_any (tb : Nat) (T : Tab) (t : ByteArray) (ht : (t.size : Int) ≤ 4611686018427387904) (w : World) (h : TabAt w tb T) :
    Calls Tryd.prog 19 #[.pointer (some ⟨tb, 0, none⟩), .string t] w (retP (.bool (scF T t)) w) := by
  have HT : Hid (TabAt w tb T) := h
  have HP : Hid (∀ w, Calls Tryd.prog 25 #[.string t] w (retP (.tuple #[(parseS t).1.v, .bool (parseS t).2]) w)) := fun w => parse_any t ht w
  have hn : (parseS t).1.name.size ≤ maxLen := by have := parse_name t; unfold maxLen; omega
  have HG : Hid (∀ w', TabAt w' tb T → Calls Tryd.prog 26 #[.pointer (some ⟨tb, 0, none⟩), (parseS t).1.v] w' (retP (.tuple #[.int .i64 (sgF T (parseS t).1).1, .int .i64 (sgF T (parseS t).1).2.1, .bool (sgF T (parseS t).1).2.2]) w')) := fun w' h' => single_any tb T _ hn w' h'
  have HA : Hid (∀ w, Calls Tryd.prog 27 #[(parseS t).1.v] w (retP (.bool (parseS t).1.isArray) w)) := fun w => isArray_any _ w
  have HS : Hid (∀ w, Calls Tryd.prog 39 #[(parseS t).1.v] w (retP (.bool (parseS t).1.isStruct) w)) := fun w => isStruct_any _ w
  clear h hn ht
  unfold scF
  generalize (parseS t).1 = f at *
  generalize (parseS t).2 = ok at *
  generalize sgF T f = sg at *
  generalize f.isArray = ar at *
  generalize f.isStruct = ss at *
  obtain ⟨wd, nm, st, ct⟩ := f
  obtain ⟨s0, s1, s2⟩ := sg
  simp only [Fm.v] at *
  cases ok
  · simp only [Bool.false_and]
    clear HG HA HS
    go_enter Tryd.func19, Tryd.ntmps19
    go_wp2_with fail
    refine (HP.out _).mono ?_
    rintro e w1 ⟨rfl, hb1⟩
    dsimp only
    go_wp2_with fail
    go_ret
    exact ⟨rfl, (by repeat (first | with_reducible exact Below.refl _ _ | assumption | with_reducible refine bel_alloc ?_ _ | with_reducible refine Below.drew ?_ | with_reducible refine bel_drewN ?_ _ | with_reducible refine bel_set ?_ (by go_light; first | (simp; done) | (simp; omega) | omega) _ | refine bel_trans ?_ (by assumption)))⟩
  cases ar
  · cases ss
    · simp only [Bool.true_and, Bool.not_false]
      go_enter Tryd.func19, Tryd.ntmps19
      go_wp2_with fail
      refine (HP.out _).mono ?_
      rintro e w1 ⟨rfl, hb1⟩
      dsimp only
      go_wp2_with fail
      refine (HA.out _).mono ?_
      rintro e w2 ⟨rfl, hb2⟩
      dsimp only
      have hB2 := new_heap hb2
      have f0 := heap_cell (o := 0) (v := .string wd) hB2 (by rfl)
      have fz0 := heap_frozen (o := 0) hB2
      have f1 := heap_cell (o := 1) (v := .string nm) hB2 (by rfl)
      have fz1 := heap_frozen (o := 1) hB2
      have f2 := heap_cell (o := 2) (v := .int .i64 st) hB2 (by rfl)
      have fz2 := heap_frozen (o := 2) hB2
      have f3 := heap_cell (o := 3) (v := .int .i64 ct) hB2 (by rfl)
      have fz3 := heap_frozen (o := 3) hB2
      go_wp2_with fail
      refine (HS.out _).mono ?_
      rintro e w3 ⟨rfl, hb3⟩
      dsimp only
      have hB3 := keep_heap hb3 hB2
      have g0 := heap_cell (o := 0) (v := .string wd) hB3 (by rfl)
      have gz0 := heap_frozen (o := 0) hB3
      have g1 := heap_cell (o := 1) (v := .string nm) hB3 (by rfl)
      have gz1 := heap_frozen (o := 1) hB3
      have g2 := heap_cell (o := 2) (v := .int .i64 st) hB3 (by rfl)
      have gz2 := heap_frozen (o := 2) hB3
      have g3 := heap_cell (o := 3) (v := .int .i64 ct) hB3 (by rfl)
      have gz3 := heap_frozen (o := 3) hB3
      go_wp2_with fail
      refine (HG.out _ (HT.out.keep (by repeat (first | with_reducible exact Below.refl _ _ | assumption | with_reducible refine bel_alloc ?_ _ | with_reducible refine Below.drew ?_ | with_reducible refine bel_drewN ?_ _ | with_reducible refine bel_set ?_ (by go_light; first | (simp; done) | (simp; omega) | omega) _ | refine bel_trans ?_ (by assumption))))).mono ?_
      rintro e w4 ⟨rfl, hb4⟩
      go_wp2
      go_ret
      exact ⟨rfl, (by repeat (first | with_reducible exact Below.refl _ _ | assumption | with_reducible refine bel_alloc ?_ _ | with_reducible refine Below.drew ?_ | with_reducible refine bel_drewN ?_ _ | with_reducible refine bel_set ?_ (by go_light; first | (simp; done) | (simp; omega) | omega) _ | refine bel_trans ?_ (by assumption)))⟩
    · simp only [Bool.true_and, Bool.not_false, Bool.not_true, Bool.false_and]
      clear HG
      go_enter Tryd.func19, Tryd.ntmps19
      go_wp2_with fail
      refine (HP.out _).mono ?_
      rintro e w1 ⟨rfl, hb1⟩
      dsimp only
      go_wp2_with fail
      refine (HA.out _).mono ?_
      rintro e w2 ⟨rfl, hb2⟩
      dsimp only
      have hB2 := new_heap hb2
      have f0 := heap_cell (o := 0) (v := .string wd) hB2 (by rfl)
      have fz0 := heap_frozen (o := 0) hB2
      have f1 := heap_cell (o := 1) (v := .string nm) hB2 (by rfl)
      have fz1 := heap_frozen (o := 1) hB2
      have f2 := heap_cell (o := 2) (v := .int .i64 st) hB2 (by rfl)
      have fz2 := heap_frozen (o := 2) hB2
      have f3 := heap_cell (o := 3) (v := .int .i64 ct) hB2 (by rfl)
      have fz3 := heap_frozen (o := 3) hB2
      go_wp2_with fail
      refine (HS.out _).mono ?_
      rintro e w3 ⟨rfl, hb3⟩
      dsimp only
      have hB3 := keep_heap hb3 hB2
      have g0 := heap_cell (o := 0) (v := .string wd) hB3 (by rfl)
      have gz0 := heap_frozen (o := 0) hB3
      have g1 := heap_cell (o := 1) (v := .string nm) hB3 (by rfl)
      have gz1 := heap_frozen (o := 1) hB3
      have g2 := heap_cell (o := 2) (v := .int .i64 st) hB3 (by rfl)
      have gz2 := heap_frozen (o := 2) hB3
      have g3 := heap_cell (o := 3) (v := .int .i64 ct) hB3 (by rfl)
      have gz3 := heap_frozen (o := 3) hB3
      go_wp2_with fail
      go_ret
      exact ⟨rfl, (by repeat (first | with_reducible exact Below.refl _ _ | assumption | with_reducible refine bel_alloc ?_ _ | with_reducible refine Below.drew ?_ | with_reducible refine bel_drewN ?_ _ | with_reducible refine bel_set ?_ (by go_light; first | (simp; done) | (simp; omega) | omega) _ | refine bel_trans ?_ (by assumption)))⟩
  · simp only [Bool.true_and, Bool.not_true, Bool.false_and]
    clear HG HS
    go_enter Tryd.func19, Tryd.ntmps19
    go_wp2_with fail
    refine (HP.out _).mono ?_
    rintro e w1 ⟨rfl, hb1⟩
    dsimp only
    go_wp2_with fail
    refine (HA.out _).mono ?_
    rintro e w2 ⟨rfl, hb2⟩
    dsimp only
    have hB2 := new_heap hb2
    have f0 := heap_cell (o := 0) (v := .string wd) hB2 (by rfl)
    have fz0 := heap_frozen (o := 0) hB2
    have f1 := heap_cell (o := 1) (v := .string nm) hB2 (by rfl)
    have fz1 := heap_frozen (o := 1) hB2
    have f2 := heap_cell (o := 2) (v := .int .i64 st) hB2 (by rfl)
    have fz2 := heap_frozen (o := 2) hB2
    have f3 := heap_cell (o := 3) (v := .int .i64 ct) hB2 (by rfl)
    have fz3 := heap_frozen (o := 3) hB2
    go_wp2_with fail
    go_ret
    exact ⟨rfl, (by repeat (first | with_reducible exact Below.refl _ _ | assumption | with_reducible refine bel_alloc ?_ _ | with_reducible refine Below.drew ?_ | with_reducible refine bel_drewN ?_ _ | with_reducible refine bel_set ?_ (by go_light; first | (simp; done) | (simp; omega) | omega) _ | refine bel_trans ?_ (by assumption)))⟩
/-- What an array or a pointer is of. -/
def elF (t : ByteArray) : ByteArray × Bool :=
  if ((parseS t).2 && (parseS t).1.isArray) = true then (t.extract 0 (Lib.indexByte t.data.toList 91).toNat, true)
  else if ((parseS t).2 && (parseS t).1.isPointer) = true then (t.extract 0 (t.size - 1), true) else (⟨#[]⟩, false)
theorem isArray_ix (t : ByteArray) (h : (parseS t).1.isArray = true) : 0 ≤ Lib.indexByte t.data.toList 91 := by
  simp only [Fm.isArray, decide_eq_true_eq] at h
  unfold parseS at h
  split at h
  · simp only [formS] at h
    unfold cutC at h
    split at h
    · rename_i h2
      unfold cut1 at h2
      split at h2
      · assumption
      · simp at h2
    · simp at h
  · simp at h
theorem isPointer_size (t : ByteArray) (h : (parseS t).1.isPointer = true) : 1 ≤ t.size := by
  simp only [Fm.isPointer, Bool.and_eq_true, decide_eq_true_eq] at h
  replace h := h.1
  unfold parseS at h
  split at h
  · simp only [formS] at h
    have := size_cutC t
    omega
  · simp at h

set_option maxHeartbeats 4000000 in
theorem elem_any (t : ByteArray) (ht : t.size ≤ 281474976710656) (w : World) :
    Calls Tryd.prog 13 #[.string t] w (retP (.tuple #[.string (elF t).1, .bool (elF t).2]) w) := by
  have HP : Hid (∀ w, Calls Tryd.prog 25 #[.string t] w (retP (.tuple #[(parseS t).1.v, .bool (parseS t).2]) w)) := fun w => parse_any t (by omega) w
  have HA : Hid (∀ w, Calls Tryd.prog 27 #[(parseS t).1.v] w (retP (.bool (parseS t).1.isArray) w)) := fun w => isArray_any _ w
  have HQ : Hid (∀ w, Calls Tryd.prog 33 #[(parseS t).1.v] w (retP (.bool (parseS t).1.isPointer) w)) := fun w => isPointer_any _ w
  have HX : Hid (∀ w, Calls Tryd.prog 32 #[.string t, .int .u8 91] w fun e w' => e = .returned (.int .i64 (Lib.indexByte t.data.toList 91)) ∧ w' = w) := fun w => Tryd.strings_IndexByte t 91 w
  have HC : Hid (∀ s : ByteArray, s.size ≤ t.size → ∀ w, Calls Tryd.prog 31 #[.string s] w (retP (.string s) w)) := fun s hs w => clone_any s w (by omega)
  have hix := isArray_ix t
  have hip := isPointer_size t
  have hlt := indexByte_lt t.data.toList 91
  unfold elF
  generalize Lib.indexByte t.data.toList 91 = ix at *
  generalize (parseS t).1 = f at *
  generalize (parseS t).2 = ok at *
  generalize f.isArray = ar at *
  generalize f.isPointer = ip at *
  obtain ⟨wd, nm, st, ct⟩ := f
  simp only [Fm.v] at *
  cases ok
  · simp only [Bool.false_and, Bool.false_eq_true, if_false]
    clear HA HQ HX HC hix hip hlt
    go_enter Tryd.func13, Tryd.ntmps13
    go_wp2_with fail
    refine (HP.out _).mono ?_
    rintro e w1 ⟨rfl, hb1⟩
    dsimp only
    go_wp2_with fail
    go_ret2
    exact ⟨rfl, (by repeat (first | with_reducible exact Below.refl _ _ | assumption | with_reducible refine bel_alloc ?_ _ | with_reducible refine Below.drew ?_ | with_reducible refine bel_drewN ?_ _ | with_reducible refine bel_set ?_ (by go_light; first | (simp; done) | (simp; omega) | omega) _ | refine bel_trans ?_ (by assumption)))⟩
  cases ar
  · simp only [Bool.true_and, Bool.false_eq_true, if_false]
    clear HX hix hlt
    cases ip
    · simp only [Bool.false_eq_true, if_false]
      clear HC hip
      go_enter Tryd.func13, Tryd.ntmps13
      go_wp2_with fail
      refine (HP.out _).mono ?_
      rintro e w1 ⟨rfl, hb1⟩
      dsimp only
      go_wp2_with fail
      refine (HA.out _).mono ?_
      rintro e w2 ⟨rfl, hb2⟩
      dsimp only
      have hB2 := new_heap hb2
      have f0 := heap_cell (o := 0) (v := .string wd) hB2 (by rfl)
      have fz0 := heap_frozen (o := 0) hB2
      have f1 := heap_cell (o := 1) (v := .string nm) hB2 (by rfl)
      have fz1 := heap_frozen (o := 1) hB2
      have f2 := heap_cell (o := 2) (v := .int .i64 st) hB2 (by rfl)
      have fz2 := heap_frozen (o := 2) hB2
      have f3 := heap_cell (o := 3) (v := .int .i64 ct) hB2 (by rfl)
      have fz3 := heap_frozen (o := 3) hB2
      go_wp2_with fail
      refine (HQ.out _).mono ?_
      rintro e w3 ⟨rfl, hb3⟩
      dsimp only
      have hB3 := keep_heap hb3 hB2
      have g0 := heap_cell (o := 0) (v := .string wd) hB3 (by rfl)
      have gz0 := heap_frozen (o := 0) hB3
      have g1 := heap_cell (o := 1) (v := .string nm) hB3 (by rfl)
      have gz1 := heap_frozen (o := 1) hB3
      have g2 := heap_cell (o := 2) (v := .int .i64 st) hB3 (by rfl)
      have gz2 := heap_frozen (o := 2) hB3
      have g3 := heap_cell (o := 3) (v := .int .i64 ct) hB3 (by rfl)
      have gz3 := heap_frozen (o := 3) hB3
      go_wp2_with fail
      go_ret2
      exact ⟨rfl, (by repeat (first | with_reducible exact Below.refl _ _ | assumption | with_reducible refine bel_alloc ?_ _ | with_reducible refine Below.drew ?_ | with_reducible refine bel_drewN ?_ _ | with_reducible refine bel_set ?_ (by go_light; first | (simp; done) | (simp; omega) | omega) _ | refine bel_trans ?_ (by assumption)))⟩
    · simp only [if_true]
      have hp := hip rfl
      clear hip
      obtain ⟨k, hk⟩ : ∃ k, t.size = k + 1 := ⟨t.size - 1, by omega⟩
      have hw64 : wrap64 ((t.size : Int) - 1) = (k : Int) := by unfold wrap64; omega
      have k0 : (0 : Int) ≤ k := by omega
      have k1 : (k : Int) ≤ t.size := by omega
      have hkk : t.size - 1 = k := by omega
      rw [hkk]
      have HZ : Hid ((t.extract 0 k).size ≤ t.size) := by show _ ≤ _; simp only [ByteArray.size_extract]; omega
      clear hp ht hk hkk
      go_enter Tryd.func13, Tryd.ntmps13
      go_wp2_with fail
      refine (HP.out _).mono ?_
      rintro e w1 ⟨rfl, hb1⟩
      dsimp only
      go_wp2_with fail
      refine (HA.out _).mono ?_
      rintro e w2 ⟨rfl, hb2⟩
      dsimp only
      have hB2 := new_heap hb2
      have f0 := heap_cell (o := 0) (v := .string wd) hB2 (by rfl)
      have fz0 := heap_frozen (o := 0) hB2
      have f1 := heap_cell (o := 1) (v := .string nm) hB2 (by rfl)
      have fz1 := heap_frozen (o := 1) hB2
      have f2 := heap_cell (o := 2) (v := .int .i64 st) hB2 (by rfl)
      have fz2 := heap_frozen (o := 2) hB2
      have f3 := heap_cell (o := 3) (v := .int .i64 ct) hB2 (by rfl)
      have fz3 := heap_frozen (o := 3) hB2
      go_wp2_with fail
      refine (HQ.out _).mono ?_
      rintro e w3 ⟨rfl, hb3⟩
      dsimp only
      have hB3 := keep_heap hb3 hB2
      have g0 := heap_cell (o := 0) (v := .string wd) hB3 (by rfl)
      have gz0 := heap_frozen (o := 0) hB3
      have g1 := heap_cell (o := 1) (v := .string nm) hB3 (by rfl)
      have gz1 := heap_frozen (o := 1) hB3
      have g2 := heap_cell (o := 2) (v := .int .i64 st) hB3 (by rfl)
      have gz2 := heap_frozen (o := 2) hB3
      have g3 := heap_cell (o := 3) (v := .int .i64 ct) hB3 (by rfl)
      have gz3 := heap_frozen (o := 3) hB3
      go_wp2_with fail
      refine (HC.out _ HZ.out _).mono ?_
      rintro e w4 ⟨rfl, hb4⟩
      go_wp2
      go_ret2
      exact ⟨rfl, (by repeat (first | with_reducible exact Below.refl _ _ | assumption | with_reducible refine bel_alloc ?_ _ | with_reducible refine Below.drew ?_ | with_reducible refine bel_drewN ?_ _ | with_reducible refine bel_set ?_ (by go_light; first | (simp; done) | (simp; omega) | omega) _ | refine bel_trans ?_ (by assumption)))⟩
  · simp only [Bool.true_and, if_true]
    have hi0 := hix rfl
    obtain ⟨k, rfl⟩ : ∃ k : Nat, ix = (k : Int) := ⟨ix.toNat, by omega⟩
    simp only [Int.toNat_natCast]
    have k1 : (k : Int) ≤ t.size := by
      have : (t.data.toList.length : Int) = t.size := rfl
      omega
    have HZ : Hid ((t.extract 0 k).size ≤ t.size) := by show _ ≤ _; simp only [ByteArray.size_extract]; omega
    clear hix hip hlt ht HQ
    go_enter Tryd.func13, Tryd.ntmps13
    go_wp2_with fail
    refine (HP.out _).mono ?_
    rintro e w1 ⟨rfl, hb1⟩
    dsimp only
    go_wp2_with fail
    refine (HA.out _).mono ?_
    rintro e w2 ⟨rfl, hb2⟩
    dsimp only
    have hB2 := new_heap hb2
    have f0 := heap_cell (o := 0) (v := .string wd) hB2 (by rfl)
    have fz0 := heap_frozen (o := 0) hB2
    have f1 := heap_cell (o := 1) (v := .string nm) hB2 (by rfl)
    have fz1 := heap_frozen (o := 1) hB2
    have f2 := heap_cell (o := 2) (v := .int .i64 st) hB2 (by rfl)
    have fz2 := heap_frozen (o := 2) hB2
    have f3 := heap_cell (o := 3) (v := .int .i64 ct) hB2 (by rfl)
    have fz3 := heap_frozen (o := 3) hB2
    go_wp2_with fail
    refine (HX.out _).mono ?_
    rintro e w3 ⟨rfl, hw⟩
    replace hw := hw.symm
    subst hw
    dsimp only
    go_wp2_with fail
    refine (HC.out _ HZ.out _).mono ?_
    rintro e w4 ⟨rfl, hb4⟩
    go_wp2
    go_ret2
    exact ⟨rfl, (by repeat (first | with_reducible exact Below.refl _ _ | assumption | with_reducible refine bel_alloc ?_ _ | with_reducible refine Below.drew ?_ | with_reducible refine bel_drewN ?_ _ | with_reducible refine bel_set ?_ (by go_light; first | (simp; done) | (simp; omega) | omega) _ | refine bel_trans ?_ (by assumption)))⟩

end Go.Proofs.YtpedfnfangaelaaDoor
