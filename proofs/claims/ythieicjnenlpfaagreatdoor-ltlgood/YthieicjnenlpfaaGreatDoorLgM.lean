/- Over locations: the document's and the program's questions of an instruction are the same. -/
import Derived.Test.YthieicjnenlpfaaGreatDoorGMath
namespace Go.Proofs.YthieicjnenlpfaaGreatDoor
open Go.ChangeShapes Go.WideShapes Go.ChangeAt Go.RowKit
set_option linter.unusedSimpArgs false
set_option linter.unusedVariables false

/-- Where parameters stand. -/
def parL : List Int := [7, 6, 2, 1, 8, 9]
/-- Are these the first ones? -/
def firstF (l : List Int) : Bool := (List.range l.length).all fun i => parL[i]? == l[i]?
theorem firstF_iff {l : List Int} : firstF l = true ↔ ∀ (i : Nat) x, l[i]? = some x → parL[i]? = some x := by
  unfold firstF
  rw [List.all_eq_true]
  constructor
  · intro h i x hx
    have hi := (List.getElem?_eq_some_iff.1 hx).1
    have := h i (List.mem_range.2 hi)
    rw [hx] at this
    simpa using this
  · intro h i hi
    have hi := List.mem_range.1 hi
    have e := List.getElem?_eq_getElem hi
    rw [e, h i _ e]
    simp
theorem firstF_bad {l : List Int} {i : Nat} {x : Int} (hx : l[i]? = some x) (h : parL[i]? ≠ some x) : firstF l = false := by
  cases hq : firstF l with
  | false => rfl
  | true => exact absurd (firstF_iff.1 hq i x hx) h
theorem firstF_long {l : List Int} (h : 6 < l.length) : firstF l = false :=
  firstF_bad (List.getElem?_eq_getElem h) (by simp [parL])
theorem firstF_mem {l : List Int} (h : firstF l = true) {x : Int} (hx : x ∈ l) : x ∈ parL := by
  obtain ⟨i, hi⟩ := List.getElem?_of_mem hx
  exact List.mem_of_getElem? (firstF_iff.1 h i x hi)
/-- A location that is never named. -/
def resB (x : Int) : Bool := x == 4 || x == 10 || x == 11
theorem res_par {x : Int} (h : x ∈ parL) : resB x = false := by
  simp [parL] at h
  rcases h with rfl | rfl | rfl | rfl | rfl | rfl <;> rfl
def usL (x : Ins) : List Int := usP (shOf x.op) x.a x.b (if (shOf x.op).args = true then x.args else [])
/-- The program's question. -/
def tkL (x : Ins) : Bool := if x.op = 10 then firstF x.args && x.d == 0 else if x.op = 12 then x.a == 0 else (usL x).all (fun y => !resB y) && (!readB (shOf x.op).d x.d || !resB x.d)
/-- What the document asks besides. -/
def badL (x : Ins) : Bool := (x.op == 10 && (x.d != 0 || !firstF x.args)) || (x.op == 12 && x.a != 0)
/-- The document's question. -/
def lokF (x : Ins) : Bool := (usesF x.op x.a x.b x.args ++ [writesF x.op x.d]).all (fun y => !resB y) && !badL x
theorem usL_eq {regs frame n : Int} {i : Ins} (h0 : 0 ≤ regs) (h : rightF regs frame n i = true) (h10 : i.op ≠ 10) : usL i = usesF i.op i.a i.b i.args := by
  have ht := h
  rw [← takes_right regs frame n i h0] at ht
  obtain ⟨op, sub, a, b, d, k, args, s, t⟩ := i
  rcases op_cases op with rfl | rfl | rfl | rfl | rfl | rfl | rfl | rfl | rfl | rfl | rfl | rfl | rfl | rfl | ho
  case inr.inr.inr.inr.inr.inr.inr.inr.inr.inr.inr.inr.inr.inr =>
    have e1 : gnameB (shOf op) = true := by
      by_cases h : op = 0
      · subst h; rfl
      · rw [shOf_none (by omega)]; rfl
    unfold takesF at ht
    simp [e1] at ht
  all_goals first
    | exact absurd rfl h10
    | (by_cases ha : a = -1 <;> by_cases hb : b = -1 <;> simp [usL, shOf, spTab, usP, usesF, useA, useB, readB, ha, hb])
theorem inL_iff {m x : Int} : inB m x = true ↔ 0 ≤ x ∧ x < m := by unfold inB; simp
theorem wrL_eq {regs frame n : Int} {i : Ins} (h0 : 0 ≤ regs) (h : rightF regs frame n i = true) (h10 : i.op ≠ 10) : (!readB (shOf i.op).d i.d || !resB i.d) = !resB (writesF i.op i.d) := by
  have ht := h
  rw [← takes_right regs frame n i h0] at ht
  obtain ⟨op, sub, a, b, d, k, args, s, t⟩ := i
  rcases op_cases op with rfl | rfl | rfl | rfl | rfl | rfl | rfl | rfl | rfl | rfl | rfl | rfl | rfl | rfl | ho
  case inr.inr.inr.inr.inr.inr.inr.inr.inr.inr.inr.inr.inr.inr =>
    have e1 : gnameB (shOf op) = true := by
      by_cases h : op = 0
      · subst h; rfl
      · rw [shOf_none (by omega)]; rfl
    unfold takesF at ht
    simp [e1] at ht
  all_goals (simp [shOf, spTab, readB, writesF, wrOps]; try rfl)
  all_goals first
    | exact absurd rfl h10
    | (intro e; subst e; rfl)
    | skip
theorem tk_lok {regs frame n : Int} {i : Ins} (h0 : 0 ≤ regs) (h : rightF regs frame n i = true) : tkL i = lokF i := by
  by_cases h10 : i.op = 10
  · have hu : usesF i.op i.a i.b i.args = i.args := by rw [h10]; simp [usesF, useA, useB]
    have hw : writesF i.op i.d = i.d := by rw [h10]; simp [writesF, wrOps]
    unfold tkL lokF badL
    rw [if_pos h10, hu, hw]
    have e12 : (i.op == 12) = false := by rw [h10]; rfl
    have e10 : (i.op == 10) = true := by rw [h10]; rfl
    rw [e12, e10]
    cases hq : firstF i.args with
    | false => simp
    | true =>
      by_cases hd : i.d = 0
      · rw [hd]
        have : (i.args ++ [(0 : Int)]).all (fun y => !resB y) = true := by
          rw [List.all_append, Bool.and_eq_true]
          exact ⟨List.all_eq_true.2 fun x hx => by rw [res_par (firstF_mem hq hx)]; rfl, rfl⟩
        rw [this]
        rfl
      · have hd1 : (i.d == 0) = false := by simpa using hd
        have hd2 : (i.d != 0) = true := by simpa using hd
        rw [hd1, hd2]
        simp
  · have e10 : (i.op == 10) = false := by simpa using h10
    by_cases h12 : i.op = 12
    · have e12 : (i.op == 12) = true := by rw [h12]; rfl
      have hu : usesF i.op i.a i.b i.args = if i.a ≠ -1 then [i.a] else [] := by rw [h12]; simp [usesF, useA, useB]
      have hw : writesF i.op i.d = -1 := by rw [h12]; simp [writesF, wrOps]
      unfold tkL lokF badL
      rw [if_neg h10, if_pos h12, hu, hw, e10, e12]
      by_cases ha : i.a = 0
      · rw [ha]; rfl
      · have hd1 : (i.a == 0) = false := by simpa using ha
        have hd2 : (i.a != 0) = true := by simpa using ha
        rw [hd1, hd2]
        simp
    · have e12 : (i.op == 12) = false := by simpa using h12
      unfold tkL lokF badL
      rw [if_neg h10, if_neg h12, e10, e12, usL_eq h0 h h10, wrL_eq h0 h h10, List.all_append]
      simp
end Go.Proofs.YthieicjnenlpfaaGreatDoor
