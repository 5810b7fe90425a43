/- The document's and the program's questions of an instruction, a function, a program are the same. -/
import Derived.Test.YthieicjnenlpfaaGreatDoorGIter
namespace Go.Proofs.YthieicjnenlpfaaGreatDoor
open Go.ChangeShapes Go.WideShapes Go.ChangeAt Go.RowKit
set_option linter.unusedSimpArgs false
set_option linter.unusedVariables false

def glackS (x : Sp) (a b : Int) (l : List Int) : Bool := lackB x.a a || lackB x.b b || (x.args && l.contains (-1))
def gnameB (x : Sp) : Bool := x.name.data.toList.isEmpty
def glastB (x : Sp) (op sub d k regs frame : Int) : Bool := targetB x.d d regs && mayB x.sub sub && (op != 9 || withinB k frame)
/-- May an instruction be one of a function's? -/
def takesF (regs frame n : Int) (i : Ins) : Bool :=
  !gnameB (shOf i.op) && (!glackS (shOf i.op) i.a i.b i.args && ((usP (shOf i.op) i.a i.b (if (shOf i.op).args = true then i.args else [])).all (inB regs) && ((succsF i.op i.s i.t).all (inB n) && glastB (shOf i.op) i.op i.sub i.d i.k regs frame)))
theorem filter_none {l : List Int} (h : l.contains (-1) = false) : l.filter (· != -1) = l := by
  rw [List.filter_eq_self]
  intro x hx
  have : x ≠ -1 := fun e => by
    subst e
    rw [← List.contains_iff_mem, h] at hx
    cases hx
  simpa using this
theorem inB_neg {m : Int} : inB m (-1) = false := by simp [inB]
theorem all_neg {m : Int} {l : List Int} (h : l.contains (-1) = true) : l.all (inB m) = false := by
  rw [List.contains_iff_mem] at h
  exact List.all_eq_false.2 ⟨-1, h, by simp [inB_neg]⟩
theorem inB_wr {m d : Int} (h0 : 0 ≤ m) : inB m d = (!(d == -1) && !(decide (m ≤ d) || decide (d < -1))) := by
  unfold inB
  rw [Bool.eq_iff_iff]
  simp
  omega
theorem takes_right (regs frame n : Int) (i : Ins) (h0 : 0 ≤ regs) : takesF regs frame n i = rightF regs frame n i := by
  obtain ⟨op, sub, a, b, d, k, args, s, t⟩ := i
  by_cases h10 : op = 10
  · subst h10
    cases hc : args.contains (-1) with
    | true =>
      have e1 : takesF regs frame n ⟨10, sub, a, b, d, k, args, s, t⟩ = false := by
        have : (glackS (shOf 10) a b args) = true := by
          show (lackB 0 a || lackB 0 b || (true && args.contains (-1))) = true
          rw [hc]
          simp
        rw [takesF]
        simp only [this, Bool.not_true, Bool.false_and, Bool.and_false]
      have e2 : rightF regs frame n ⟨10, sub, a, b, d, k, args, s, t⟩ = false := by
        rw [rightF, rightL]
        have : (usesF 10 a b args).all (inB regs) = false := by
          have hu : usesF 10 a b args = args := by simp [usesF, useA, useB]
          rw [hu]
          exact all_neg hc
        simp only [this, Bool.false_and, Bool.and_false]
      rw [e1, e2]
    | false =>
      have hf := filter_none hc
      have hu : usP (shOf 10) a b (if (shOf 10).args = true then args else []) = args := by
        show (if readB 0 a = true then [a] else []) ++ ((if readB 0 b = true then [b] else []) ++ args.filter (· != -1)) = args
        rw [hf]
        simp [readB]
      have hl : glackS (shOf 10) a b args = false := by
        show (lackB 0 a || lackB 0 b || (true && args.contains (-1))) = false
        rw [hc]
        simp [lackB]
      have hu2 : usesF 10 a b args = args := by simp [usesF, useA, useB]
      rw [takesF, rightF, rightL]
      simp only [hu, hl, hu2]
      rw [Bool.eq_iff_iff]
      simp [shOf, spTab, gnameB, targetB, mayB, subOk, needA, needB, needD, writesF, wrOps, succsF, inB, glastB, lackL]
      constructor
      · rintro ⟨h1, h2, h3⟩
        refine ⟨by omega, h1, by omega, h2⟩
      · rintro ⟨h1, h2, h3, h4⟩
        exact ⟨h2, h4, by omega⟩
  rcases op_cases op with rfl | rfl | rfl | rfl | rfl | rfl | rfl | rfl | rfl | rfl | rfl | rfl | rfl | rfl | ho
  case inr.inr.inr.inr.inr.inr.inr.inr.inr.inr.inr.inr.inr.inr =>
    have e1 : gnameB (shOf op) = true := by
      by_cases h : op = 0
      · subst h; rfl
      · rw [shOf_none (by omega)]; rfl
    have e2 : subOk op sub k frame = false := by
      unfold subOk
      rw [if_neg (by omega), if_neg (by omega), if_neg (by omega), if_neg (by omega), if_neg (by omega)]
      simp
      omega
    rw [takesF, rightF, rightL]
    simp only [e1, e2, Bool.not_true, Bool.false_and, Bool.and_false]
  all_goals first
    | exact absurd rfl h10
    | (by_cases ha : a = -1 <;> by_cases hb : b = -1 <;> (rw [Bool.eq_iff_iff]; simp [takesF, rightF, rightL, lackL, shOf, spTab, gnameB, glackS, usP, usesF, useA, useB, readB, lackB, targetB, mayB, subOk, needA, needB, needD, writesF, wrOps, succsF, inB, glastB, withinB, ha, hb]; try omega))
end Go.Proofs.YthieicjnenlpfaaGreatDoor
