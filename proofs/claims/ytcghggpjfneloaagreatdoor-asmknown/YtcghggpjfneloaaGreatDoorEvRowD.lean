/- A part of a machine of our own for closed calls, and of the proof that it says what the runs do. -/
import Derived.Test.YtcghggpjfneloaaGreatDoorEvRowC
set_option linter.unusedSimpArgs false
set_option linter.unusedVariables false
namespace Go.Proofs.YtcghggpjfneloaaGreatDoor
open Go.ChangeShapes Go.WideShapes Go.ChangeAt Go.RowKit Go.Joins Go.Deep
set_option linter.unusedSimpArgs false
set_option linter.unusedVariables false
theorem cdW : Rows.asmKnownRow.wfByText (OpenSpec.ofChange Rows.asmKnownSpec) = true := by kernel_rfl
theorem cdM : Tryz.prog.mainIs = some (true, (String.toList "b3c1ad6de63e270b0b0d4671ed1b6b79c0a1f6d954aeaaf7f15365ac9fc2f4f3")) := by kernel_rfl
theorem cdL : false = Tryz.prog.looks [] := by kernel_rfl
theorem cdG0 : Tryz.prog.funcs.any Func.goes = false := by kernel_rfl
theorem goes_none {P : Program} (h : P.funcs.any Func.goes = false) (f : FuncId) : P.goes f = false := by
  have h1 : ∀ g : FuncId, (P.funcs[g]?).any Func.goes = false := fun g => by
    cases hg : P.funcs[g]? with
    | none => rfl
    | some fn =>
      obtain ⟨hi, e⟩ := Array.getElem?_eq_some_iff.1 hg
      have := (Array.any_eq_false.1 h) g hi
      rw [e] at this
      show Func.goes fn = false
      simpa using this
  unfold Program.goes
  rw [h, Bool.and_false, Bool.or_false]
  exact List.any_eq_false.2 fun g _ => by rw [h1 g]; exact Bool.false_ne_true
theorem goesAt_none {P : Program} (h : P.funcs.any Func.goes = false) (st : Start) (n : String) : P.goesAt st n = false := by
  unfold Program.goesAt Program.goesFrom
  have h2 : ∀ o : Option FuncId, o.any P.goes = false := fun o => by
    cases o with
    | none => rfl
    | some f => exact goes_none h f
  have h3 : P.inits.toList.any P.goes = false := List.any_eq_false.2 fun g _ => by rw [goes_none h g]; exact Bool.false_ne_true
  rw [h2, Bool.false_or]
  split
  · rfl
  · exact h3
theorem cdG : false = Rows.asmKnownRow.goesBy Tryz.prog := (goesAt_none cdG0 _ _).symm
end Go.Proofs.YtcghggpjfneloaaGreatDoor
