/- A part of a machine of our own for closed calls, and of the proof that it says what the runs do. -/
import Derived.Test.YtdnjjejfnmilpaaGreatDoorEvDefs
import Derived.Test.YtdnjjejfnmilpaaGreatDoorRows
set_option linter.unusedSimpArgs false
set_option linter.unusedVariables false
namespace Go.Ev
open Go Go.RowKit Go.Proofs Go.Proofs.YtdnjjejfnmilpaaGreatDoor
noncomputable def h0 : H := (putL 0 Rows.laid_plumbob_ltl_params (putA 2 Rows.laid_plumbob_rtl_shapes (putL 1 Rows.laid_math_bits_deBruijn64tab ⟨3, .nil⟩)))
noncomputable def vals : FuncId → List Value → Option Value := fun f args => match f, args with

  | _, _ => none
noncomputable def pr0 : Prim := bare vals
end Go.Ev
