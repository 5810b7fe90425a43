/- TraceOrder: its regions. -/
import Derived.Test.YtokdnjnkgflbcaaDoorTOrderA
import Derived.Deep.DeepCutAuto
namespace Go.Proofs.YtokdnjnkgflbcaaDoor
open Go.ChangeShapes Go.WideShapes Go.ChangeAt Go.RowKit Go.Joins Go.Deep Pl
set_option linter.unusedSimpArgs false
set_option linter.unusedVariables false

/-- The region n of a code. -/
def regionN (n : Nat) : Code → Option Code
  | .region k o b => if k = n then some (.region k o b) else none
  | .seq a b => match regionN n a with
    | some c => some c
    | none => regionN n b
  | .block _ c => regionN n c
  | .scope c => regionN n c
  | .loop c => regionN n c
  | .cond _ a b => match regionN n a with
    | some c => some c
    | none => regionN n b
  | _ => none
noncomputable def toR5 : Code := ((Tryd.f6.body.bind (regionN 5)).getD .skip)
noncomputable def toR7 : Code := ((Tryd.f6.body.bind (regionN 7)).getD .skip)
noncomputable def toR9 : Code := ((Tryd.f6.body.bind (regionN 9)).getD .skip)
end Go.Proofs.YtokdnjnkgflbcaaDoor
