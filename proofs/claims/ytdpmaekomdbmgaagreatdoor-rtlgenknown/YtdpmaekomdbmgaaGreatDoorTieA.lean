/- A closed fact of the program's tie (see TieZ). -/
import Derived.Test.YtdpmaekomdbmgaaGreatDoorRows
import Derived.LaidByTextLater
namespace Go.Proofs.YtdpmaekomdbmgaaGreatDoor
open Go
theorem tieA7 : ∀ os tape, varsDone Tryz.prog 400 (varsId Tryz.prog) os tape = true := fun _ _ => by kernel_rfl
end Go.Proofs.YtdpmaekomdbmgaaGreatDoor
