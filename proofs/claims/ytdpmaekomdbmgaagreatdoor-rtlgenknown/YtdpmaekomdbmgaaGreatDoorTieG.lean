/- A closed fact of the program's tie (see TieZ). -/
import Derived.Test.YtdpmaekomdbmgaaGreatDoorRows
import Derived.LaidByTextLater
namespace Go.Proofs.YtdpmaekomdbmgaaGreatDoor
open Go
theorem tieA3 : Tryz.prog.worded rootWordLater = true := by kernel_rfl
end Go.Proofs.YtdpmaekomdbmgaaGreatDoor
