/- A closed fact of the program's tie (see TieZ). -/
import Derived.Test.YtdpmaekomdbmgaaGreatDoorRows
import Derived.LaidByTextLater
namespace Go.Proofs.YtdpmaekomdbmgaaGreatDoor
open Go
theorem tieA2 : Tryz.prog.worded (varsWordLater !true) = false := by kernel_rfl
theorem tieA5 : (Tryz.prog.funcNamed "gosem.cut.vars").isSome = true := by kernel_rfl
end Go.Proofs.YtdpmaekomdbmgaaGreatDoor
