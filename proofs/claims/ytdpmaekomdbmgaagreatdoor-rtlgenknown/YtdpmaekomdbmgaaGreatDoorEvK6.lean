/- A part of a machine of our own for closed calls, and of the proof that it says what the runs do. -/
import Derived.Test.YtdpmaekomdbmgaaGreatDoorEvSn
set_option linter.unusedSimpArgs false
set_option linter.unusedVariables false
namespace Go.Ev
open Go Go.Proofs Go.Proofs.YtdpmaekomdbmgaaGreatDoor
theorem k51 : okPart Tryz.prog p51 100000 200 16 a51 1401 l51 v51 1815 d51 = true := by kernel_rfl
theorem k52 : okPart Tryz.prog p52 100000 200 5 a52 24 l52 v52 1816 d52 = true := by kernel_rfl
end Go.Ev
