/- A part of a machine of our own for closed calls, and of the proof that it says what the runs do. -/
import Derived.Test.YtdpmaekomdbmgaaGreatDoorEvSn
set_option linter.unusedSimpArgs false
set_option linter.unusedVariables false
namespace Go.Ev
open Go Go.Proofs Go.Proofs.YtdpmaekomdbmgaaGreatDoor
theorem k45 : okPart Tryz.prog p45 100000 200 288 a45 363 l45 v45 713 d45 = true := by kernel_rfl
theorem k46 : okPart Tryz.prog p46 100000 200 288 a46 716 l46 v46 825 d46 = true := by kernel_rfl
end Go.Ev
