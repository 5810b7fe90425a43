/- A part of a machine of our own for closed calls, and of the proof that it says what the runs do. -/
import Derived.Test.YtdpmaekomdbmgaaGreatDoorEvSn
set_option linter.unusedSimpArgs false
set_option linter.unusedVariables false
namespace Go.Ev
open Go Go.Proofs Go.Proofs.YtdpmaekomdbmgaaGreatDoor
theorem k43 : okPart Tryz.prog p43 100000 200 26 a43 26 l43 v43 244 d43 = true := by kernel_rfl
theorem k44 : okPart Tryz.prog p44 100000 200 288 a44 525 l44 v44 706 d44 = true := by kernel_rfl
end Go.Ev
