/- A part of a machine of our own for closed calls, and of the proof that it says what the runs do. -/
import Derived.Test.YtcghggpjfneloaaGreatDoorEvSn
set_option linter.unusedSimpArgs false
set_option linter.unusedVariables false
namespace Go.Ev
open Go Go.Proofs Go.Proofs.YtcghggpjfneloaaGreatDoor
theorem k1 : okPart Tryz.prog p1 100000 200 4 a1 15 l1 v1 149 d1 = true := by kernel_rfl
end Go.Ev
