/- A part of a machine of our own for closed calls, and of the proof that it says what the runs do. -/
import Derived.Test.YtdpmaekomdbmgaaGreatDoorEvSn
set_option linter.unusedSimpArgs false
set_option linter.unusedVariables false
namespace Go.Ev
open Go Go.Proofs Go.Proofs.YtdpmaekomdbmgaaGreatDoor
theorem k88 : okPart Tryz.prog p88 100000 200 12 a88 2516 l88 v88 3053 d88 = true := by kernel_rfl
theorem k89 : okPart Tryz.prog p89 100000 200 13 a89 3054 l89 v89 3232 d89 = true := by kernel_rfl
end Go.Ev
