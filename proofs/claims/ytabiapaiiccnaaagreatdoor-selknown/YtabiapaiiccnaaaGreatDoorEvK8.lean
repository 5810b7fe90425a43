/- A part of a machine of our own for closed calls, and of the proof that it says what the runs do. -/
import Derived.Test.YtabiapaiiccnaaaGreatDoorEvSn
set_option linter.unusedSimpArgs false
set_option linter.unusedVariables false
namespace Go.Ev
open Go Go.Proofs Go.Proofs.YtabiapaiiccnaaaGreatDoor
theorem k55 : okPart Tryz.prog p55 100000 200 5 a55 1743 l55 v55 2152 d55 = true := by kernel_rfl
end Go.Ev
