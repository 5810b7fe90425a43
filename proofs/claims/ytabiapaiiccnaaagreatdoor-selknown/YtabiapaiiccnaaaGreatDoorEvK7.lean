/- A part of a machine of our own for closed calls, and of the proof that it says what the runs do. -/
import Derived.Test.YtabiapaiiccnaaaGreatDoorEvSn
set_option linter.unusedSimpArgs false
set_option linter.unusedVariables false
namespace Go.Ev
open Go Go.Proofs Go.Proofs.YtabiapaiiccnaaaGreatDoor
theorem k53 : okPart Tryz.prog p53 100000 200 19 a53 1744 l53 v53 1816 d53 = true := by kernel_rfl
theorem k54 : okPart Tryz.prog p54 100000 200 11 a54 1743 l54 v54 1943 d54 = true := by kernel_rfl
end Go.Ev
