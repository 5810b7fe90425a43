/- A part of a machine of our own for closed calls, and of the proof that it says what the runs do. -/
import Derived.Test.YtabiapaiiccnaaaGreatDoorEvSn
set_option linter.unusedSimpArgs false
set_option linter.unusedVariables false
namespace Go.Ev
open Go Go.Proofs Go.Proofs.YtabiapaiiccnaaaGreatDoor
theorem k51 : okPart Tryz.prog p51 100000 200 6 a51 1402 l51 v51 1639 d51 = true := by kernel_rfl
theorem k52 : okPart Tryz.prog p52 100000 200 9 a52 1641 l52 v52 1742 d52 = true := by kernel_rfl
end Go.Ev
