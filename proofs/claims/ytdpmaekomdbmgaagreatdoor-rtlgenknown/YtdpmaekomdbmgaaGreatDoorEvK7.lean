/- A part of a machine of our own for closed calls, and of the proof that it says what the runs do. -/
import Derived.Test.YtdpmaekomdbmgaaGreatDoorEvSn
set_option linter.unusedSimpArgs false
set_option linter.unusedVariables false
namespace Go.Ev
open Go Go.Proofs Go.Proofs.YtdpmaekomdbmgaaGreatDoor
theorem k53 : okPart Tryz.prog p53 100000 200 8 a53 1817 l53 v53 1959 d53 = true := by kernel_rfl
theorem k54 : okPart Tryz.prog p54 100000 200 22 a54 2111 l54 v54 2324 d54 = true := by kernel_rfl
theorem k55 : okPart Tryz.prog p55 100000 200 9 a55 1960 l55 v55 2324 d55 = true := by kernel_rfl
end Go.Ev
