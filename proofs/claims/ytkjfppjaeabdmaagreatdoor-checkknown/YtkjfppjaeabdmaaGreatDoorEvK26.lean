/- A part of a machine of our own for closed calls, and of the proof that it says what the runs do. -/
import Derived.Test.YtkjfppjaeabdmaaGreatDoorEvSn
set_option linter.unusedSimpArgs false
set_option linter.unusedVariables false
namespace Go.Ev
open Go Go.Proofs Go.Proofs.YtkjfppjaeabdmaaGreatDoor
theorem k26 : okTell Tryz.prog p26 100000 200 14 a26 s36 v26 s41 = true := by kernel_rfl
end Go.Ev
