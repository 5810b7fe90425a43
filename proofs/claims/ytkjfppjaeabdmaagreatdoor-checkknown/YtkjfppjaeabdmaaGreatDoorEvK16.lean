/- A part of a machine of our own for closed calls, and of the proof that it says what the runs do. -/
import Derived.Test.YtkjfppjaeabdmaaGreatDoorEvSn
set_option linter.unusedSimpArgs false
set_option linter.unusedVariables false
namespace Go.Ev
open Go Go.Proofs Go.Proofs.YtkjfppjaeabdmaaGreatDoor
theorem k16 : okTell Tryz.prog p16 100000 200 9 a16 s22 v16 s25 = true := by kernel_rfl
end Go.Ev
