/- A part of a machine of our own for closed calls, and of the proof that it says what the runs do. -/
import Derived.Test.YtkjfppjaeabdmaaGreatDoorEvSn
set_option linter.unusedSimpArgs false
set_option linter.unusedVariables false
namespace Go.Ev
open Go Go.Proofs Go.Proofs.YtkjfppjaeabdmaaGreatDoor
theorem k7 : okTell Tryz.prog p7 100000 200 9 a7 s10 v7 s11 = true := by kernel_rfl
end Go.Ev
