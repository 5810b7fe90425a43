/- A part of a machine of our own for closed calls, and of the proof that it says what the runs do. -/
import Derived.Test.YtkjfppjaeabdmaaGreatDoorEvSn
set_option linter.unusedSimpArgs false
set_option linter.unusedVariables false
namespace Go.Ev
open Go Go.Proofs Go.Proofs.YtkjfppjaeabdmaaGreatDoor
theorem k29 : okTell Tryz.prog p29 100000 200 9 a29 s44 v29 s45 = true := by kernel_rfl
end Go.Ev
