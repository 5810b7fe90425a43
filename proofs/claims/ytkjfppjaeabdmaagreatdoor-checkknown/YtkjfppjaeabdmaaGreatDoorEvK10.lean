/- A part of a machine of our own for closed calls, and of the proof that it says what the runs do. -/
import Derived.Test.YtkjfppjaeabdmaaGreatDoorEvSn
set_option linter.unusedSimpArgs false
set_option linter.unusedVariables false
namespace Go.Ev
open Go Go.Proofs Go.Proofs.YtkjfppjaeabdmaaGreatDoor
theorem k10 : okTell Tryz.prog p10 100000 200 12 a10 s16 v10 s17 = true := by kernel_rfl
end Go.Ev
