/- A part of a machine of our own for closed calls, and of the proof that it says what the runs do. -/
import Derived.Test.YtalogjekoakdbaaGreatDoorEvSn
set_option linter.unusedSimpArgs false
set_option linter.unusedVariables false
namespace Go.Ev
open Go Go.Proofs Go.Proofs.YtalogjekoakdbaaGreatDoor
theorem k1 : okPart Tryz.prog p1 100000 200 13 a1 155 l1 v1 422 d1 = true := by kernel_rfl
theorem k2 : okPart Tryz.prog p2 100000 200 28 a2 153 l2 v2 863 d2 = true := by kernel_rfl
end Go.Ev
