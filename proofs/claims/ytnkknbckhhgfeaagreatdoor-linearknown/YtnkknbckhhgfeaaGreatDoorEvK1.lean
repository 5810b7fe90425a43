/- A part of a machine of our own for closed calls, and of the proof that it says what the runs do. -/
import Derived.Test.YtnkknbckhhgfeaaGreatDoorEvSn
set_option linter.unusedSimpArgs false
set_option linter.unusedVariables false
namespace Go.Ev
open Go Go.Proofs Go.Proofs.YtnkknbckhhgfeaaGreatDoor
theorem k1 : okPart Tryz.prog p1 100000 200 5 a1 18 l1 v1 178 d1 = true := by kernel_rfl
theorem k2 : okPart Tryz.prog p2 100000 200 4 a2 14 l2 v2 360 d2 = true := by kernel_rfl
end Go.Ev
