/- A part of a machine of our own for closed calls, and of the proof that it says what the runs do. -/
import Derived.Test.YtfeglcpipcjaeaaGreatDoorEvSn
set_option linter.unusedSimpArgs false
set_option linter.unusedVariables false
namespace Go.Ev
open Go Go.Proofs Go.Proofs.YtfeglcpipcjaeaaGreatDoor
theorem k1 : okPart Tryz.prog p1 100000 200 22 a1 131 l1 v1 264 d1 = true := by kernel_rfl
theorem k2 : okPart Tryz.prog p2 100000 200 15 a2 266 l2 v2 414 d2 = true := by kernel_rfl
end Go.Ev
