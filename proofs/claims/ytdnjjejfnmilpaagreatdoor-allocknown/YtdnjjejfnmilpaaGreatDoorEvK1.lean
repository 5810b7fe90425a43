/- A part of a machine of our own for closed calls, and of the proof that it says what the runs do. -/
import Derived.Test.YtdnjjejfnmilpaaGreatDoorEvSn
set_option linter.unusedSimpArgs false
set_option linter.unusedVariables false
namespace Go.Ev
open Go Go.Proofs Go.Proofs.YtdnjjejfnmilpaaGreatDoor
theorem k1 : okPart Tryz.prog p1 100000 200 50 a1 180 l1 v1 384 d1 = true := by kernel_rfl
theorem k2 : okPart Tryz.prog p2 100000 200 52 a2 519 l2 v2 523 d2 = true := by kernel_rfl
theorem k3 : okPart Tryz.prog p3 100000 200 27 a3 179 l3 v3 682 d3 = true := by kernel_rfl
end Go.Ev
