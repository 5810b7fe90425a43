/- A part of a machine of our own for closed calls, and of the proof that it says what the runs do. -/
import Derived.Test.YtdnjjejfnmilpaaGreatDoorEvSn
set_option linter.unusedSimpArgs false
set_option linter.unusedVariables false
namespace Go.Ev
open Go Go.Proofs Go.Proofs.YtdnjjejfnmilpaaGreatDoor
theorem k7 : okPart Tryz.prog p7 100000 200 27 a7 991 l7 v7 1494 d7 = true := by kernel_rfl
theorem k8 : okPart Tryz.prog p8 100000 200 18 a8 1562 l8 v8 1891 d8 = true := by kernel_rfl
end Go.Ev
