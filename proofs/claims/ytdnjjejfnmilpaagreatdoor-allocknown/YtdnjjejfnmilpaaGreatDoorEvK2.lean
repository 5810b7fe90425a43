/- A part of a machine of our own for closed calls, and of the proof that it says what the runs do. -/
import Derived.Test.YtdnjjejfnmilpaaGreatDoorEvSn
set_option linter.unusedSimpArgs false
set_option linter.unusedVariables false
namespace Go.Ev
open Go Go.Proofs Go.Proofs.YtdnjjejfnmilpaaGreatDoor
theorem k4 : okPart Tryz.prog p4 100000 200 5 a4 5 l4 v4 750 d4 = true := by kernel_rfl
theorem k5 : okPart Tryz.prog p5 100000 200 50 a5 992 l5 v5 1196 d5 = true := by kernel_rfl
theorem k6 : okPart Tryz.prog p6 100000 200 52 a6 1331 l6 v6 1335 d6 = true := by kernel_rfl
end Go.Ev
