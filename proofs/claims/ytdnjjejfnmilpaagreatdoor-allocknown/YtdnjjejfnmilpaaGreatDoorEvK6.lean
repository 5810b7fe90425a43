/- A part of a machine of our own for closed calls, and of the proof that it says what the runs do. -/
import Derived.Test.YtdnjjejfnmilpaaGreatDoorEvSn
set_option linter.unusedSimpArgs false
set_option linter.unusedVariables false
namespace Go.Ev
open Go Go.Proofs Go.Proofs.YtdnjjejfnmilpaaGreatDoor
theorem k13 : okPart Tryz.prog p13 100000 200 8 a13 2847 l13 v13 3178 d13 = true := by kernel_rfl
theorem k14 : okPart Tryz.prog p14 100000 200 18 a14 3355 l14 v14 3684 d14 = true := by kernel_rfl
end Go.Ev
