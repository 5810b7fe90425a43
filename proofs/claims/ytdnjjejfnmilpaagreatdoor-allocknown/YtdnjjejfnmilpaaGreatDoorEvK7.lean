/- A part of a machine of our own for closed calls, and of the proof that it says what the runs do. -/
import Derived.Test.YtdnjjejfnmilpaaGreatDoorEvSn
set_option linter.unusedSimpArgs false
set_option linter.unusedVariables false
namespace Go.Ev
open Go Go.Proofs Go.Proofs.YtdnjjejfnmilpaaGreatDoor
theorem k15 : okPart Tryz.prog p15 100000 200 4 a15 3 l15 v15 3687 d15 = true := by kernel_rfl
theorem k16 : okPart Tryz.prog p16 100000 200 8 a16 3956 l16 v16 4132 d16 = true := by kernel_rfl
end Go.Ev
