/- A part of a machine of our own for closed calls, and of the proof that it says what the runs do. -/
import Derived.Test.YtpdhaghhhaobhaaGreatDoorEvSn
set_option linter.unusedSimpArgs false
set_option linter.unusedVariables false
namespace Go.Ev
open Go Go.Proofs Go.Proofs.YtpdhaghhhaobhaaGreatDoor
theorem k220 : okPart Tryz.prog p220 100000 200 41 a220 19077 l220 v220 19664 d220 = true := by kernel_rfl
theorem k221 : okPart Tryz.prog p221 100000 200 43 a221 19690 l221 v221 19904 d221 = true := by kernel_rfl
end Go.Ev
