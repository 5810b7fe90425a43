/- A part of a machine of our own for closed calls, and of the proof that it says what the runs do. -/
import Derived.Test.YtpdhaghhhaobhaaGreatDoorEvSn
set_option linter.unusedSimpArgs false
set_option linter.unusedVariables false
namespace Go.Ev
open Go Go.Proofs Go.Proofs.YtpdhaghhhaobhaaGreatDoor
theorem k40 : okPart Tryz.prog p40 100000 200 43 a40 858 l40 v40 1072 d40 = true := by kernel_rfl
theorem k41 : okPart Tryz.prog p41 100000 200 5 a41 1097 l41 v41 1471 d41 = true := by kernel_rfl
theorem k42 : okPart Tryz.prog p42 100000 200 10 a42 1477 l42 v42 1852 d42 = true := by kernel_rfl
end Go.Ev
