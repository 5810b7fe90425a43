/- A part of a machine of our own for closed calls, and of the proof that it says what the runs do. -/
import Derived.Test.YtpdhaghhhaobhaaGreatDoorEvSn
set_option linter.unusedSimpArgs false
set_option linter.unusedVariables false
namespace Go.Ev
open Go Go.Proofs Go.Proofs.YtpdhaghhhaobhaaGreatDoor
theorem k217 : okPart Tryz.prog p217 100000 200 39 a217 18856 l217 v217 19074 d217 = true := by kernel_rfl
theorem k218 : okPart Tryz.prog p218 100000 200 227 a218 19355 l218 v218 19536 d218 = true := by kernel_rfl
theorem k219 : okPart Tryz.prog p219 100000 200 227 a219 19193 l219 v219 19543 d219 = true := by kernel_rfl
end Go.Ev
