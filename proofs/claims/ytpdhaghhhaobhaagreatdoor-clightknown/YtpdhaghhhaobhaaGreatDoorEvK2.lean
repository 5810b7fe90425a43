/- A part of a machine of our own for closed calls, and of the proof that it says what the runs do. -/
import Derived.Test.YtpdhaghhhaobhaaGreatDoorEvSn
set_option linter.unusedSimpArgs false
set_option linter.unusedVariables false
namespace Go.Ev
open Go Go.Proofs Go.Proofs.YtpdhaghhhaobhaaGreatDoor
theorem k37 : okPart Tryz.prog p37 100000 200 227 a37 523 l37 v37 704 d37 = true := by kernel_rfl
theorem k38 : okPart Tryz.prog p38 100000 200 227 a38 361 l38 v38 711 d38 = true := by kernel_rfl
theorem k39 : okPart Tryz.prog p39 100000 200 41 a39 245 l39 v39 832 d39 = true := by kernel_rfl
end Go.Ev
