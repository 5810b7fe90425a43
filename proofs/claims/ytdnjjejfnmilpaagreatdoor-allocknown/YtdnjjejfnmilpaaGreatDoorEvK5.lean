/- A part of a machine of our own for closed calls, and of the proof that it says what the runs do. -/
import Derived.Test.YtdnjjejfnmilpaaGreatDoorEvSn
set_option linter.unusedSimpArgs false
set_option linter.unusedVariables false
namespace Go.Ev
open Go Go.Proofs Go.Proofs.YtdnjjejfnmilpaaGreatDoor
theorem k11 : okPart Tryz.prog p11 100000 200 10 a11 2126 l11 v11 2338 d11 = true := by kernel_rfl
theorem k12 : okPart Tryz.prog p12 100000 200 18 a12 2515 l12 v12 2844 d12 = true := by kernel_rfl
end Go.Ev
