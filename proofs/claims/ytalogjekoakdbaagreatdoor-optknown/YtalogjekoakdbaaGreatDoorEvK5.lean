/- A part of a machine of our own for closed calls, and of the proof that it says what the runs do. -/
import Derived.Test.YtalogjekoakdbaaGreatDoorEvSn
set_option linter.unusedSimpArgs false
set_option linter.unusedVariables false
namespace Go.Ev
open Go Go.Proofs Go.Proofs.YtalogjekoakdbaaGreatDoor
theorem k11 : okPart Tryz.prog p11 100000 200 5 a11 2493 l11 v11 2809 d11 = true := by kernel_rfl
theorem k12 : okPart Tryz.prog p12 100000 200 4 a12 13 l12 v12 3187 d12 = true := by kernel_rfl
end Go.Ev
