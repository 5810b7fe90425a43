/- A part of a machine of our own for closed calls, and of the proof that it says what the runs do. -/
import Derived.Test.YtpdhaghhhaobhaaGreatDoorEvSn
set_option linter.unusedSimpArgs false
set_option linter.unusedVariables false
namespace Go.Ev
open Go Go.Proofs Go.Proofs.YtpdhaghhhaobhaaGreatDoor
theorem k51 : okPart Tryz.prog p51 100000 200 17 a51 2724 l51 v51 3008 d51 = true := by kernel_rfl
theorem k52 : okPart Tryz.prog p52 100000 200 6 a52 2724 l52 v52 3084 d52 = true := by kernel_rfl
theorem k53 : okPart Tryz.prog p53 100000 200 15 a53 3131 l53 v53 3565 d53 = true := by kernel_rfl
theorem k54 : okPart Tryz.prog p54 100000 200 110 a54 3579 l54 v54 3581 d54 = true := by kernel_rfl
theorem k55 : okPart Tryz.prog p55 100000 200 110 a55 3603 l55 v55 3605 d55 = true := by kernel_rfl
theorem k56 : okPart Tryz.prog p56 100000 200 110 a56 3609 l56 v56 3611 d56 = true := by kernel_rfl
theorem k57 : okPart Tryz.prog p57 100000 200 110 a57 3645 l57 v57 3647 d57 = true := by kernel_rfl
theorem k58 : okPart Tryz.prog p58 100000 200 110 a58 3669 l58 v58 3671 d58 = true := by kernel_rfl
theorem k59 : okPart Tryz.prog p59 100000 200 110 a59 3675 l59 v59 3677 d59 = true := by kernel_rfl
end Go.Ev
