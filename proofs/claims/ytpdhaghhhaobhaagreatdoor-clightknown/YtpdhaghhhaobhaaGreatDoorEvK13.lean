/- A part of a machine of our own for closed calls, and of the proof that it says what the runs do. -/
import Derived.Test.YtpdhaghhhaobhaaGreatDoorEvSn
set_option linter.unusedSimpArgs false
set_option linter.unusedVariables false
namespace Go.Ev
open Go Go.Proofs Go.Proofs.YtpdhaghhhaobhaaGreatDoor
theorem k99 : okPart Tryz.prog p99 100000 200 34 a99 9794 l99 v99 16621 d99 = true := by kernel_rfl
theorem k100 : okPart Tryz.prog p100 100000 200 380 a100 9621 l100 v100 16635 d100 = true := by kernel_rfl
theorem k101 : okPart Tryz.prog p101 100000 200 355 a101 9451 l101 v101 16649 d101 = true := by kernel_rfl
theorem k102 : okPart Tryz.prog p102 100000 200 65 a102 9282 l102 v102 16664 d102 = true := by kernel_rfl
theorem k103 : okPart Tryz.prog p103 100000 200 65 a103 9113 l103 v103 16678 d103 = true := by kernel_rfl
theorem k104 : okPart Tryz.prog p104 100000 200 34 a104 8942 l104 v104 16692 d104 = true := by kernel_rfl
theorem k105 : okPart Tryz.prog p105 100000 200 380 a105 8769 l105 v105 16706 d105 = true := by kernel_rfl
end Go.Ev
