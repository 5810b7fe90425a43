/- A part of a machine of our own for closed calls, and of the proof that it says what the runs do. -/
import Derived.Test.YtpdhaghhhaobhaaGreatDoorEvSn
set_option linter.unusedSimpArgs false
set_option linter.unusedVariables false
namespace Go.Ev
open Go Go.Proofs Go.Proofs.YtpdhaghhhaobhaaGreatDoor
theorem k113 : okPart Tryz.prog p113 100000 200 65 a113 7409 l113 v113 16820 d113 = true := by kernel_rfl
theorem k114 : okPart Tryz.prog p114 100000 200 34 a114 7238 l114 v114 16834 d114 = true := by kernel_rfl
theorem k115 : okPart Tryz.prog p115 100000 200 380 a115 7065 l115 v115 16848 d115 = true := by kernel_rfl
theorem k116 : okPart Tryz.prog p116 100000 200 355 a116 6895 l116 v116 16862 d116 = true := by kernel_rfl
theorem k117 : okPart Tryz.prog p117 100000 200 65 a117 6726 l117 v117 16877 d117 = true := by kernel_rfl
theorem k118 : okPart Tryz.prog p118 100000 200 65 a118 6557 l118 v118 16891 d118 = true := by kernel_rfl
theorem k119 : okPart Tryz.prog p119 100000 200 34 a119 6386 l119 v119 16905 d119 = true := by kernel_rfl
end Go.Ev
