/- A part of a machine of our own for closed calls, and of the proof that it says what the runs do. -/
import Derived.Test.YtpdhaghhhaobhaaGreatDoorEvSn
set_option linter.unusedSimpArgs false
set_option linter.unusedVariables false
namespace Go.Ev
open Go Go.Proofs Go.Proofs.YtpdhaghhhaobhaaGreatDoor
theorem k43 : okPart Tryz.prog p43 100000 200 4 a43 23 l43 v43 1852 d43 = true := by kernel_rfl
theorem k44 : okPart Tryz.prog p44 100000 200 39 a44 1853 l44 v44 1944 d44 = true := by kernel_rfl
theorem k45 : okPart Tryz.prog p45 100000 200 17 a45 1852 l45 v45 2110 d45 = true := by kernel_rfl
theorem k46 : okPart Tryz.prog p46 100000 200 6 a46 1852 l46 v46 2225 d46 = true := by kernel_rfl
theorem k47 : okPart Tryz.prog p47 100000 200 5 a47 2225 l47 v47 2344 d47 = true := by kernel_rfl
end Go.Ev
