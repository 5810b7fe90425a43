/- A part of a machine of our own for closed calls, and of the proof that it says what the runs do. -/
import Derived.Test.YtpdhaghhhaobhaaGreatDoorEvSn
set_option linter.unusedSimpArgs false
set_option linter.unusedVariables false
namespace Go.Ev
open Go Go.Proofs Go.Proofs.YtpdhaghhhaobhaaGreatDoor
theorem k120 : okPart Tryz.prog p120 100000 200 380 a120 6213 l120 v120 16919 d120 = true := by kernel_rfl
theorem k121 : okPart Tryz.prog p121 100000 200 355 a121 6043 l121 v121 16933 d121 = true := by kernel_rfl
theorem k122 : okPart Tryz.prog p122 100000 200 65 a122 5874 l122 v122 16948 d122 = true := by kernel_rfl
theorem k123 : okPart Tryz.prog p123 100000 200 65 a123 5705 l123 v123 16962 d123 = true := by kernel_rfl
theorem k124 : okPart Tryz.prog p124 100000 200 34 a124 5534 l124 v124 16976 d124 = true := by kernel_rfl
theorem k125 : okPart Tryz.prog p125 100000 200 380 a125 5361 l125 v125 16990 d125 = true := by kernel_rfl
theorem k126 : okPart Tryz.prog p126 100000 200 355 a126 5191 l126 v126 17004 d126 = true := by kernel_rfl
end Go.Ev
