/- A part of a machine of our own for closed calls, and of the proof that it says what the runs do. -/
import Derived.Test.YtpdhaghhhaobhaaGreatDoorEvSn
set_option linter.unusedSimpArgs false
set_option linter.unusedVariables false
namespace Go.Ev
open Go Go.Proofs Go.Proofs.YtpdhaghhhaobhaaGreatDoor
theorem k60 : okPart Tryz.prog p60 100000 200 39 a60 3567 l60 v60 3705 d60 = true := by kernel_rfl
theorem k61 : okPart Tryz.prog p61 100000 200 17 a61 3566 l61 v61 3929 d61 = true := by kernel_rfl
theorem k62 : okPart Tryz.prog p62 100000 200 6 a62 3566 l62 v62 4027 d62 = true := by kernel_rfl
theorem k63 : okPart Tryz.prog p63 100000 200 65 a63 15929 l63 v63 16110 d63 = true := by kernel_rfl
end Go.Ev
