/- A part of a machine of our own for closed calls, and of the proof that it says what the runs do. -/
import Derived.Test.YtpdhaghhhaobhaaGreatDoorEvSn
set_option linter.unusedSimpArgs false
set_option linter.unusedVariables false
namespace Go.Ev
open Go Go.Proofs Go.Proofs.YtpdhaghhhaobhaaGreatDoor
theorem k64 : okPart Tryz.prog p64 100000 200 34 a64 15758 l64 v64 16124 d64 = true := by kernel_rfl
theorem k65 : okPart Tryz.prog p65 100000 200 380 a65 15585 l65 v65 16138 d65 = true := by kernel_rfl
theorem k66 : okPart Tryz.prog p66 100000 200 355 a66 15415 l66 v66 16152 d66 = true := by kernel_rfl
theorem k67 : okPart Tryz.prog p67 100000 200 65 a67 15246 l67 v67 16167 d67 = true := by kernel_rfl
theorem k68 : okPart Tryz.prog p68 100000 200 65 a68 15077 l68 v68 16181 d68 = true := by kernel_rfl
theorem k69 : okPart Tryz.prog p69 100000 200 34 a69 14906 l69 v69 16195 d69 = true := by kernel_rfl
theorem k70 : okPart Tryz.prog p70 100000 200 380 a70 14733 l70 v70 16209 d70 = true := by kernel_rfl
end Go.Ev
