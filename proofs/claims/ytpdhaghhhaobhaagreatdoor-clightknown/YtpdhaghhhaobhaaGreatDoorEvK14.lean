/- A part of a machine of our own for closed calls, and of the proof that it says what the runs do. -/
import Derived.Test.YtpdhaghhhaobhaaGreatDoorEvSn
set_option linter.unusedSimpArgs false
set_option linter.unusedVariables false
namespace Go.Ev
open Go Go.Proofs Go.Proofs.YtpdhaghhhaobhaaGreatDoor
theorem k106 : okPart Tryz.prog p106 100000 200 355 a106 8599 l106 v106 16720 d106 = true := by kernel_rfl
theorem k107 : okPart Tryz.prog p107 100000 200 65 a107 8430 l107 v107 16735 d107 = true := by kernel_rfl
theorem k108 : okPart Tryz.prog p108 100000 200 65 a108 8261 l108 v108 16749 d108 = true := by kernel_rfl
theorem k109 : okPart Tryz.prog p109 100000 200 34 a109 8090 l109 v109 16763 d109 = true := by kernel_rfl
theorem k110 : okPart Tryz.prog p110 100000 200 380 a110 7917 l110 v110 16777 d110 = true := by kernel_rfl
theorem k111 : okPart Tryz.prog p111 100000 200 355 a111 7747 l111 v111 16791 d111 = true := by kernel_rfl
theorem k112 : okPart Tryz.prog p112 100000 200 65 a112 7578 l112 v112 16806 d112 = true := by kernel_rfl
end Go.Ev
