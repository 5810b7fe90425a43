/- A part of a machine of our own for closed calls, and of the proof that it says what the runs do. -/
import Derived.Test.YtpdhaghhhaobhaaGreatDoorEvSn
set_option linter.unusedSimpArgs false
set_option linter.unusedVariables false
namespace Go.Ev
open Go Go.Proofs Go.Proofs.YtpdhaghhhaobhaaGreatDoor
theorem k127 : okPart Tryz.prog p127 100000 200 65 a127 5022 l127 v127 17019 d127 = true := by kernel_rfl
theorem k128 : okPart Tryz.prog p128 100000 200 65 a128 4853 l128 v128 17033 d128 = true := by kernel_rfl
theorem k129 : okPart Tryz.prog p129 100000 200 34 a129 4682 l129 v129 17047 d129 = true := by kernel_rfl
theorem k130 : okPart Tryz.prog p130 100000 200 380 a130 4509 l130 v130 17061 d130 = true := by kernel_rfl
theorem k131 : okPart Tryz.prog p131 100000 200 355 a131 4339 l131 v131 17075 d131 = true := by kernel_rfl
theorem k132 : okPart Tryz.prog p132 100000 200 65 a132 4170 l132 v132 17090 d132 = true := by kernel_rfl
theorem k133 : okPart Tryz.prog p133 100000 200 5 a133 4027 l133 v133 17097 d133 = true := by kernel_rfl
theorem k134 : okPart Tryz.prog p134 100000 200 110 a134 17111 l134 v134 17113 d134 = true := by kernel_rfl
end Go.Ev
