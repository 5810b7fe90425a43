/- A part of a machine of our own for closed calls, and of the proof that it says what the runs do. -/
import Derived.Test.YtpdhaghhhaobhaaGreatDoorEvSn
set_option linter.unusedSimpArgs false
set_option linter.unusedVariables false
namespace Go.Ev
open Go Go.Proofs Go.Proofs.YtpdhaghhhaobhaaGreatDoor
theorem k85 : okPart Tryz.prog p85 100000 200 380 a85 12177 l85 v85 16422 d85 = true := by kernel_rfl
theorem k86 : okPart Tryz.prog p86 100000 200 355 a86 12007 l86 v86 16436 d86 = true := by kernel_rfl
theorem k87 : okPart Tryz.prog p87 100000 200 65 a87 11838 l87 v87 16451 d87 = true := by kernel_rfl
theorem k88 : okPart Tryz.prog p88 100000 200 65 a88 11669 l88 v88 16465 d88 = true := by kernel_rfl
theorem k89 : okPart Tryz.prog p89 100000 200 34 a89 11498 l89 v89 16479 d89 = true := by kernel_rfl
theorem k90 : okPart Tryz.prog p90 100000 200 380 a90 11325 l90 v90 16493 d90 = true := by kernel_rfl
theorem k91 : okPart Tryz.prog p91 100000 200 355 a91 11155 l91 v91 16507 d91 = true := by kernel_rfl
end Go.Ev
