/- A part of a machine of our own for closed calls, and of the proof that it says what the runs do. -/
import Derived.Test.YtpdhaghhhaobhaaGreatDoorEvSn
set_option linter.unusedSimpArgs false
set_option linter.unusedVariables false
namespace Go.Ev
open Go Go.Proofs Go.Proofs.YtpdhaghhhaobhaaGreatDoor
theorem k92 : okPart Tryz.prog p92 100000 200 65 a92 10986 l92 v92 16522 d92 = true := by kernel_rfl
theorem k93 : okPart Tryz.prog p93 100000 200 65 a93 10817 l93 v93 16536 d93 = true := by kernel_rfl
theorem k94 : okPart Tryz.prog p94 100000 200 34 a94 10646 l94 v94 16550 d94 = true := by kernel_rfl
theorem k95 : okPart Tryz.prog p95 100000 200 380 a95 10473 l95 v95 16564 d95 = true := by kernel_rfl
theorem k96 : okPart Tryz.prog p96 100000 200 355 a96 10303 l96 v96 16578 d96 = true := by kernel_rfl
theorem k97 : okPart Tryz.prog p97 100000 200 65 a97 10134 l97 v97 16593 d97 = true := by kernel_rfl
theorem k98 : okPart Tryz.prog p98 100000 200 65 a98 9965 l98 v98 16607 d98 = true := by kernel_rfl
end Go.Ev
