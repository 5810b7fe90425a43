/- A part of a machine of our own for closed calls, and of the proof that it says what the runs do. -/
import Derived.Test.YtalogjekoakdbaaGreatDoorEvSn
set_option linter.unusedSimpArgs false
set_option linter.unusedVariables false
namespace Go.Ev
open Go Go.Proofs Go.Proofs.YtalogjekoakdbaaGreatDoor
theorem k3 : okPart Tryz.prog p3 100000 200 6 a3 16 l3 v3 933 d3 = true := by kernel_rfl
theorem k4 : okPart Tryz.prog p4 100000 200 27 a4 991 l4 v4 1072 d4 = true := by kernel_rfl
theorem k5 : okPart Tryz.prog p5 100000 200 13 a5 1074 l5 v5 1341 d5 = true := by kernel_rfl
end Go.Ev
