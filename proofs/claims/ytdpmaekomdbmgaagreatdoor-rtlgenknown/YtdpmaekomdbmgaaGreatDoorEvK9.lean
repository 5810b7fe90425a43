/- A part of a machine of our own for closed calls, and of the proof that it says what the runs do. -/
import Derived.Test.YtdpmaekomdbmgaaGreatDoorEvSn
set_option linter.unusedSimpArgs false
set_option linter.unusedVariables false
namespace Go.Ev
open Go Go.Proofs Go.Proofs.YtdpmaekomdbmgaaGreatDoor
theorem k86 : okPart Tryz.prog p86 100000 200 26 a86 2517 l86 v86 2710 d86 = true := by kernel_rfl
theorem k87 : okPart Tryz.prog p87 100000 200 62 a87 2861 l87 v87 3050 d87 = true := by kernel_rfl
end Go.Ev
