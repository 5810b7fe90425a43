/- A part of a machine of our own for closed calls, and of the proof that it says what the runs do. -/
import Derived.Test.YtdpmaekomdbmgaaGreatDoorEvSn
set_option linter.unusedSimpArgs false
set_option linter.unusedVariables false
namespace Go.Ev
open Go Go.Proofs Go.Proofs.YtdpmaekomdbmgaaGreatDoor
theorem k47 : okPart Tryz.prog p47 100000 200 12 a47 25 l47 v47 835 d47 = true := by kernel_rfl
theorem k48 : okPart Tryz.prog p48 100000 200 72 a48 882 l48 v48 1074 d48 = true := by kernel_rfl
end Go.Ev
