/- A part of a machine of our own for closed calls, and of the proof that it says what the runs do. -/
import Derived.Test.YtdpmaekomdbmgaaGreatDoorEvSn
set_option linter.unusedSimpArgs false
set_option linter.unusedVariables false
namespace Go.Ev
open Go Go.Proofs Go.Proofs.YtdpmaekomdbmgaaGreatDoor
theorem k49 : okPart Tryz.prog p49 100000 200 14 a49 1098 l49 v49 1319 d49 = true := by kernel_rfl
theorem k50 : okPart Tryz.prog p50 100000 200 40 a50 1334 l50 v50 1397 d50 = true := by kernel_rfl
end Go.Ev
