/- A part of a machine of our own for closed calls, and of the proof that it says what the runs do. -/
import Derived.Test.YtdpmaekomdbmgaaGreatDoorEvSn
set_option linter.unusedSimpArgs false
set_option linter.unusedVariables false
namespace Go.Ev
open Go Go.Proofs Go.Proofs.YtdpmaekomdbmgaaGreatDoor
theorem k90 : okPart Tryz.prog p90 100000 200 14 a90 3233 l90 v90 3437 d90 = true := by kernel_rfl
theorem k91 : okPart Tryz.prog p91 100000 200 16 a91 3484 l91 v91 3735 d91 = true := by kernel_rfl
end Go.Ev
