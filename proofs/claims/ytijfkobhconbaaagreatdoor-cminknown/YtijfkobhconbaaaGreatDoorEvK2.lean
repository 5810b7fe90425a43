/- A part of a machine of our own for closed calls, and of the proof that it says what the runs do. -/
import Derived.Test.YtijfkobhconbaaaGreatDoorEvSn
set_option linter.unusedSimpArgs false
set_option linter.unusedVariables false
namespace Go.Ev
open Go Go.Proofs Go.Proofs.YtijfkobhconbaaaGreatDoor
theorem k2 : okTell Tryz.prog p2 100000 200 220 a2 s3 v2 s4 = true := by kernel_rfl
end Go.Ev
