/- A part of a machine of our own for closed calls, and of the proof that it says what the runs do. -/
import Derived.Test.YtijfkobhconbaaaGreatDoorEvSn
set_option linter.unusedSimpArgs false
set_option linter.unusedVariables false
namespace Go.Ev
open Go Go.Proofs Go.Proofs.YtijfkobhconbaaaGreatDoor
theorem k5 : okTell Tryz.prog p5 100000 200 20 a5 s8 v5 s9 = true := by kernel_rfl
end Go.Ev
