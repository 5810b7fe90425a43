/- A part of a machine of our own for closed calls, and of the proof that it says what the runs do. -/
import Derived.Test.YtijfkobhconbaaaGreatDoorEvSn
set_option linter.unusedSimpArgs false
set_option linter.unusedVariables false
namespace Go.Ev
open Go Go.Proofs Go.Proofs.YtijfkobhconbaaaGreatDoor
theorem k7 : okTell Tryz.prog p7 100000 200 5 a7 s7 v7 s11 = true := by kernel_rfl
end Go.Ev
