/- A part of a machine of our own for closed calls, and of the proof that it says what the runs do. -/
import Derived.Test.YtijfkobhconbaaaGreatDoorEvSn
set_option linter.unusedSimpArgs false
set_option linter.unusedVariables false
namespace Go.Ev
open Go Go.Proofs Go.Proofs.YtijfkobhconbaaaGreatDoor
theorem k4 : okTell Tryz.prog p4 100000 200 5 a4 h0 v4 s6 = true := by kernel_rfl
end Go.Ev
