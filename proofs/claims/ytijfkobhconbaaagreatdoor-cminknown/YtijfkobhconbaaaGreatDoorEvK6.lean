/- A part of a machine of our own for closed calls, and of the proof that it says what the runs do. -/
import Derived.Test.YtijfkobhconbaaaGreatDoorEvSn
set_option linter.unusedSimpArgs false
set_option linter.unusedVariables false
namespace Go.Ev
open Go Go.Proofs Go.Proofs.YtijfkobhconbaaaGreatDoor
theorem k6 : okTell Tryz.prog p6 100000 200 10 a6 s7 v6 s10 = true := by kernel_rfl
end Go.Ev
