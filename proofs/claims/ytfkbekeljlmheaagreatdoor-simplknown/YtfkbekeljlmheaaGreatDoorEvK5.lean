/- A part of a machine of our own for closed calls, and of the proof that it says what the runs do. -/
import Derived.Test.YtfkbekeljlmheaaGreatDoorEvSn
set_option linter.unusedSimpArgs false
set_option linter.unusedVariables false
namespace Go.Ev
open Go Go.Proofs Go.Proofs.YtfkbekeljlmheaaGreatDoor
theorem k5 : okTell Tryz.prog p5 100000 200 9 a5 s6 v5 s9 = true := by kernel_rfl
end Go.Ev
