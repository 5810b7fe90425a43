/- A part of a machine of our own for closed calls, and of the proof that it says what the runs do. -/
import Derived.Test.YtfkbekeljlmheaaGreatDoorEvSn
set_option linter.unusedSimpArgs false
set_option linter.unusedVariables false
namespace Go.Ev
open Go Go.Proofs Go.Proofs.YtfkbekeljlmheaaGreatDoor
theorem k4 : okTell Tryz.prog p4 100000 200 14 a4 s7 v4 s8 = true := by kernel_rfl
end Go.Ev
