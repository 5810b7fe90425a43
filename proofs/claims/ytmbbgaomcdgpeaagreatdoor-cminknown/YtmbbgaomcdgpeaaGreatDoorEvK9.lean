/- A part of a machine of our own for closed calls, and of the proof that it says what the runs do. -/
import Derived.Test.YtmbbgaomcdgpeaaGreatDoorEvSn
set_option linter.unusedSimpArgs false
set_option linter.unusedVariables false
namespace Go.Ev
open Go Go.Proofs Go.Proofs.YtmbbgaomcdgpeaaGreatDoor
theorem k80 : okPart Tryz.prog p80 100000 200 16 a80 2412 l80 v80 2484 d80 = true := by kernel_rfl
theorem k81 : okPart Tryz.prog p81 100000 200 10 a81 2411 l81 v81 2611 d81 = true := by kernel_rfl
end Go.Ev
