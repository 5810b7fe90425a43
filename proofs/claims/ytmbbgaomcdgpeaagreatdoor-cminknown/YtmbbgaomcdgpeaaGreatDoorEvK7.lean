/- A part of a machine of our own for closed calls, and of the proof that it says what the runs do. -/
import Derived.Test.YtmbbgaomcdgpeaaGreatDoorEvSn
set_option linter.unusedSimpArgs false
set_option linter.unusedVariables false
namespace Go.Ev
open Go Go.Proofs Go.Proofs.YtmbbgaomcdgpeaaGreatDoor
theorem k76 : okPart Tryz.prog p76 100000 200 10 a76 1506 l76 v76 1940 d76 = true := by kernel_rfl
theorem k77 : okPart Tryz.prog p77 100000 200 11 a77 1941 l77 v77 2136 d77 = true := by kernel_rfl
end Go.Ev
