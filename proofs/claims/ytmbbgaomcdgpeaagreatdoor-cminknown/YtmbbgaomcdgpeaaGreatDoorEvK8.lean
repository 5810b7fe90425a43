/- A part of a machine of our own for closed calls, and of the proof that it says what the runs do. -/
import Derived.Test.YtmbbgaomcdgpeaaGreatDoorEvSn
set_option linter.unusedSimpArgs false
set_option linter.unusedVariables false
namespace Go.Ev
open Go Go.Proofs Go.Proofs.YtmbbgaomcdgpeaaGreatDoor
theorem k78 : okPart Tryz.prog p78 100000 200 9 a78 2312 l78 v78 2411 d78 = true := by kernel_rfl
theorem k79 : okPart Tryz.prog p79 100000 200 4 a79 25 l79 v79 2411 d79 = true := by kernel_rfl
end Go.Ev
