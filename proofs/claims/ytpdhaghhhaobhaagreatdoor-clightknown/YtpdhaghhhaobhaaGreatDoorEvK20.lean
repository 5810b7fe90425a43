/- A part of a machine of our own for closed calls, and of the proof that it says what the runs do. -/
import Derived.Test.YtpdhaghhhaobhaaGreatDoorEvSn
set_option linter.unusedSimpArgs false
set_option linter.unusedVariables false
namespace Go.Ev
open Go Go.Proofs Go.Proofs.YtpdhaghhhaobhaaGreatDoor
theorem k178 : okPart Tryz.prog p178 100000 200 227 a178 18272 l178 v178 18453 d178 = true := by kernel_rfl
theorem k179 : okPart Tryz.prog p179 100000 200 227 a179 18110 l179 v179 18460 d179 = true := by kernel_rfl
theorem k180 : okPart Tryz.prog p180 100000 200 41 a180 17994 l180 v180 18581 d180 = true := by kernel_rfl
end Go.Ev
