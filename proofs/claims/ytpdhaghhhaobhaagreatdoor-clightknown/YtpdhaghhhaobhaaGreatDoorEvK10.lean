/- A part of a machine of our own for closed calls, and of the proof that it says what the runs do. -/
import Derived.Test.YtpdhaghhhaobhaaGreatDoorEvSn
set_option linter.unusedSimpArgs false
set_option linter.unusedVariables false
namespace Go.Ev
open Go Go.Proofs Go.Proofs.YtpdhaghhhaobhaaGreatDoor
theorem k78 : okPart Tryz.prog p78 100000 200 65 a78 13373 l78 v78 16323 d78 = true := by kernel_rfl
theorem k79 : okPart Tryz.prog p79 100000 200 34 a79 13202 l79 v79 16337 d79 = true := by kernel_rfl
theorem k80 : okPart Tryz.prog p80 100000 200 380 a80 13029 l80 v80 16351 d80 = true := by kernel_rfl
theorem k81 : okPart Tryz.prog p81 100000 200 355 a81 12859 l81 v81 16365 d81 = true := by kernel_rfl
theorem k82 : okPart Tryz.prog p82 100000 200 65 a82 12690 l82 v82 16380 d82 = true := by kernel_rfl
theorem k83 : okPart Tryz.prog p83 100000 200 65 a83 12521 l83 v83 16394 d83 = true := by kernel_rfl
theorem k84 : okPart Tryz.prog p84 100000 200 34 a84 12350 l84 v84 16408 d84 = true := by kernel_rfl
end Go.Ev
