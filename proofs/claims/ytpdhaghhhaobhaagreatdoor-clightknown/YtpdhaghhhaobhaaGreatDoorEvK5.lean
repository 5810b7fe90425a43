/- A part of a machine of our own for closed calls, and of the proof that it says what the runs do. -/
import Derived.Test.YtpdhaghhhaobhaaGreatDoorEvSn
set_option linter.unusedSimpArgs false
set_option linter.unusedVariables false
namespace Go.Ev
open Go Go.Proofs Go.Proofs.YtpdhaghhhaobhaaGreatDoor
theorem k48 : okPart Tryz.prog p48 100000 200 39 a48 2346 l48 v48 2424 d48 = true := by kernel_rfl
theorem k49 : okPart Tryz.prog p49 100000 200 6 a49 2345 l49 v49 2641 d49 = true := by kernel_rfl
theorem k50 : okPart Tryz.prog p50 100000 200 39 a50 2725 l50 v50 2817 d50 = true := by kernel_rfl
end Go.Ev
