/- A part of a machine of our own for closed calls, and of the proof that it says what the runs do. -/
import Derived.Test.YtalogjekoakdbaaGreatDoorEvSn
set_option linter.unusedSimpArgs false
set_option linter.unusedVariables false
namespace Go.Ev
open Go Go.Proofs Go.Proofs.YtalogjekoakdbaaGreatDoor
theorem k9 : okPart Tryz.prog p9 100000 200 28 a9 1918 l9 v9 2419 d9 = true := by kernel_rfl
theorem k10 : okPart Tryz.prog p10 100000 200 7 a10 937 l10 v10 2489 d10 = true := by kernel_rfl
end Go.Ev
