/- A part of a machine of our own for closed calls, and of the proof that it says what the runs do. -/
import Derived.Test.YtdnjjejfnmilpaaGreatDoorEvSn
set_option linter.unusedSimpArgs false
set_option linter.unusedVariables false
namespace Go.Ev
open Go Go.Proofs Go.Proofs.YtdnjjejfnmilpaaGreatDoor
theorem k9 : okPart Tryz.prog p9 100000 200 35 a9 1891 l9 v9 2121 d9 = true := by kernel_rfl
theorem k10 : okPart Tryz.prog p10 100000 200 6 a10 753 l10 v10 2125 d10 = true := by kernel_rfl
end Go.Ev
