
import Derived.Test.YtncondlfngeilaaGreatDoorEvSn
set_option linter.unusedSimpArgs false
set_option linter.unusedVariables false
namespace Go.Ev
open Go Go.Proofs Go.Proofs.YtncondlfngeilaaGreatDoor
theorem k1 : okPart Tryz.prog p1 100000 200 10 a1 18 l1 v1 178 d1 = true := by kernel_rfl
end Go.Ev
