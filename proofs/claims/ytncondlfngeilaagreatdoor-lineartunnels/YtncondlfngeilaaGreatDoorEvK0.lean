
import Derived.Test.YtncondlfngeilaaGreatDoorEvSn
set_option linter.unusedSimpArgs false
set_option linter.unusedVariables false
namespace Go.Ev
open Go Go.Proofs Go.Proofs.YtncondlfngeilaaGreatDoor
theorem k0 : ansb Tryz.prog p0 100000 200 h0 4 [] = true := by kernel_rfl
end Go.Ev
