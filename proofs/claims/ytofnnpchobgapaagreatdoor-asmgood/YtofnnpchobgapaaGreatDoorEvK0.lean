/- A part of a machine of our own for closed calls, and of the proof that it says what the runs do. -/
import Derived.Test.YtofnnpchobgapaaGreatDoorEvSn
set_option linter.unusedSimpArgs false
set_option linter.unusedVariables false
namespace Go.Ev
open Go Go.Proofs Go.Proofs.YtofnnpchobgapaaGreatDoor
theorem k0 : ansb Tryz.prog p0 100000 200 h0 5 [] = true := by kernel_rfl
end Go.Ev
