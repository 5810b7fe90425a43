/- A part of a machine of our own for closed calls, and of the proof that it says what the runs do. -/
import Derived.Test.YtofnnpchobgapaaGreatDoorEvTab
import Derived.Test.YtofnnpchobgapaaGreatDoorEvBs
import Derived.Test.YtofnnpchobgapaaGreatDoorEvK0
set_option linter.unusedSimpArgs false
set_option linter.unusedVariables false
namespace Go.Ev
open Go Go.RowKit Go.Proofs Go.Proofs.YtofnnpchobgapaaGreatDoor
variable {B : World}
theorem all0 (hmix : Tryz.prog.follows .mixedOrders = true) (hnc : NoCount Tryz.prog) (hv : ValOk Tryz.prog B vals) : PrimAll Tryz.prog B p0 := by
  have q := full_all hv tels_ok
  exact q
end Go.Ev
