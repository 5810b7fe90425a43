/- A part of a machine of our own for closed calls, and of the proof that it says what the runs do. -/
import Derived.Test.YtcghggpjfneloaaGreatDoorEvTab
import Derived.Test.YtcghggpjfneloaaGreatDoorEvBs
import Derived.Test.YtcghggpjfneloaaGreatDoorEvK1
import Derived.Test.YtcghggpjfneloaaGreatDoorEvK0
set_option linter.unusedSimpArgs false
set_option linter.unusedVariables false
namespace Go.Ev
open Go Go.RowKit Go.Proofs Go.Proofs.YtcghggpjfneloaaGreatDoor
variable {B : World}
theorem all0 (hmix : Tryz.prog.follows .mixedOrders = true) (hnc : NoCount Tryz.prog) (hv : ValOk Tryz.prog B vals) : PrimAll Tryz.prog B p0 := by
  have q := full_all hv tels_ok
  have q1 : PrimAll Tryz.prog B p1 := q
  exact (addF_all hmix hnc q q1 k1)
end Go.Ev
