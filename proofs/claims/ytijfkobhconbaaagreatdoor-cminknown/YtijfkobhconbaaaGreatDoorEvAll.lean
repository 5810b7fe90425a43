/- A part of a machine of our own for closed calls, and of the proof that it says what the runs do. -/
import Derived.Test.YtijfkobhconbaaaGreatDoorEvTab
import Derived.Test.YtijfkobhconbaaaGreatDoorEvBs
import Derived.Test.YtijfkobhconbaaaGreatDoorEvK1
import Derived.Test.YtijfkobhconbaaaGreatDoorEvK2
import Derived.Test.YtijfkobhconbaaaGreatDoorEvK3
import Derived.Test.YtijfkobhconbaaaGreatDoorEvK4
import Derived.Test.YtijfkobhconbaaaGreatDoorEvK5
import Derived.Test.YtijfkobhconbaaaGreatDoorEvK6
import Derived.Test.YtijfkobhconbaaaGreatDoorEvK7
import Derived.Test.YtijfkobhconbaaaGreatDoorEvK8
import Derived.Test.YtijfkobhconbaaaGreatDoorEvK0
set_option linter.unusedSimpArgs false
set_option linter.unusedVariables false
namespace Go.Ev
open Go Go.RowKit Go.Proofs Go.Proofs.YtijfkobhconbaaaGreatDoor
variable {B : World}
theorem all0 (hmix : Tryz.prog.follows .mixedOrders = true) (hnc : NoCount Tryz.prog) (hv : ValOk Tryz.prog B vals) : PrimAll Tryz.prog B p0 := by
  have q := full_all hv tels_ok
  have q1 : PrimAll Tryz.prog B p1 := q
  have q2 : PrimAll Tryz.prog B p2 := q
  have q3 : PrimAll Tryz.prog B p3 := (addH_all hmix hnc (addH_all hmix hnc q q1 k1) q2 k2)
  have q4 : PrimAll Tryz.prog B p4 := (addH_all hmix hnc q q3 k3)
  have q5 : PrimAll Tryz.prog B p5 := q
  have q6 : PrimAll Tryz.prog B p6 := (addH_all hmix hnc q q5 k5)
  have q7 : PrimAll Tryz.prog B p7 := (addH_all hmix hnc q q6 k6)
  have q8 : PrimAll Tryz.prog B p8 := q
  exact (addH_all hmix hnc (addH_all hmix hnc (addH_all hmix hnc q q4 k4) q7 k7) q8 k8)
end Go.Ev
