/- A part of a machine of our own for closed calls, and of the proof that it says what the runs do. -/
import Derived.Test.YtalogjekoakdbaaGreatDoorEvTab
import Derived.Test.YtalogjekoakdbaaGreatDoorEvBs
import Derived.Test.YtalogjekoakdbaaGreatDoorEvK1
import Derived.Test.YtalogjekoakdbaaGreatDoorEvK2
import Derived.Test.YtalogjekoakdbaaGreatDoorEvK3
import Derived.Test.YtalogjekoakdbaaGreatDoorEvK4
import Derived.Test.YtalogjekoakdbaaGreatDoorEvK5
import Derived.Test.YtalogjekoakdbaaGreatDoorEvK0
set_option linter.unusedSimpArgs false
set_option linter.unusedVariables false
namespace Go.Ev
open Go Go.RowKit Go.Proofs Go.Proofs.YtalogjekoakdbaaGreatDoor
variable {B : World}
theorem all0 (hmix : Tryz.prog.follows .mixedOrders = true) (hnc : NoCount Tryz.prog) (hv : ValOk Tryz.prog B vals) : PrimAll Tryz.prog B p0 := by
  have q := full_all hv tels_ok
  have q1 : PrimAll Tryz.prog B p1 := q
  have q2 : PrimAll Tryz.prog B p2 := (addF_all hmix hnc q q1 k1)
  have q3 : PrimAll Tryz.prog B p3 := (addF_all hmix hnc q q2 k2)
  have q4 : PrimAll Tryz.prog B p4 := q
  have q5 : PrimAll Tryz.prog B p5 := q
  have q6 : PrimAll Tryz.prog B p6 := (addF_all hmix hnc q q5 k5)
  have q7 : PrimAll Tryz.prog B p7 := q
  have q8 : PrimAll Tryz.prog B p8 := q
  have q9 : PrimAll Tryz.prog B p9 := (addF_all hmix hnc q q8 k8)
  have q10 : PrimAll Tryz.prog B p10 := (addF_all hmix hnc (addF_all hmix hnc (addF_all hmix hnc (addF_all hmix hnc q q4 k4) q6 k6) q7 k7) q9 k9)
  have q11 : PrimAll Tryz.prog B p11 := q
  have q12 : PrimAll Tryz.prog B p12 := (addF_all hmix hnc (addF_all hmix hnc (addF_all hmix hnc q q3 k3) q10 k10) q11 k11)
  exact (addF_all hmix hnc q q12 k12)
end Go.Ev
