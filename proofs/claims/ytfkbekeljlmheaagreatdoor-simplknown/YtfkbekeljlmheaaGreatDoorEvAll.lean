/- A part of a machine of our own for closed calls, and of the proof that it says what the runs do. -/
import Derived.Test.YtfkbekeljlmheaaGreatDoorEvTab
import Derived.Test.YtfkbekeljlmheaaGreatDoorEvK1
import Derived.Test.YtfkbekeljlmheaaGreatDoorEvK2
import Derived.Test.YtfkbekeljlmheaaGreatDoorEvK3
import Derived.Test.YtfkbekeljlmheaaGreatDoorEvK4
import Derived.Test.YtfkbekeljlmheaaGreatDoorEvK5
import Derived.Test.YtfkbekeljlmheaaGreatDoorEvK6
import Derived.Test.YtfkbekeljlmheaaGreatDoorEvK0
set_option linter.unusedSimpArgs false
set_option linter.unusedVariables false
namespace Go.Ev
open Go Go.RowKit Go.Proofs Go.Proofs.YtfkbekeljlmheaaGreatDoor
variable {B : World}
theorem all0 (hmix : Tryz.prog.follows .mixedOrders = true) (hnc : NoCount Tryz.prog) (hv : ValOk Tryz.prog B vals) : PrimAll Tryz.prog B p0 := by
  have q := bare_all hv
  have q1 : PrimAll Tryz.prog B p1 := q
  have q2 : PrimAll Tryz.prog B p2 := q
  have q3 : PrimAll Tryz.prog B p3 := (addH_all hmix hnc (addH_all hmix hnc q q1 k1) q2 k2)
  have q4 : PrimAll Tryz.prog B p4 := q
  have q5 : PrimAll Tryz.prog B p5 := (addH_all hmix hnc q q4 k4)
  have q6 : PrimAll Tryz.prog B p6 := (addH_all hmix hnc q q5 k5)
  exact (addH_all hmix hnc (addH_all hmix hnc q q3 k3) q6 k6)
end Go.Ev
