/- A part of a machine of our own for closed calls, and of the proof that it says what the runs do. -/
import Derived.Test.YtdnjjejfnmilpaaGreatDoorEvTab
import Derived.Test.YtdnjjejfnmilpaaGreatDoorEvK1
import Derived.Test.YtdnjjejfnmilpaaGreatDoorEvK2
import Derived.Test.YtdnjjejfnmilpaaGreatDoorEvK3
import Derived.Test.YtdnjjejfnmilpaaGreatDoorEvK4
import Derived.Test.YtdnjjejfnmilpaaGreatDoorEvK5
import Derived.Test.YtdnjjejfnmilpaaGreatDoorEvK6
import Derived.Test.YtdnjjejfnmilpaaGreatDoorEvK7
import Derived.Test.YtdnjjejfnmilpaaGreatDoorEvK0
set_option linter.unusedSimpArgs false
set_option linter.unusedVariables false
namespace Go.Ev
open Go Go.RowKit Go.Proofs Go.Proofs.YtdnjjejfnmilpaaGreatDoor
variable {B : World}
theorem all0 (hmix : Tryz.prog.follows .mixedOrders = true) (hnc : NoCount Tryz.prog) (hv : ValOk Tryz.prog B vals) : PrimAll Tryz.prog B p0 := by
  have q := bare_all hv
  have q1 : PrimAll Tryz.prog B p1 := q
  have q2 : PrimAll Tryz.prog B p2 := q
  have q3 : PrimAll Tryz.prog B p3 := (addF_all hmix hnc (addF_all hmix hnc q q1 k1) q2 k2)
  have q4 : PrimAll Tryz.prog B p4 := (addF_all hmix hnc q q3 k3)
  have q5 : PrimAll Tryz.prog B p5 := q
  have q6 : PrimAll Tryz.prog B p6 := q
  have q7 : PrimAll Tryz.prog B p7 := (addF_all hmix hnc (addF_all hmix hnc q q5 k5) q6 k6)
  have q8 : PrimAll Tryz.prog B p8 := q
  have q9 : PrimAll Tryz.prog B p9 := q
  have q10 : PrimAll Tryz.prog B p10 := (addF_all hmix hnc (addF_all hmix hnc (addF_all hmix hnc q q7 k7) q8 k8) q9 k9)
  have q11 : PrimAll Tryz.prog B p11 := q
  have q12 : PrimAll Tryz.prog B p12 := q
  have q13 : PrimAll Tryz.prog B p13 := q
  have q14 : PrimAll Tryz.prog B p14 := q
  have q15 : PrimAll Tryz.prog B p15 := (addF_all hmix hnc (addF_all hmix hnc (addF_all hmix hnc (addF_all hmix hnc (addF_all hmix hnc (addF_all hmix hnc q q4 k4) q10 k10) q11 k11) q12 k12) q13 k13) q14 k14)
  have q16 : PrimAll Tryz.prog B p16 := q
  exact (addF_all hmix hnc (addF_all hmix hnc q q15 k15) q16 k16)
end Go.Ev
