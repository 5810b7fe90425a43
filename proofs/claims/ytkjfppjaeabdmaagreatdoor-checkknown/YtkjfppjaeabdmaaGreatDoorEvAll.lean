/- A part of a machine of our own for closed calls, and of the proof that it says what the runs do. -/
import Derived.Test.YtkjfppjaeabdmaaGreatDoorEvTab
import Derived.Test.YtkjfppjaeabdmaaGreatDoorEvK1
import Derived.Test.YtkjfppjaeabdmaaGreatDoorEvK2
import Derived.Test.YtkjfppjaeabdmaaGreatDoorEvK3
import Derived.Test.YtkjfppjaeabdmaaGreatDoorEvK4
import Derived.Test.YtkjfppjaeabdmaaGreatDoorEvK5
import Derived.Test.YtkjfppjaeabdmaaGreatDoorEvK6
import Derived.Test.YtkjfppjaeabdmaaGreatDoorEvK7
import Derived.Test.YtkjfppjaeabdmaaGreatDoorEvK8
import Derived.Test.YtkjfppjaeabdmaaGreatDoorEvK9
import Derived.Test.YtkjfppjaeabdmaaGreatDoorEvK10
import Derived.Test.YtkjfppjaeabdmaaGreatDoorEvK11
import Derived.Test.YtkjfppjaeabdmaaGreatDoorEvK12
import Derived.Test.YtkjfppjaeabdmaaGreatDoorEvK13
import Derived.Test.YtkjfppjaeabdmaaGreatDoorEvK14
import Derived.Test.YtkjfppjaeabdmaaGreatDoorEvK15
import Derived.Test.YtkjfppjaeabdmaaGreatDoorEvK16
import Derived.Test.YtkjfppjaeabdmaaGreatDoorEvK17
import Derived.Test.YtkjfppjaeabdmaaGreatDoorEvK18
import Derived.Test.YtkjfppjaeabdmaaGreatDoorEvK19
import Derived.Test.YtkjfppjaeabdmaaGreatDoorEvK20
import Derived.Test.YtkjfppjaeabdmaaGreatDoorEvK21
import Derived.Test.YtkjfppjaeabdmaaGreatDoorEvK22
import Derived.Test.YtkjfppjaeabdmaaGreatDoorEvK23
import Derived.Test.YtkjfppjaeabdmaaGreatDoorEvK24
import Derived.Test.YtkjfppjaeabdmaaGreatDoorEvK25
import Derived.Test.YtkjfppjaeabdmaaGreatDoorEvK26
import Derived.Test.YtkjfppjaeabdmaaGreatDoorEvK27
import Derived.Test.YtkjfppjaeabdmaaGreatDoorEvK28
import Derived.Test.YtkjfppjaeabdmaaGreatDoorEvK29
import Derived.Test.YtkjfppjaeabdmaaGreatDoorEvK0
set_option linter.unusedSimpArgs false
set_option linter.unusedVariables false
namespace Go.Ev
open Go Go.RowKit Go.Proofs Go.Proofs.YtkjfppjaeabdmaaGreatDoor
variable {B : World}
theorem all0 (hmix : Tryz.prog.follows .mixedOrders = true) (hnc : NoCount Tryz.prog) (hv : ValOk Tryz.prog B vals) : PrimAll Tryz.prog B p0 := by
  have q := bare_all hv
  have q1 : PrimAll Tryz.prog B p1 := q
  have q2 : PrimAll Tryz.prog B p2 := q
  have q3 : PrimAll Tryz.prog B p3 := q
  have q4 : PrimAll Tryz.prog B p4 := (addH_all hmix hnc (addH_all hmix hnc (addH_all hmix hnc q q1 k1) q2 k2) q3 k3)
  have q5 : PrimAll Tryz.prog B p5 := q
  have q6 : PrimAll Tryz.prog B p6 := q
  have q7 : PrimAll Tryz.prog B p7 := q
  have q8 : PrimAll Tryz.prog B p8 := q
  have q9 : PrimAll Tryz.prog B p9 := q
  have q10 : PrimAll Tryz.prog B p10 := q
  have q11 : PrimAll Tryz.prog B p11 := (addH_all hmix hnc q q10 k10)
  have q12 : PrimAll Tryz.prog B p12 := q
  have q13 : PrimAll Tryz.prog B p13 := q
  have q14 : PrimAll Tryz.prog B p14 := q
  have q15 : PrimAll Tryz.prog B p15 := q
  have q16 : PrimAll Tryz.prog B p16 := (addH_all hmix hnc q q15 k15)
  have q17 : PrimAll Tryz.prog B p17 := (addH_all hmix hnc q q16 k16)
  have q18 : PrimAll Tryz.prog B p18 := q
  have q19 : PrimAll Tryz.prog B p19 := q
  have q20 : PrimAll Tryz.prog B p20 := (addH_all hmix hnc q q19 k19)
  have q21 : PrimAll Tryz.prog B p21 := q
  have q22 : PrimAll Tryz.prog B p22 := (addH_all hmix hnc q q21 k21)
  have q23 : PrimAll Tryz.prog B p23 := q
  have q24 : PrimAll Tryz.prog B p24 := q
  have q25 : PrimAll Tryz.prog B p25 := q
  have q26 : PrimAll Tryz.prog B p26 := (addH_all hmix hnc (addH_all hmix hnc q q24 k24) q25 k25)
  have q27 : PrimAll Tryz.prog B p27 := q
  have q28 : PrimAll Tryz.prog B p28 := (addH_all hmix hnc (addH_all hmix hnc (addH_all hmix hnc q q23 k23) q26 k26) q27 k27)
  have q29 : PrimAll Tryz.prog B p29 := q
  exact (addH_all hmix hnc (addH_all hmix hnc (addH_all hmix hnc (addH_all hmix hnc (addH_all hmix hnc (addH_all hmix hnc (addH_all hmix hnc (addH_all hmix hnc (addH_all hmix hnc (addH_all hmix hnc (addH_all hmix hnc (addH_all hmix hnc (addH_all hmix hnc (addH_all hmix hnc (addH_all hmix hnc (addH_all hmix hnc q q4 k4) q5 k5) q6 k6) q7 k7) q8 k8) q9 k9) q11 k11) q12 k12) q13 k13) q14 k14) q17 k17) q18 k18) q20 k20) q22 k22) q28 k28) q29 k29)
end Go.Ev
