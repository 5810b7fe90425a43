/- A part of a machine of our own for closed calls, and of the proof that it says what the runs do. -/
import Derived.Test.YtabiapaiiccnaaaGreatDoorEvTab
import Derived.Test.YtabiapaiiccnaaaGreatDoorEvBs
import Derived.Test.YtabiapaiiccnaaaGreatDoorEvK1
import Derived.Test.YtabiapaiiccnaaaGreatDoorEvK2
import Derived.Test.YtabiapaiiccnaaaGreatDoorEvK3
import Derived.Test.YtabiapaiiccnaaaGreatDoorEvK4
import Derived.Test.YtabiapaiiccnaaaGreatDoorEvK5
import Derived.Test.YtabiapaiiccnaaaGreatDoorEvK6
import Derived.Test.YtabiapaiiccnaaaGreatDoorEvK7
import Derived.Test.YtabiapaiiccnaaaGreatDoorEvK8
import Derived.Test.YtabiapaiiccnaaaGreatDoorEvK0
set_option linter.unusedSimpArgs false
set_option linter.unusedVariables false
namespace Go.Ev
open Go Go.RowKit Go.Proofs Go.Proofs.YtabiapaiiccnaaaGreatDoor
variable {B : World}
theorem all0 (hmix : Tryz.prog.follows .mixedOrders = true) (hnc : NoCount Tryz.prog) (hv : ValOk Tryz.prog B vals) : PrimAll Tryz.prog B p0 := by
  have q := full_all hv tels_ok
  have q1 : PrimAll Tryz.prog B p1 := q
  have q2 : PrimAll Tryz.prog B p2 := q
  have q3 : PrimAll Tryz.prog B p3 := q
  have q4 : PrimAll Tryz.prog B p4 := q
  have q5 : PrimAll Tryz.prog B p5 := q
  have q6 : PrimAll Tryz.prog B p6 := q
  have q7 : PrimAll Tryz.prog B p7 := q
  have q8 : PrimAll Tryz.prog B p8 := q
  have q9 : PrimAll Tryz.prog B p9 := q
  have q10 : PrimAll Tryz.prog B p10 := q
  have q11 : PrimAll Tryz.prog B p11 := q
  have q12 : PrimAll Tryz.prog B p12 := q
  have q13 : PrimAll Tryz.prog B p13 := q
  have q14 : PrimAll Tryz.prog B p14 := q
  have q15 : PrimAll Tryz.prog B p15 := q
  have q16 : PrimAll Tryz.prog B p16 := q
  have q17 : PrimAll Tryz.prog B p17 := q
  have q18 : PrimAll Tryz.prog B p18 := q
  have q19 : PrimAll Tryz.prog B p19 := q
  have q20 : PrimAll Tryz.prog B p20 := q
  have q21 : PrimAll Tryz.prog B p21 := q
  have q22 : PrimAll Tryz.prog B p22 := q
  have q23 : PrimAll Tryz.prog B p23 := q
  have q24 : PrimAll Tryz.prog B p24 := q
  have q25 : PrimAll Tryz.prog B p25 := q
  have q26 : PrimAll Tryz.prog B p26 := q
  have q27 : PrimAll Tryz.prog B p27 := q
  have q28 : PrimAll Tryz.prog B p28 := q
  have q29 : PrimAll Tryz.prog B p29 := q
  have q30 : PrimAll Tryz.prog B p30 := q
  have q31 : PrimAll Tryz.prog B p31 := q
  have q32 : PrimAll Tryz.prog B p32 := q
  have q33 : PrimAll Tryz.prog B p33 := q
  have q34 : PrimAll Tryz.prog B p34 := q
  have q35 : PrimAll Tryz.prog B p35 := q
  have q36 : PrimAll Tryz.prog B p36 := q
  have q37 : PrimAll Tryz.prog B p37 := q
  have q38 : PrimAll Tryz.prog B p38 := q
  have q39 : PrimAll Tryz.prog B p39 := q
  have q40 : PrimAll Tryz.prog B p40 := q
  have q41 : PrimAll Tryz.prog B p41 := q
  have q42 : PrimAll Tryz.prog B p42 := q
  have q43 : PrimAll Tryz.prog B p43 := (addF_all hmix hnc (addF_all hmix hnc (addF_all hmix hnc (addF_all hmix hnc (addF_all hmix hnc (addF_all hmix hnc (addF_all hmix hnc (addF_all hmix hnc (addF_all hmix hnc (addF_all hmix hnc (addF_all hmix hnc (addF_all hmix hnc (addF_all hmix hnc (addF_all hmix hnc (addF_all hmix hnc (addF_all hmix hnc (addF_all hmix hnc (addF_all hmix hnc (addF_all hmix hnc (addF_all hmix hnc (addF_all hmix hnc (addF_all hmix hnc (addF_all hmix hnc (addF_all hmix hnc (addF_all hmix hnc (addF_all hmix hnc (addF_all hmix hnc (addF_all hmix hnc (addF_all hmix hnc (addF_all hmix hnc (addF_all hmix hnc (addF_all hmix hnc (addF_all hmix hnc (addF_all hmix hnc (addF_all hmix hnc (addF_all hmix hnc (addF_all hmix hnc (addF_all hmix hnc (addF_all hmix hnc (addF_all hmix hnc (addF_all hmix hnc (addF_all hmix hnc q q1 k1) q2 k2) q3 k3) q4 k4) q5 k5) q6 k6) q7 k7) q8 k8) q9 k9) q10 k10) q11 k11) q12 k12) q13 k13) q14 k14) q15 k15) q16 k16) q17 k17) q18 k18) q19 k19) q20 k20) q21 k21) q22 k22) q23 k23) q24 k24) q25 k25) q26 k26) q27 k27) q28 k28) q29 k29) q30 k30) q31 k31) q32 k32) q33 k33) q34 k34) q35 k35) q36 k36) q37 k37) q38 k38) q39 k39) q40 k40) q41 k41) q42 k42)
  have q44 : PrimAll Tryz.prog B p44 := q
  have q45 : PrimAll Tryz.prog B p45 := (addF_all hmix hnc q q44 k44)
  have q46 : PrimAll Tryz.prog B p46 := q
  have q47 : PrimAll Tryz.prog B p47 := (addF_all hmix hnc (addF_all hmix hnc (addF_all hmix hnc q q43 k43) q45 k45) q46 k46)
  have q48 : PrimAll Tryz.prog B p48 := q
  have q49 : PrimAll Tryz.prog B p49 := q
  have q50 : PrimAll Tryz.prog B p50 := q
  have q51 : PrimAll Tryz.prog B p51 := q
  have q52 : PrimAll Tryz.prog B p52 := q
  have q53 : PrimAll Tryz.prog B p53 := q
  have q54 : PrimAll Tryz.prog B p54 := (addF_all hmix hnc q q53 k53)
  have q55 : PrimAll Tryz.prog B p55 := (addF_all hmix hnc q q54 k54)
  exact (addF_all hmix hnc (addF_all hmix hnc (addF_all hmix hnc (addF_all hmix hnc (addF_all hmix hnc (addF_all hmix hnc (addF_all hmix hnc q q47 k47) q48 k48) q49 k49) q50 k50) q51 k51) q52 k52) q55 k55)
end Go.Ev
