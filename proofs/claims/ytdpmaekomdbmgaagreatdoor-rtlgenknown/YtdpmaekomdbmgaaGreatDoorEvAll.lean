/- A part of a machine of our own for closed calls, and of the proof that it says what the runs do. -/
import Derived.Test.YtdpmaekomdbmgaaGreatDoorEvTab
import Derived.Test.YtdpmaekomdbmgaaGreatDoorEvBs
import Derived.Test.YtdpmaekomdbmgaaGreatDoorEvK1
import Derived.Test.YtdpmaekomdbmgaaGreatDoorEvK2
import Derived.Test.YtdpmaekomdbmgaaGreatDoorEvK3
import Derived.Test.YtdpmaekomdbmgaaGreatDoorEvK4
import Derived.Test.YtdpmaekomdbmgaaGreatDoorEvK5
import Derived.Test.YtdpmaekomdbmgaaGreatDoorEvK6
import Derived.Test.YtdpmaekomdbmgaaGreatDoorEvK7
import Derived.Test.YtdpmaekomdbmgaaGreatDoorEvK8
import Derived.Test.YtdpmaekomdbmgaaGreatDoorEvK9
import Derived.Test.YtdpmaekomdbmgaaGreatDoorEvK10
import Derived.Test.YtdpmaekomdbmgaaGreatDoorEvK11
import Derived.Test.YtdpmaekomdbmgaaGreatDoorEvK0
set_option linter.unusedSimpArgs false
set_option linter.unusedVariables false
namespace Go.Ev
open Go Go.RowKit Go.Proofs Go.Proofs.YtdpmaekomdbmgaaGreatDoor
variable {B : World}
theorem all0 (hmix : Tryz.prog.follows .mixedOrders = true) (hnc : NoCount Tryz.prog) (hv : ValOk Tryz.prog B vals) : PrimAll Tryz.prog B p0 := by
  have q := full_all hv tels_ok
  have q1 : PrimAll Tryz.prog B p1 := q
  have q2 : PrimAll Tryz.prog B p2 := q
  have q3 : PrimAll Tryz.prog B p3 := q
  have q4 : PrimAll Tryz.prog B p4 := q
  have q5 : PrimAll Tryz.prog B p5 := q
  have q6 : PrimAll Tryz.prog B p6 := q
  have q7 : PrimAll Tryz.prog B p7 := q
  have q8 : PrimAll Tryz.prog B p8 := q
  have q9 : PrimAll Tryz.prog B p9 := q
  have q10 : PrimAll Tryz.prog B p10 := q
  have q11 : PrimAll Tryz.prog B p11 := q
  have q12 : PrimAll Tryz.prog B p12 := q
  have q13 : PrimAll Tryz.prog B p13 := q
  have q14 : PrimAll Tryz.prog B p14 := q
  have q15 : PrimAll Tryz.prog B p15 := q
  have q16 : PrimAll Tryz.prog B p16 := q
  have q17 : PrimAll Tryz.prog B p17 := q
  have q18 : PrimAll Tryz.prog B p18 := q
  have q19 : PrimAll Tryz.prog B p19 := q
  have q20 : PrimAll Tryz.prog B p20 := q
  have q21 : PrimAll Tryz.prog B p21 := q
  have q22 : PrimAll Tryz.prog B p22 := q
  have q23 : PrimAll Tryz.prog B p23 := q
  have q24 : PrimAll Tryz.prog B p24 := q
  have q25 : PrimAll Tryz.prog B p25 := q
  have q26 : PrimAll Tryz.prog B p26 := q
  have q27 : PrimAll Tryz.prog B p27 := q
  have q28 : PrimAll Tryz.prog B p28 := q
  have q29 : PrimAll Tryz.prog B p29 := q
  have q30 : PrimAll Tryz.prog B p30 := q
  have q31 : PrimAll Tryz.prog B p31 := q
  have q32 : PrimAll Tryz.prog B p32 := q
  have q33 : PrimAll Tryz.prog B p33 := q
  have q34 : PrimAll Tryz.prog B p34 := q
  have q35 : PrimAll Tryz.prog B p35 := q
  have q36 : PrimAll Tryz.prog B p36 := q
  have q37 : PrimAll Tryz.prog B p37 := q
  have q38 : PrimAll Tryz.prog B p38 := q
  have q39 : PrimAll Tryz.prog B p39 := q
  have q40 : PrimAll Tryz.prog B p40 := q
  have q41 : PrimAll Tryz.prog B p41 := q
  have q42 : PrimAll Tryz.prog B p42 := q
  have q43 : PrimAll Tryz.prog B p43 := (addF_all hmix hnc (addF_all hmix hnc (addF_all hmix hnc (addF_all hmix hnc (addF_all hmix hnc (addF_all hmix hnc (addF_all hmix hnc (addF_all hmix hnc (addF_all hmix hnc (addF_all hmix hnc (addF_all hmix hnc (addF_all hmix hnc (addF_all hmix hnc (addF_all hmix hnc (addF_all hmix hnc (addF_all hmix hnc (addF_all hmix hnc (addF_all hmix hnc (addF_all hmix hnc (addF_all hmix hnc (addF_all hmix hnc (addF_all hmix hnc (addF_all hmix hnc (addF_all hmix hnc (addF_all hmix hnc (addF_all hmix hnc (addF_all hmix hnc (addF_all hmix hnc (addF_all hmix hnc (addF_all hmix hnc (addF_all hmix hnc (addF_all hmix hnc (addF_all hmix hnc (addF_all hmix hnc (addF_all hmix hnc (addF_all hmix hnc (addF_all hmix hnc (addF_all hmix hnc (addF_all hmix hnc (addF_all hmix hnc (addF_all hmix hnc (addF_all hmix hnc q q1 k1) q2 k2) q3 k3) q4 k4) q5 k5) q6 k6) q7 k7) q8 k8) q9 k9) q10 k10) q11 k11) q12 k12) q13 k13) q14 k14) q15 k15) q16 k16) q17 k17) q18 k18) q19 k19) q20 k20) q21 k21) q22 k22) q23 k23) q24 k24) q25 k25) q26 k26) q27 k27) q28 k28) q29 k29) q30 k30) q31 k31) q32 k32) q33 k33) q34 k34) q35 k35) q36 k36) q37 k37) q38 k38) q39 k39) q40 k40) q41 k41) q42 k42)
  have q44 : PrimAll Tryz.prog B p44 := q
  have q45 : PrimAll Tryz.prog B p45 := (addF_all hmix hnc q q44 k44)
  have q46 : PrimAll Tryz.prog B p46 := q
  have q47 : PrimAll Tryz.prog B p47 := (addF_all hmix hnc (addF_all hmix hnc (addF_all hmix hnc q q43 k43) q45 k45) q46 k46)
  have q48 : PrimAll Tryz.prog B p48 := q
  have q49 : PrimAll Tryz.prog B p49 := q
  have q50 : PrimAll Tryz.prog B p50 := q
  have q51 : PrimAll Tryz.prog B p51 := q
  have q52 : PrimAll Tryz.prog B p52 := (addF_all hmix hnc (addF_all hmix hnc (addF_all hmix hnc (addF_all hmix hnc (addF_all hmix hnc q q47 k47) q48 k48) q49 k49) q50 k50) q51 k51)
  have q53 : PrimAll Tryz.prog B p53 := q
  have q54 : PrimAll Tryz.prog B p54 := q
  have q55 : PrimAll Tryz.prog B p55 := (addF_all hmix hnc q q54 k54)
  have q56 : PrimAll Tryz.prog B p56 := (addF_all hmix hnc (addF_all hmix hnc (addF_all hmix hnc q q52 k52) q53 k53) q55 k55)
  have q57 : PrimAll Tryz.prog B p57 := q
  have q58 : PrimAll Tryz.prog B p58 := q
  have q59 : PrimAll Tryz.prog B p59 := q
  have q60 : PrimAll Tryz.prog B p60 := q
  have q61 : PrimAll Tryz.prog B p61 := q
  have q62 : PrimAll Tryz.prog B p62 := q
  have q63 : PrimAll Tryz.prog B p63 := q
  have q64 : PrimAll Tryz.prog B p64 := q
  have q65 : PrimAll Tryz.prog B p65 := q
  have q66 : PrimAll Tryz.prog B p66 := q
  have q67 : PrimAll Tryz.prog B p67 := q
  have q68 : PrimAll Tryz.prog B p68 := q
  have q69 : PrimAll Tryz.prog B p69 := q
  have q70 : PrimAll Tryz.prog B p70 := q
  have q71 : PrimAll Tryz.prog B p71 := q
  have q72 : PrimAll Tryz.prog B p72 := q
  have q73 : PrimAll Tryz.prog B p73 := q
  have q74 : PrimAll Tryz.prog B p74 := q
  have q75 : PrimAll Tryz.prog B p75 := q
  have q76 : PrimAll Tryz.prog B p76 := q
  have q77 : PrimAll Tryz.prog B p77 := q
  have q78 : PrimAll Tryz.prog B p78 := q
  have q79 : PrimAll Tryz.prog B p79 := q
  have q80 : PrimAll Tryz.prog B p80 := q
  have q81 : PrimAll Tryz.prog B p81 := q
  have q82 : PrimAll Tryz.prog B p82 := q
  have q83 : PrimAll Tryz.prog B p83 := q
  have q84 : PrimAll Tryz.prog B p84 := q
  have q85 : PrimAll Tryz.prog B p85 := q
  have q86 : PrimAll Tryz.prog B p86 := (addF_all hmix hnc (addF_all hmix hnc (addF_all hmix hnc (addF_all hmix hnc (addF_all hmix hnc (addF_all hmix hnc (addF_all hmix hnc (addF_all hmix hnc (addF_all hmix hnc (addF_all hmix hnc (addF_all hmix hnc (addF_all hmix hnc (addF_all hmix hnc (addF_all hmix hnc (addF_all hmix hnc (addF_all hmix hnc (addF_all hmix hnc (addF_all hmix hnc (addF_all hmix hnc (addF_all hmix hnc (addF_all hmix hnc (addF_all hmix hnc (addF_all hmix hnc (addF_all hmix hnc (addF_all hmix hnc (addF_all hmix hnc (addF_all hmix hnc (addF_all hmix hnc (addF_all hmix hnc q q57 k57) q58 k58) q59 k59) q60 k60) q61 k61) q62 k62) q63 k63) q64 k64) q65 k65) q66 k66) q67 k67) q68 k68) q69 k69) q70 k70) q71 k71) q72 k72) q73 k73) q74 k74) q75 k75) q76 k76) q77 k77) q78 k78) q79 k79) q80 k80) q81 k81) q82 k82) q83 k83) q84 k84) q85 k85)
  have q87 : PrimAll Tryz.prog B p87 := q
  have q88 : PrimAll Tryz.prog B p88 := (addF_all hmix hnc (addF_all hmix hnc q q86 k86) q87 k87)
  have q89 : PrimAll Tryz.prog B p89 := q
  have q90 : PrimAll Tryz.prog B p90 := q
  have q91 : PrimAll Tryz.prog B p91 := q
  exact (addF_all hmix hnc (addF_all hmix hnc (addF_all hmix hnc (addF_all hmix hnc (addF_all hmix hnc q q56 k56) q88 k88) q89 k89) q90 k90) q91 k91)
end Go.Ev
