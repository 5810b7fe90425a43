/- A part of a machine of our own for closed calls, and of the proof that it says what the runs do. -/
import Derived.Test.YtpdhaghhhaobhaaGreatDoorEvTab
import Derived.Test.YtpdhaghhhaobhaaGreatDoorEvK1
import Derived.Test.YtpdhaghhhaobhaaGreatDoorEvK2
import Derived.Test.YtpdhaghhhaobhaaGreatDoorEvK3
import Derived.Test.YtpdhaghhhaobhaaGreatDoorEvK4
import Derived.Test.YtpdhaghhhaobhaaGreatDoorEvK5
import Derived.Test.YtpdhaghhhaobhaaGreatDoorEvK6
import Derived.Test.YtpdhaghhhaobhaaGreatDoorEvK7
import Derived.Test.YtpdhaghhhaobhaaGreatDoorEvK8
import Derived.Test.YtpdhaghhhaobhaaGreatDoorEvK9
import Derived.Test.YtpdhaghhhaobhaaGreatDoorEvK10
import Derived.Test.YtpdhaghhhaobhaaGreatDoorEvK11
import Derived.Test.YtpdhaghhhaobhaaGreatDoorEvK12
import Derived.Test.YtpdhaghhhaobhaaGreatDoorEvK13
import Derived.Test.YtpdhaghhhaobhaaGreatDoorEvK14
import Derived.Test.YtpdhaghhhaobhaaGreatDoorEvK15
import Derived.Test.YtpdhaghhhaobhaaGreatDoorEvK16
import Derived.Test.YtpdhaghhhaobhaaGreatDoorEvK17
import Derived.Test.YtpdhaghhhaobhaaGreatDoorEvK18
import Derived.Test.YtpdhaghhhaobhaaGreatDoorEvK19
import Derived.Test.YtpdhaghhhaobhaaGreatDoorEvK20
import Derived.Test.YtpdhaghhhaobhaaGreatDoorEvK21
import Derived.Test.YtpdhaghhhaobhaaGreatDoorEvK22
import Derived.Test.YtpdhaghhhaobhaaGreatDoorEvK23
import Derived.Test.YtpdhaghhhaobhaaGreatDoorEvK0
set_option linter.unusedSimpArgs false
set_option linter.unusedVariables false
namespace Go.Ev
open Go Go.RowKit Go.Proofs Go.Proofs.YtpdhaghhhaobhaaGreatDoor
variable {B : World}
theorem all0 (hmix : Tryz.prog.follows .mixedOrders = true) (hnc : NoCount Tryz.prog) (hv : ValOk Tryz.prog B vals) : PrimAll Tryz.prog B p0 := by
  have q := bare_all hv
  have q1 : PrimAll Tryz.prog B p1 := q
  have q2 : PrimAll Tryz.prog B p2 := q
  have q3 : PrimAll Tryz.prog B p3 := q
  have q4 : PrimAll Tryz.prog B p4 := q
  have q5 : PrimAll Tryz.prog B p5 := q
  have q6 : PrimAll Tryz.prog B p6 := q
  have q7 : PrimAll Tryz.prog B p7 := q
  have q8 : PrimAll Tryz.prog B p8 := q
  have q9 : PrimAll Tryz.prog B p9 := q
  have q10 : PrimAll Tryz.prog B p10 := q
  have q11 : PrimAll Tryz.prog B p11 := q
  have q12 : PrimAll Tryz.prog B p12 := q
  have q13 : PrimAll Tryz.prog B p13 := q
  have q14 : PrimAll Tryz.prog B p14 := q
  have q15 : PrimAll Tryz.prog B p15 := q
  have q16 : PrimAll Tryz.prog B p16 := q
  have q17 : PrimAll Tryz.prog B p17 := q
  have q18 : PrimAll Tryz.prog B p18 := q
  have q19 : PrimAll Tryz.prog B p19 := q
  have q20 : PrimAll Tryz.prog B p20 := q
  have q21 : PrimAll Tryz.prog B p21 := q
  have q22 : PrimAll Tryz.prog B p22 := q
  have q23 : PrimAll Tryz.prog B p23 := q
  have q24 : PrimAll Tryz.prog B p24 := q
  have q25 : PrimAll Tryz.prog B p25 := q
  have q26 : PrimAll Tryz.prog B p26 := q
  have q27 : PrimAll Tryz.prog B p27 := q
  have q28 : PrimAll Tryz.prog B p28 := q
  have q29 : PrimAll Tryz.prog B p29 := q
  have q30 : PrimAll Tryz.prog B p30 := q
  have q31 : PrimAll Tryz.prog B p31 := q
  have q32 : PrimAll Tryz.prog B p32 := q
  have q33 : PrimAll Tryz.prog B p33 := q
  have q34 : PrimAll Tryz.prog B p34 := q
  have q35 : PrimAll Tryz.prog B p35 := q
  have q36 : PrimAll Tryz.prog B p36 := (addF_all hmix hnc (addF_all hmix hnc (addF_all hmix hnc (addF_all hmix hnc (addF_all hmix hnc (addF_all hmix hnc (addF_all hmix hnc (addF_all hmix hnc (addF_all hmix hnc (addF_all hmix hnc (addF_all hmix hnc (addF_all hmix hnc (addF_all hmix hnc (addF_all hmix hnc (addF_all hmix hnc (addF_all hmix hnc (addF_all hmix hnc (addF_all hmix hnc (addF_all hmix hnc (addF_all hmix hnc (addF_all hmix hnc (addF_all hmix hnc (addF_all hmix hnc (addF_all hmix hnc (addF_all hmix hnc (addF_all hmix hnc (addF_all hmix hnc (addF_all hmix hnc (addF_all hmix hnc (addF_all hmix hnc (addF_all hmix hnc (addF_all hmix hnc (addF_all hmix hnc (addF_all hmix hnc (addF_all hmix hnc q q1 k1) q2 k2) q3 k3) q4 k4) q5 k5) q6 k6) q7 k7) q8 k8) q9 k9) q10 k10) q11 k11) q12 k12) q13 k13) q14 k14) q15 k15) q16 k16) q17 k17) q18 k18) q19 k19) q20 k20) q21 k21) q22 k22) q23 k23) q24 k24) q25 k25) q26 k26) q27 k27) q28 k28) q29 k29) q30 k30) q31 k31) q32 k32) q33 k33) q34 k34) q35 k35)
  have q37 : PrimAll Tryz.prog B p37 := q
  have q38 : PrimAll Tryz.prog B p38 := (addF_all hmix hnc q q37 k37)
  have q39 : PrimAll Tryz.prog B p39 := (addF_all hmix hnc q q38 k38)
  have q40 : PrimAll Tryz.prog B p40 := q
  have q41 : PrimAll Tryz.prog B p41 := q
  have q42 : PrimAll Tryz.prog B p42 := q
  have q43 : PrimAll Tryz.prog B p43 := (addF_all hmix hnc (addF_all hmix hnc (addF_all hmix hnc (addF_all hmix hnc (addF_all hmix hnc q q36 k36) q39 k39) q40 k40) q41 k41) q42 k42)
  have q44 : PrimAll Tryz.prog B p44 := q
  have q45 : PrimAll Tryz.prog B p45 := (addF_all hmix hnc q q44 k44)
  have q46 : PrimAll Tryz.prog B p46 := (addF_all hmix hnc q q45 k45)
  have q47 : PrimAll Tryz.prog B p47 := q
  have q48 : PrimAll Tryz.prog B p48 := q
  have q49 : PrimAll Tryz.prog B p49 := (addF_all hmix hnc q q48 k48)
  have q50 : PrimAll Tryz.prog B p50 := q
  have q51 : PrimAll Tryz.prog B p51 := (addF_all hmix hnc q q50 k50)
  have q52 : PrimAll Tryz.prog B p52 := (addF_all hmix hnc q q51 k51)
  have q53 : PrimAll Tryz.prog B p53 := q
  have q54 : PrimAll Tryz.prog B p54 := q
  have q55 : PrimAll Tryz.prog B p55 := q
  have q56 : PrimAll Tryz.prog B p56 := q
  have q57 : PrimAll Tryz.prog B p57 := q
  have q58 : PrimAll Tryz.prog B p58 := q
  have q59 : PrimAll Tryz.prog B p59 := q
  have q60 : PrimAll Tryz.prog B p60 := (addF_all hmix hnc (addF_all hmix hnc (addF_all hmix hnc (addF_all hmix hnc (addF_all hmix hnc (addF_all hmix hnc q q54 k54) q55 k55) q56 k56) q57 k57) q58 k58) q59 k59)
  have q61 : PrimAll Tryz.prog B p61 := (addF_all hmix hnc q q60 k60)
  have q62 : PrimAll Tryz.prog B p62 := (addF_all hmix hnc q q61 k61)
  have q63 : PrimAll Tryz.prog B p63 := q
  have q64 : PrimAll Tryz.prog B p64 := (addF_all hmix hnc q q63 k63)
  have q65 : PrimAll Tryz.prog B p65 := (addF_all hmix hnc q q64 k64)
  have q66 : PrimAll Tryz.prog B p66 := (addF_all hmix hnc q q65 k65)
  have q67 : PrimAll Tryz.prog B p67 := (addF_all hmix hnc q q66 k66)
  have q68 : PrimAll Tryz.prog B p68 := (addF_all hmix hnc q q67 k67)
  have q69 : PrimAll Tryz.prog B p69 := (addF_all hmix hnc q q68 k68)
  have q70 : PrimAll Tryz.prog B p70 := (addF_all hmix hnc q q69 k69)
  have q71 : PrimAll Tryz.prog B p71 := (addF_all hmix hnc q q70 k70)
  have q72 : PrimAll Tryz.prog B p72 := (addF_all hmix hnc q q71 k71)
  have q73 : PrimAll Tryz.prog B p73 := (addF_all hmix hnc q q72 k72)
  have q74 : PrimAll Tryz.prog B p74 := (addF_all hmix hnc q q73 k73)
  have q75 : PrimAll Tryz.prog B p75 := (addF_all hmix hnc q q74 k74)
  have q76 : PrimAll Tryz.prog B p76 := (addF_all hmix hnc q q75 k75)
  have q77 : PrimAll Tryz.prog B p77 := (addF_all hmix hnc q q76 k76)
  have q78 : PrimAll Tryz.prog B p78 := (addF_all hmix hnc q q77 k77)
  have q79 : PrimAll Tryz.prog B p79 := (addF_all hmix hnc q q78 k78)
  have q80 : PrimAll Tryz.prog B p80 := (addF_all hmix hnc q q79 k79)
  have q81 : PrimAll Tryz.prog B p81 := (addF_all hmix hnc q q80 k80)
  have q82 : PrimAll Tryz.prog B p82 := (addF_all hmix hnc q q81 k81)
  have q83 : PrimAll Tryz.prog B p83 := (addF_all hmix hnc q q82 k82)
  have q84 : PrimAll Tryz.prog B p84 := (addF_all hmix hnc q q83 k83)
  have q85 : PrimAll Tryz.prog B p85 := (addF_all hmix hnc q q84 k84)
  have q86 : PrimAll Tryz.prog B p86 := (addF_all hmix hnc q q85 k85)
  have q87 : PrimAll Tryz.prog B p87 := (addF_all hmix hnc q q86 k86)
  have q88 : PrimAll Tryz.prog B p88 := (addF_all hmix hnc q q87 k87)
  have q89 : PrimAll Tryz.prog B p89 := (addF_all hmix hnc q q88 k88)
  have q90 : PrimAll Tryz.prog B p90 := (addF_all hmix hnc q q89 k89)
  have q91 : PrimAll Tryz.prog B p91 := (addF_all hmix hnc q q90 k90)
  have q92 : PrimAll Tryz.prog B p92 := (addF_all hmix hnc q q91 k91)
  have q93 : PrimAll Tryz.prog B p93 := (addF_all hmix hnc q q92 k92)
  have q94 : PrimAll Tryz.prog B p94 := (addF_all hmix hnc q q93 k93)
  have q95 : PrimAll Tryz.prog B p95 := (addF_all hmix hnc q q94 k94)
  have q96 : PrimAll Tryz.prog B p96 := (addF_all hmix hnc q q95 k95)
  have q97 : PrimAll Tryz.prog B p97 := (addF_all hmix hnc q q96 k96)
  have q98 : PrimAll Tryz.prog B p98 := (addF_all hmix hnc q q97 k97)
  have q99 : PrimAll Tryz.prog B p99 := (addF_all hmix hnc q q98 k98)
  have q100 : PrimAll Tryz.prog B p100 := (addF_all hmix hnc q q99 k99)
  have q101 : PrimAll Tryz.prog B p101 := (addF_all hmix hnc q q100 k100)
  have q102 : PrimAll Tryz.prog B p102 := (addF_all hmix hnc q q101 k101)
  have q103 : PrimAll Tryz.prog B p103 := (addF_all hmix hnc q q102 k102)
  have q104 : PrimAll Tryz.prog B p104 := (addF_all hmix hnc q q103 k103)
  have q105 : PrimAll Tryz.prog B p105 := (addF_all hmix hnc q q104 k104)
  have q106 : PrimAll Tryz.prog B p106 := (addF_all hmix hnc q q105 k105)
  have q107 : PrimAll Tryz.prog B p107 := (addF_all hmix hnc q q106 k106)
  have q108 : PrimAll Tryz.prog B p108 := (addF_all hmix hnc q q107 k107)
  have q109 : PrimAll Tryz.prog B p109 := (addF_all hmix hnc q q108 k108)
  have q110 : PrimAll Tryz.prog B p110 := (addF_all hmix hnc q q109 k109)
  have q111 : PrimAll Tryz.prog B p111 := (addF_all hmix hnc q q110 k110)
  have q112 : PrimAll Tryz.prog B p112 := (addF_all hmix hnc q q111 k111)
  have q113 : PrimAll Tryz.prog B p113 := (addF_all hmix hnc q q112 k112)
  have q114 : PrimAll Tryz.prog B p114 := (addF_all hmix hnc q q113 k113)
  have q115 : PrimAll Tryz.prog B p115 := (addF_all hmix hnc q q114 k114)
  have q116 : PrimAll Tryz.prog B p116 := (addF_all hmix hnc q q115 k115)
  have q117 : PrimAll Tryz.prog B p117 := (addF_all hmix hnc q q116 k116)
  have q118 : PrimAll Tryz.prog B p118 := (addF_all hmix hnc q q117 k117)
  have q119 : PrimAll Tryz.prog B p119 := (addF_all hmix hnc q q118 k118)
  have q120 : PrimAll Tryz.prog B p120 := (addF_all hmix hnc q q119 k119)
  have q121 : PrimAll Tryz.prog B p121 := (addF_all hmix hnc q q120 k120)
  have q122 : PrimAll Tryz.prog B p122 := (addF_all hmix hnc q q121 k121)
  have q123 : PrimAll Tryz.prog B p123 := (addF_all hmix hnc q q122 k122)
  have q124 : PrimAll Tryz.prog B p124 := (addF_all hmix hnc q q123 k123)
  have q125 : PrimAll Tryz.prog B p125 := (addF_all hmix hnc q q124 k124)
  have q126 : PrimAll Tryz.prog B p126 := (addF_all hmix hnc q q125 k125)
  have q127 : PrimAll Tryz.prog B p127 := (addF_all hmix hnc q q126 k126)
  have q128 : PrimAll Tryz.prog B p128 := (addF_all hmix hnc q q127 k127)
  have q129 : PrimAll Tryz.prog B p129 := (addF_all hmix hnc q q128 k128)
  have q130 : PrimAll Tryz.prog B p130 := (addF_all hmix hnc q q129 k129)
  have q131 : PrimAll Tryz.prog B p131 := (addF_all hmix hnc q q130 k130)
  have q132 : PrimAll Tryz.prog B p132 := (addF_all hmix hnc q q131 k131)
  have q133 : PrimAll Tryz.prog B p133 := (addF_all hmix hnc q q132 k132)
  have q134 : PrimAll Tryz.prog B p134 := q
  have q135 : PrimAll Tryz.prog B p135 := q
  have q136 : PrimAll Tryz.prog B p136 := q
  have q137 : PrimAll Tryz.prog B p137 := q
  have q138 : PrimAll Tryz.prog B p138 := (addF_all hmix hnc (addF_all hmix hnc (addF_all hmix hnc (addF_all hmix hnc q q134 k134) q135 k135) q136 k136) q137 k137)
  have q139 : PrimAll Tryz.prog B p139 := (addF_all hmix hnc q q138 k138)
  have q140 : PrimAll Tryz.prog B p140 := (addF_all hmix hnc q q139 k139)
  have q141 : PrimAll Tryz.prog B p141 := q
  have q142 : PrimAll Tryz.prog B p142 := q
  have q143 : PrimAll Tryz.prog B p143 := q
  have q144 : PrimAll Tryz.prog B p144 := q
  have q145 : PrimAll Tryz.prog B p145 := q
  have q146 : PrimAll Tryz.prog B p146 := q
  have q147 : PrimAll Tryz.prog B p147 := q
  have q148 : PrimAll Tryz.prog B p148 := q
  have q149 : PrimAll Tryz.prog B p149 := q
  have q150 : PrimAll Tryz.prog B p150 := q
  have q151 : PrimAll Tryz.prog B p151 := q
  have q152 : PrimAll Tryz.prog B p152 := q
  have q153 : PrimAll Tryz.prog B p153 := q
  have q154 : PrimAll Tryz.prog B p154 := q
  have q155 : PrimAll Tryz.prog B p155 := q
  have q156 : PrimAll Tryz.prog B p156 := q
  have q157 : PrimAll Tryz.prog B p157 := q
  have q158 : PrimAll Tryz.prog B p158 := q
  have q159 : PrimAll Tryz.prog B p159 := q
  have q160 : PrimAll Tryz.prog B p160 := q
  have q161 : PrimAll Tryz.prog B p161 := q
  have q162 : PrimAll Tryz.prog B p162 := q
  have q163 : PrimAll Tryz.prog B p163 := q
  have q164 : PrimAll Tryz.prog B p164 := q
  have q165 : PrimAll Tryz.prog B p165 := q
  have q166 : PrimAll Tryz.prog B p166 := q
  have q167 : PrimAll Tryz.prog B p167 := q
  have q168 : PrimAll Tryz.prog B p168 := q
  have q169 : PrimAll Tryz.prog B p169 := q
  have q170 : PrimAll Tryz.prog B p170 := q
  have q171 : PrimAll Tryz.prog B p171 := q
  have q172 : PrimAll Tryz.prog B p172 := q
  have q173 : PrimAll Tryz.prog B p173 := q
  have q174 : PrimAll Tryz.prog B p174 := q
  have q175 : PrimAll Tryz.prog B p175 := q
  have q176 : PrimAll Tryz.prog B p176 := q
  have q177 : PrimAll Tryz.prog B p177 := (addF_all hmix hnc (addF_all hmix hnc (addF_all hmix hnc (addF_all hmix hnc (addF_all hmix hnc (addF_all hmix hnc (addF_all hmix hnc (addF_all hmix hnc (addF_all hmix hnc (addF_all hmix hnc (addF_all hmix hnc (addF_all hmix hnc (addF_all hmix hnc (addF_all hmix hnc (addF_all hmix hnc (addF_all hmix hnc (addF_all hmix hnc (addF_all hmix hnc (addF_all hmix hnc (addF_all hmix hnc (addF_all hmix hnc (addF_all hmix hnc (addF_all hmix hnc (addF_all hmix hnc (addF_all hmix hnc (addF_all hmix hnc (addF_all hmix hnc (addF_all hmix hnc (addF_all hmix hnc (addF_all hmix hnc (addF_all hmix hnc (addF_all hmix hnc (addF_all hmix hnc (addF_all hmix hnc (addF_all hmix hnc q q142 k142) q143 k143) q144 k144) q145 k145) q146 k146) q147 k147) q148 k148) q149 k149) q150 k150) q151 k151) q152 k152) q153 k153) q154 k154) q155 k155) q156 k156) q157 k157) q158 k158) q159 k159) q160 k160) q161 k161) q162 k162) q163 k163) q164 k164) q165 k165) q166 k166) q167 k167) q168 k168) q169 k169) q170 k170) q171 k171) q172 k172) q173 k173) q174 k174) q175 k175) q176 k176)
  have q178 : PrimAll Tryz.prog B p178 := q
  have q179 : PrimAll Tryz.prog B p179 := (addF_all hmix hnc q q178 k178)
  have q180 : PrimAll Tryz.prog B p180 := (addF_all hmix hnc q q179 k179)
  have q181 : PrimAll Tryz.prog B p181 := q
  have q182 : PrimAll Tryz.prog B p182 := q
  have q183 : PrimAll Tryz.prog B p183 := q
  have q184 : PrimAll Tryz.prog B p184 := q
  have q185 : PrimAll Tryz.prog B p185 := q
  have q186 : PrimAll Tryz.prog B p186 := q
  have q187 : PrimAll Tryz.prog B p187 := q
  have q188 : PrimAll Tryz.prog B p188 := q
  have q189 : PrimAll Tryz.prog B p189 := q
  have q190 : PrimAll Tryz.prog B p190 := q
  have q191 : PrimAll Tryz.prog B p191 := q
  have q192 : PrimAll Tryz.prog B p192 := q
  have q193 : PrimAll Tryz.prog B p193 := q
  have q194 : PrimAll Tryz.prog B p194 := q
  have q195 : PrimAll Tryz.prog B p195 := q
  have q196 : PrimAll Tryz.prog B p196 := q
  have q197 : PrimAll Tryz.prog B p197 := q
  have q198 : PrimAll Tryz.prog B p198 := q
  have q199 : PrimAll Tryz.prog B p199 := q
  have q200 : PrimAll Tryz.prog B p200 := q
  have q201 : PrimAll Tryz.prog B p201 := q
  have q202 : PrimAll Tryz.prog B p202 := q
  have q203 : PrimAll Tryz.prog B p203 := q
  have q204 : PrimAll Tryz.prog B p204 := q
  have q205 : PrimAll Tryz.prog B p205 := q
  have q206 : PrimAll Tryz.prog B p206 := q
  have q207 : PrimAll Tryz.prog B p207 := q
  have q208 : PrimAll Tryz.prog B p208 := q
  have q209 : PrimAll Tryz.prog B p209 := q
  have q210 : PrimAll Tryz.prog B p210 := q
  have q211 : PrimAll Tryz.prog B p211 := q
  have q212 : PrimAll Tryz.prog B p212 := q
  have q213 : PrimAll Tryz.prog B p213 := q
  have q214 : PrimAll Tryz.prog B p214 := q
  have q215 : PrimAll Tryz.prog B p215 := q
  have q216 : PrimAll Tryz.prog B p216 := q
  have q217 : PrimAll Tryz.prog B p217 := (addF_all hmix hnc (addF_all hmix hnc (addF_all hmix hnc (addF_all hmix hnc (addF_all hmix hnc (addF_all hmix hnc (addF_all hmix hnc (addF_all hmix hnc (addF_all hmix hnc (addF_all hmix hnc (addF_all hmix hnc (addF_all hmix hnc (addF_all hmix hnc (addF_all hmix hnc (addF_all hmix hnc (addF_all hmix hnc (addF_all hmix hnc (addF_all hmix hnc (addF_all hmix hnc (addF_all hmix hnc (addF_all hmix hnc (addF_all hmix hnc (addF_all hmix hnc (addF_all hmix hnc (addF_all hmix hnc (addF_all hmix hnc (addF_all hmix hnc (addF_all hmix hnc (addF_all hmix hnc (addF_all hmix hnc (addF_all hmix hnc (addF_all hmix hnc (addF_all hmix hnc (addF_all hmix hnc (addF_all hmix hnc q q182 k182) q183 k183) q184 k184) q185 k185) q186 k186) q187 k187) q188 k188) q189 k189) q190 k190) q191 k191) q192 k192) q193 k193) q194 k194) q195 k195) q196 k196) q197 k197) q198 k198) q199 k199) q200 k200) q201 k201) q202 k202) q203 k203) q204 k204) q205 k205) q206 k206) q207 k207) q208 k208) q209 k209) q210 k210) q211 k211) q212 k212) q213 k213) q214 k214) q215 k215) q216 k216)
  have q218 : PrimAll Tryz.prog B p218 := q
  have q219 : PrimAll Tryz.prog B p219 := (addF_all hmix hnc q q218 k218)
  have q220 : PrimAll Tryz.prog B p220 := (addF_all hmix hnc q q219 k219)
  have q221 : PrimAll Tryz.prog B p221 := q
  exact (addF_all hmix hnc (addF_all hmix hnc (addF_all hmix hnc (addF_all hmix hnc (addF_all hmix hnc (addF_all hmix hnc (addF_all hmix hnc (addF_all hmix hnc (addF_all hmix hnc (addF_all hmix hnc (addF_all hmix hnc (addF_all hmix hnc (addF_all hmix hnc (addF_all hmix hnc (addF_all hmix hnc (addF_all hmix hnc q q43 k43) q46 k46) q47 k47) q49 k49) q52 k52) q53 k53) q62 k62) q133 k133) q140 k140) q141 k141) q177 k177) q180 k180) q181 k181) q217 k217) q220 k220) q221 k221)
end Go.Ev
