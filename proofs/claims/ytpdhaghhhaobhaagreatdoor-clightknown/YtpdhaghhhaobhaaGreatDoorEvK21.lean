/- A part of a machine of our own for closed calls, and of the proof that it says what the runs do. -/
import Derived.Test.YtpdhaghhhaobhaaGreatDoorEvSn
set_option linter.unusedSimpArgs false
set_option linter.unusedVariables false
namespace Go.Ev
open Go Go.Proofs Go.Proofs.YtpdhaghhhaobhaaGreatDoor
theorem k181 : okPart Tryz.prog p181 100000 200 43 a181 18607 l181 v181 18821 d181 = true := by kernel_rfl
theorem k182 : okPart Tryz.prog p182 100000 200 110 a182 18862 l182 v182 18864 d182 = true := by kernel_rfl
theorem k183 : okPart Tryz.prog p183 100000 200 110 a183 18868 l183 v183 18870 d183 = true := by kernel_rfl
theorem k184 : okPart Tryz.prog p184 100000 200 110 a184 18874 l184 v184 18876 d184 = true := by kernel_rfl
theorem k185 : okPart Tryz.prog p185 100000 200 110 a185 18880 l185 v185 18882 d185 = true := by kernel_rfl
theorem k186 : okPart Tryz.prog p186 100000 200 110 a186 18886 l186 v186 18888 d186 = true := by kernel_rfl
theorem k187 : okPart Tryz.prog p187 100000 200 110 a187 18892 l187 v187 18894 d187 = true := by kernel_rfl
theorem k188 : okPart Tryz.prog p188 100000 200 110 a188 18898 l188 v188 18900 d188 = true := by kernel_rfl
theorem k189 : okPart Tryz.prog p189 100000 200 110 a189 18904 l189 v189 18906 d189 = true := by kernel_rfl
theorem k190 : okPart Tryz.prog p190 100000 200 110 a190 18910 l190 v190 18912 d190 = true := by kernel_rfl
theorem k191 : okPart Tryz.prog p191 100000 200 110 a191 18916 l191 v191 18918 d191 = true := by kernel_rfl
theorem k192 : okPart Tryz.prog p192 100000 200 110 a192 18922 l192 v192 18924 d192 = true := by kernel_rfl
theorem k193 : okPart Tryz.prog p193 100000 200 110 a193 18928 l193 v193 18930 d193 = true := by kernel_rfl
theorem k194 : okPart Tryz.prog p194 100000 200 110 a194 18934 l194 v194 18936 d194 = true := by kernel_rfl
theorem k195 : okPart Tryz.prog p195 100000 200 110 a195 18940 l195 v195 18942 d195 = true := by kernel_rfl
theorem k196 : okPart Tryz.prog p196 100000 200 110 a196 18946 l196 v196 18948 d196 = true := by kernel_rfl
theorem k197 : okPart Tryz.prog p197 100000 200 110 a197 18952 l197 v197 18954 d197 = true := by kernel_rfl
theorem k198 : okPart Tryz.prog p198 100000 200 110 a198 18958 l198 v198 18960 d198 = true := by kernel_rfl
theorem k199 : okPart Tryz.prog p199 100000 200 110 a199 18964 l199 v199 18966 d199 = true := by kernel_rfl
theorem k200 : okPart Tryz.prog p200 100000 200 110 a200 18970 l200 v200 18972 d200 = true := by kernel_rfl
theorem k201 : okPart Tryz.prog p201 100000 200 110 a201 18976 l201 v201 18978 d201 = true := by kernel_rfl
theorem k202 : okPart Tryz.prog p202 100000 200 110 a202 18982 l202 v202 18984 d202 = true := by kernel_rfl
theorem k203 : okPart Tryz.prog p203 100000 200 110 a203 18988 l203 v203 18990 d203 = true := by kernel_rfl
theorem k204 : okPart Tryz.prog p204 100000 200 110 a204 18994 l204 v204 18996 d204 = true := by kernel_rfl
theorem k205 : okPart Tryz.prog p205 100000 200 110 a205 19000 l205 v205 19002 d205 = true := by kernel_rfl
theorem k206 : okPart Tryz.prog p206 100000 200 110 a206 19006 l206 v206 19008 d206 = true := by kernel_rfl
theorem k207 : okPart Tryz.prog p207 100000 200 110 a207 19012 l207 v207 19014 d207 = true := by kernel_rfl
theorem k208 : okPart Tryz.prog p208 100000 200 110 a208 19018 l208 v208 19021 d208 = true := by kernel_rfl
theorem k209 : okPart Tryz.prog p209 100000 200 110 a209 19025 l209 v209 19027 d209 = true := by kernel_rfl
theorem k210 : okPart Tryz.prog p210 100000 200 110 a210 19031 l210 v210 19033 d210 = true := by kernel_rfl
theorem k211 : okPart Tryz.prog p211 100000 200 110 a211 19037 l211 v211 19039 d211 = true := by kernel_rfl
theorem k212 : okPart Tryz.prog p212 100000 200 110 a212 19043 l212 v212 19045 d212 = true := by kernel_rfl
theorem k213 : okPart Tryz.prog p213 100000 200 110 a213 19049 l213 v213 19051 d213 = true := by kernel_rfl
theorem k214 : okPart Tryz.prog p214 100000 200 110 a214 19055 l214 v214 19058 d214 = true := by kernel_rfl
theorem k215 : okPart Tryz.prog p215 100000 200 110 a215 19062 l215 v215 19064 d215 = true := by kernel_rfl
theorem k216 : okPart Tryz.prog p216 100000 200 110 a216 19068 l216 v216 19070 d216 = true := by kernel_rfl
end Go.Ev
