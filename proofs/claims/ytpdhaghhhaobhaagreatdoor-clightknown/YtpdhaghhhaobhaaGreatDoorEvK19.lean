/- A part of a machine of our own for closed calls, and of the proof that it says what the runs do. -/
import Derived.Test.YtpdhaghhhaobhaaGreatDoorEvSn
set_option linter.unusedSimpArgs false
set_option linter.unusedVariables false
namespace Go.Ev
open Go Go.Proofs Go.Proofs.YtpdhaghhhaobhaaGreatDoor
theorem k141 : okPart Tryz.prog p141 100000 200 5 a141 17617 l141 v141 17771 d141 = true := by kernel_rfl
theorem k142 : okPart Tryz.prog p142 100000 200 110 a142 17779 l142 v142 17781 d142 = true := by kernel_rfl
theorem k143 : okPart Tryz.prog p143 100000 200 110 a143 17785 l143 v143 17787 d143 = true := by kernel_rfl
theorem k144 : okPart Tryz.prog p144 100000 200 110 a144 17791 l144 v144 17793 d144 = true := by kernel_rfl
theorem k145 : okPart Tryz.prog p145 100000 200 110 a145 17797 l145 v145 17799 d145 = true := by kernel_rfl
theorem k146 : okPart Tryz.prog p146 100000 200 110 a146 17803 l146 v146 17805 d146 = true := by kernel_rfl
theorem k147 : okPart Tryz.prog p147 100000 200 110 a147 17809 l147 v147 17811 d147 = true := by kernel_rfl
theorem k148 : okPart Tryz.prog p148 100000 200 110 a148 17815 l148 v148 17817 d148 = true := by kernel_rfl
theorem k149 : okPart Tryz.prog p149 100000 200 110 a149 17821 l149 v149 17823 d149 = true := by kernel_rfl
theorem k150 : okPart Tryz.prog p150 100000 200 110 a150 17827 l150 v150 17829 d150 = true := by kernel_rfl
theorem k151 : okPart Tryz.prog p151 100000 200 110 a151 17833 l151 v151 17835 d151 = true := by kernel_rfl
theorem k152 : okPart Tryz.prog p152 100000 200 110 a152 17839 l152 v152 17841 d152 = true := by kernel_rfl
theorem k153 : okPart Tryz.prog p153 100000 200 110 a153 17845 l153 v153 17847 d153 = true := by kernel_rfl
theorem k154 : okPart Tryz.prog p154 100000 200 110 a154 17851 l154 v154 17853 d154 = true := by kernel_rfl
theorem k155 : okPart Tryz.prog p155 100000 200 110 a155 17857 l155 v155 17859 d155 = true := by kernel_rfl
theorem k156 : okPart Tryz.prog p156 100000 200 110 a156 17863 l156 v156 17865 d156 = true := by kernel_rfl
theorem k157 : okPart Tryz.prog p157 100000 200 110 a157 17869 l157 v157 17871 d157 = true := by kernel_rfl
theorem k158 : okPart Tryz.prog p158 100000 200 110 a158 17875 l158 v158 17877 d158 = true := by kernel_rfl
theorem k159 : okPart Tryz.prog p159 100000 200 110 a159 17881 l159 v159 17883 d159 = true := by kernel_rfl
theorem k160 : okPart Tryz.prog p160 100000 200 110 a160 17887 l160 v160 17889 d160 = true := by kernel_rfl
theorem k161 : okPart Tryz.prog p161 100000 200 110 a161 17893 l161 v161 17895 d161 = true := by kernel_rfl
theorem k162 : okPart Tryz.prog p162 100000 200 110 a162 17899 l162 v162 17901 d162 = true := by kernel_rfl
theorem k163 : okPart Tryz.prog p163 100000 200 110 a163 17905 l163 v163 17907 d163 = true := by kernel_rfl
theorem k164 : okPart Tryz.prog p164 100000 200 110 a164 17911 l164 v164 17913 d164 = true := by kernel_rfl
theorem k165 : okPart Tryz.prog p165 100000 200 110 a165 17917 l165 v165 17919 d165 = true := by kernel_rfl
theorem k166 : okPart Tryz.prog p166 100000 200 110 a166 17923 l166 v166 17925 d166 = true := by kernel_rfl
theorem k167 : okPart Tryz.prog p167 100000 200 110 a167 17929 l167 v167 17931 d167 = true := by kernel_rfl
theorem k168 : okPart Tryz.prog p168 100000 200 110 a168 17935 l168 v168 17938 d168 = true := by kernel_rfl
theorem k169 : okPart Tryz.prog p169 100000 200 110 a169 17942 l169 v169 17944 d169 = true := by kernel_rfl
theorem k170 : okPart Tryz.prog p170 100000 200 110 a170 17948 l170 v170 17950 d170 = true := by kernel_rfl
theorem k171 : okPart Tryz.prog p171 100000 200 110 a171 17954 l171 v171 17956 d171 = true := by kernel_rfl
theorem k172 : okPart Tryz.prog p172 100000 200 110 a172 17960 l172 v172 17962 d172 = true := by kernel_rfl
theorem k173 : okPart Tryz.prog p173 100000 200 110 a173 17966 l173 v173 17968 d173 = true := by kernel_rfl
theorem k174 : okPart Tryz.prog p174 100000 200 110 a174 17972 l174 v174 17975 d174 = true := by kernel_rfl
theorem k175 : okPart Tryz.prog p175 100000 200 110 a175 17979 l175 v175 17981 d175 = true := by kernel_rfl
theorem k176 : okPart Tryz.prog p176 100000 200 110 a176 17985 l176 v176 17987 d176 = true := by kernel_rfl
theorem k177 : okPart Tryz.prog p177 100000 200 39 a177 17773 l177 v177 17991 d177 = true := by kernel_rfl
end Go.Ev
