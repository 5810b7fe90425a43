/- A part of a machine of our own for closed calls, and of the proof that it says what the runs do. -/
import Derived.Test.YtpdhaghhhaobhaaGreatDoorEvSn
set_option linter.unusedSimpArgs false
set_option linter.unusedVariables false
namespace Go.Ev
open Go Go.Proofs Go.Proofs.YtpdhaghhhaobhaaGreatDoor
theorem k135 : okPart Tryz.prog p135 100000 200 110 a135 17171 l135 v135 17173 d135 = true := by kernel_rfl
theorem k136 : okPart Tryz.prog p136 100000 200 110 a136 17177 l136 v136 17179 d136 = true := by kernel_rfl
theorem k137 : okPart Tryz.prog p137 100000 200 110 a137 17195 l137 v137 17197 d137 = true := by kernel_rfl
theorem k138 : okPart Tryz.prog p138 100000 200 39 a138 17099 l138 v138 17219 d138 = true := by kernel_rfl
theorem k139 : okPart Tryz.prog p139 100000 200 17 a139 17098 l139 v139 17446 d139 = true := by kernel_rfl
theorem k140 : okPart Tryz.prog p140 100000 200 6 a140 17098 l140 v140 17617 d140 = true := by kernel_rfl
end Go.Ev
