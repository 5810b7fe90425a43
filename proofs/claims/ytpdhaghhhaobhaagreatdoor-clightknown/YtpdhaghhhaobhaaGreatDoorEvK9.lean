/- A part of a machine of our own for closed calls, and of the proof that it says what the runs do. -/
import Derived.Test.YtpdhaghhhaobhaaGreatDoorEvSn
set_option linter.unusedSimpArgs false
set_option linter.unusedVariables false
namespace Go.Ev
open Go Go.Proofs Go.Proofs.YtpdhaghhhaobhaaGreatDoor
theorem k71 : okPart Tryz.prog p71 100000 200 355 a71 14563 l71 v71 16223 d71 = true := by kernel_rfl
theorem k72 : okPart Tryz.prog p72 100000 200 65 a72 14394 l72 v72 16238 d72 = true := by kernel_rfl
theorem k73 : okPart Tryz.prog p73 100000 200 65 a73 14225 l73 v73 16252 d73 = true := by kernel_rfl
theorem k74 : okPart Tryz.prog p74 100000 200 34 a74 14054 l74 v74 16266 d74 = true := by kernel_rfl
theorem k75 : okPart Tryz.prog p75 100000 200 380 a75 13881 l75 v75 16280 d75 = true := by kernel_rfl
theorem k76 : okPart Tryz.prog p76 100000 200 355 a76 13711 l76 v76 16294 d76 = true := by kernel_rfl
theorem k77 : okPart Tryz.prog p77 100000 200 65 a77 13542 l77 v77 16309 d77 = true := by kernel_rfl
end Go.Ev
