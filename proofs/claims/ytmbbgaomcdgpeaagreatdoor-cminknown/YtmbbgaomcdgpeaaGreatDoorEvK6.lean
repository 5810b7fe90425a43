/- A part of a machine of our own for closed calls, and of the proof that it says what the runs do. -/
import Derived.Test.YtmbbgaomcdgpeaaGreatDoorEvSn
set_option linter.unusedSimpArgs false
set_option linter.unusedVariables false
namespace Go.Ev
open Go Go.Proofs Go.Proofs.YtmbbgaomcdgpeaaGreatDoor
theorem k66 : okPart Tryz.prog p66 100000 200 77 a66 1621 l66 v66 1623 d66 = true := by kernel_rfl
theorem k67 : okPart Tryz.prog p67 100000 200 77 a67 1627 l67 v67 1629 d67 = true := by kernel_rfl
theorem k68 : okPart Tryz.prog p68 100000 200 77 a68 1633 l68 v68 1636 d68 = true := by kernel_rfl
theorem k69 : okPart Tryz.prog p69 100000 200 77 a69 1640 l69 v69 1642 d69 = true := by kernel_rfl
theorem k70 : okPart Tryz.prog p70 100000 200 77 a70 1646 l70 v70 1648 d70 = true := by kernel_rfl
theorem k71 : okPart Tryz.prog p71 100000 200 77 a71 1652 l71 v71 1654 d71 = true := by kernel_rfl
theorem k72 : okPart Tryz.prog p72 100000 200 77 a72 1658 l72 v72 1661 d72 = true := by kernel_rfl
theorem k73 : okPart Tryz.prog p73 100000 200 77 a73 1665 l73 v73 1667 d73 = true := by kernel_rfl
theorem k74 : okPart Tryz.prog p74 100000 200 16 a74 1507 l74 v74 1677 d74 = true := by kernel_rfl
theorem k75 : okPart Tryz.prog p75 100000 200 212 a75 1734 l75 v75 1826 d75 = true := by kernel_rfl
end Go.Ev
