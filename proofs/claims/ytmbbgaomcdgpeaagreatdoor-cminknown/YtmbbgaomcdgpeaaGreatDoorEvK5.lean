/- A part of a machine of our own for closed calls, and of the proof that it says what the runs do. -/
import Derived.Test.YtmbbgaomcdgpeaaGreatDoorEvSn
set_option linter.unusedSimpArgs false
set_option linter.unusedVariables false
namespace Go.Ev
open Go Go.Proofs Go.Proofs.YtmbbgaomcdgpeaaGreatDoor
theorem k49 : okPart Tryz.prog p49 100000 200 12 a49 1098 l49 v49 1319 d49 = true := by kernel_rfl
theorem k50 : okPart Tryz.prog p50 100000 200 6 a50 1320 l50 v50 1505 d50 = true := by kernel_rfl
theorem k51 : okPart Tryz.prog p51 100000 200 77 a51 1513 l51 v51 1515 d51 = true := by kernel_rfl
theorem k52 : okPart Tryz.prog p52 100000 200 77 a52 1519 l52 v52 1521 d52 = true := by kernel_rfl
theorem k53 : okPart Tryz.prog p53 100000 200 77 a53 1531 l53 v53 1533 d53 = true := by kernel_rfl
theorem k54 : okPart Tryz.prog p54 100000 200 77 a54 1537 l54 v54 1539 d54 = true := by kernel_rfl
theorem k55 : okPart Tryz.prog p55 100000 200 77 a55 1555 l55 v55 1557 d55 = true := by kernel_rfl
theorem k56 : okPart Tryz.prog p56 100000 200 77 a56 1561 l56 v56 1563 d56 = true := by kernel_rfl
theorem k57 : okPart Tryz.prog p57 100000 200 77 a57 1567 l57 v57 1569 d57 = true := by kernel_rfl
theorem k58 : okPart Tryz.prog p58 100000 200 77 a58 1573 l58 v58 1575 d58 = true := by kernel_rfl
theorem k59 : okPart Tryz.prog p59 100000 200 77 a59 1579 l59 v59 1581 d59 = true := by kernel_rfl
theorem k60 : okPart Tryz.prog p60 100000 200 77 a60 1585 l60 v60 1587 d60 = true := by kernel_rfl
theorem k61 : okPart Tryz.prog p61 100000 200 77 a61 1591 l61 v61 1593 d61 = true := by kernel_rfl
theorem k62 : okPart Tryz.prog p62 100000 200 77 a62 1597 l62 v62 1599 d62 = true := by kernel_rfl
theorem k63 : okPart Tryz.prog p63 100000 200 77 a63 1603 l63 v63 1605 d63 = true := by kernel_rfl
theorem k64 : okPart Tryz.prog p64 100000 200 77 a64 1609 l64 v64 1611 d64 = true := by kernel_rfl
theorem k65 : okPart Tryz.prog p65 100000 200 77 a65 1615 l65 v65 1617 d65 = true := by kernel_rfl
end Go.Ev
