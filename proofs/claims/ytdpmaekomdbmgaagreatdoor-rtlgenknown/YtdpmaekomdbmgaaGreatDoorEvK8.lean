/- A part of a machine of our own for closed calls, and of the proof that it says what the runs do. -/
import Derived.Test.YtdpmaekomdbmgaaGreatDoorEvSn
set_option linter.unusedSimpArgs false
set_option linter.unusedVariables false
namespace Go.Ev
open Go Go.Proofs Go.Proofs.YtdpmaekomdbmgaaGreatDoor
theorem k56 : okPart Tryz.prog p56 100000 200 4 a56 24 l56 v56 2515 d56 = true := by kernel_rfl
theorem k57 : okPart Tryz.prog p57 100000 200 122 a57 2523 l57 v57 2525 d57 = true := by kernel_rfl
theorem k58 : okPart Tryz.prog p58 100000 200 122 a58 2529 l58 v58 2531 d58 = true := by kernel_rfl
theorem k59 : okPart Tryz.prog p59 100000 200 122 a59 2535 l59 v59 2537 d59 = true := by kernel_rfl
theorem k60 : okPart Tryz.prog p60 100000 200 122 a60 2541 l60 v60 2544 d60 = true := by kernel_rfl
theorem k61 : okPart Tryz.prog p61 100000 200 122 a61 2548 l61 v61 2550 d61 = true := by kernel_rfl
theorem k62 : okPart Tryz.prog p62 100000 200 122 a62 2554 l62 v62 2556 d62 = true := by kernel_rfl
theorem k63 : okPart Tryz.prog p63 100000 200 122 a63 2560 l63 v63 2562 d63 = true := by kernel_rfl
theorem k64 : okPart Tryz.prog p64 100000 200 122 a64 2566 l64 v64 2568 d64 = true := by kernel_rfl
theorem k65 : okPart Tryz.prog p65 100000 200 122 a65 2572 l65 v65 2574 d65 = true := by kernel_rfl
theorem k66 : okPart Tryz.prog p66 100000 200 122 a66 2578 l66 v66 2580 d66 = true := by kernel_rfl
theorem k67 : okPart Tryz.prog p67 100000 200 122 a67 2584 l67 v67 2586 d67 = true := by kernel_rfl
theorem k68 : okPart Tryz.prog p68 100000 200 122 a68 2590 l68 v68 2592 d68 = true := by kernel_rfl
theorem k69 : okPart Tryz.prog p69 100000 200 122 a69 2596 l69 v69 2598 d69 = true := by kernel_rfl
theorem k70 : okPart Tryz.prog p70 100000 200 122 a70 2602 l70 v70 2604 d70 = true := by kernel_rfl
theorem k71 : okPart Tryz.prog p71 100000 200 122 a71 2608 l71 v71 2610 d71 = true := by kernel_rfl
theorem k72 : okPart Tryz.prog p72 100000 200 122 a72 2614 l72 v72 2616 d72 = true := by kernel_rfl
theorem k73 : okPart Tryz.prog p73 100000 200 122 a73 2620 l73 v73 2622 d73 = true := by kernel_rfl
theorem k74 : okPart Tryz.prog p74 100000 200 122 a74 2626 l74 v74 2628 d74 = true := by kernel_rfl
theorem k75 : okPart Tryz.prog p75 100000 200 122 a75 2632 l75 v75 2634 d75 = true := by kernel_rfl
theorem k76 : okPart Tryz.prog p76 100000 200 122 a76 2644 l76 v76 2646 d76 = true := by kernel_rfl
theorem k77 : okPart Tryz.prog p77 100000 200 122 a77 2650 l77 v77 2652 d77 = true := by kernel_rfl
theorem k78 : okPart Tryz.prog p78 100000 200 122 a78 2656 l78 v78 2658 d78 = true := by kernel_rfl
theorem k79 : okPart Tryz.prog p79 100000 200 122 a79 2662 l79 v79 2664 d79 = true := by kernel_rfl
theorem k80 : okPart Tryz.prog p80 100000 200 122 a80 2668 l80 v80 2670 d80 = true := by kernel_rfl
theorem k81 : okPart Tryz.prog p81 100000 200 122 a81 2674 l81 v81 2676 d81 = true := by kernel_rfl
theorem k82 : okPart Tryz.prog p82 100000 200 122 a82 2686 l82 v82 2688 d82 = true := by kernel_rfl
theorem k83 : okPart Tryz.prog p83 100000 200 122 a83 2692 l83 v83 2694 d83 = true := by kernel_rfl
theorem k84 : okPart Tryz.prog p84 100000 200 122 a84 2698 l84 v84 2700 d84 = true := by kernel_rfl
theorem k85 : okPart Tryz.prog p85 100000 200 122 a85 2704 l85 v85 2706 d85 = true := by kernel_rfl
end Go.Ev
