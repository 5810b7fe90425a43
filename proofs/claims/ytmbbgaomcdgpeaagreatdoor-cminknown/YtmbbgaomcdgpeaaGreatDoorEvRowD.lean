/- A part of a machine of our own for closed calls, and of the proof that it says what the runs do. -/
import Derived.Test.YtmbbgaomcdgpeaaGreatDoorEvRowC
set_option linter.unusedSimpArgs false
set_option linter.unusedVariables false
namespace Go.Proofs.YtmbbgaomcdgpeaaGreatDoor
open Go.ChangeShapes Go.WideShapes Go.ChangeAt Go.RowKit Go.Joins Go.Deep
set_option linter.unusedSimpArgs false
set_option linter.unusedVariables false
theorem cdW : Rows.cminKnownRow.wfByText (OpenSpec.ofChange Rows.cminKnownSpec) = true := by kernel_rfl
theorem cdM : Tryz.prog.mainIs = some (true, (String.toList "b92e4fb3a94af05ad99c12e8632094f9360d2d53550445c12441a7356c0ad899")) := by kernel_rfl
theorem cdL : true = Tryz.prog.looks [] := by kernel_rfl
theorem cdG : false = Rows.cminKnownRow.goesBy Tryz.prog := by kernel_rfl
end Go.Proofs.YtmbbgaomcdgpeaaGreatDoor
