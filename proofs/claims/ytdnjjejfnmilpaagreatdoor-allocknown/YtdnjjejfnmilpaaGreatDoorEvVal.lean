/- A part of a machine of our own for closed calls, and of the proof that it says what the runs do. -/
import Derived.Test.YtdnjjejfnmilpaaGreatDoorEvTab
import Derived.Test.YtdnjjejfnmilpaaGreatDoorEvH
import Derived.Test.YtdnjjejfnmilpaaGreatDoorShelf
set_option linter.unusedSimpArgs false
set_option linter.unusedVariables false
namespace Go.Ev
open Go Go.RowKit Go.Proofs Go.Proofs.YtdnjjejfnmilpaaGreatDoor
variable {B : World}
theorem no_count : NoCount Tryz.prog := noCount_of (by kernel_rfl)
theorem vals_ok : ValOk Tryz.prog B vals := by
  intro f args v hv
  unfold vals at hv
  split at hv
  · simp at hv
end Go.Ev
