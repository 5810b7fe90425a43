/- The contract of the law's first question, a closed call, by a machine of our own. -/
import Derived.Test.YtiigfggebpmlnaaGreatDoorEvAll
import Derived.Test.YtiigfggebpmlnaaGreatDoorEvSeat
import Derived.Test.YtiigfggebpmlnaaGreatDoorEvVal
import Derived.Test.YtiigfggebpmlnaaGreatDoorTie
import Derived.Test.YtiigfggebpmlnaaGreatDoorCards
import Derived.ProofKit
import Derived.LaidMore
import Derived.Lay
import Derived.OpenShut
import Derived.Carry
import Derived.ChangeMaps5
import Derived.Stop.Joined
import Derived.Stop.LaidErr
import Derived.Lib.LaidTab
import Derived.SevenTiedAt
import Derived.Lib.SmallJoins
set_option linter.unusedSimpArgs false
set_option linter.unusedVariables false
namespace Go.Proofs.YtiigfggebpmlnaaGreatDoor
open Go.ChangeShapes Go.WideShapes Go.ChangeAt Go.RowKit Go.Joins Go.Deep
set_option linter.unusedSimpArgs false
set_option linter.unusedVariables false

theorem own : ownKnob Tryz.prog.godebug = none := by kernel_rfl
theorem laidOut : laidOutB Tryz.prog = true := by kernel_rfl
def laidY : List (String × DataW Unit) := [("plumbob/rtl.shapes", Rows.laid_plumbob_rtl_shapes)]
theorem mixedOk : Tryz.prog.follows .mixedOrders = true := by kernel_rfl
theorem awake_walk (W : World) (h : laidMetH Tryz.prog laidY W) : ∀ w, Below W.heap.size W w → Calls Tryz.prog 5 #[] w (fun e W' => e = .returned (.bool true) ∧ Below w.heap.size w W') := by
  rw [MakeChecks.laidMetH_plain _ _ _ (by kernel_rfl)] at h
  obtain ⟨σ, k⟩ := Ev.tabs_seat (B := W) h
  exact (Ev.ansv_calls mixedOk (Ev.all0 mixedOk Ev.no_count Ev.vals_ok) Ev.no_count k rfl rfl (Ev.ansb_ansv Ev.k0)).2
theorem plain1_eq {σ : Ev.Sg} {v v' : Value} (h : Ev.plain1 v = true) (k : Ev.VR σ v v') : v' = v := by
  cases k <;> first | rfl | simp [Ev.plain1] at h
end Go.Proofs.YtiigfggebpmlnaaGreatDoor
