/- The contract of the law's first question, a closed call, by a machine of our own. -/
import Derived.Test.YthieicjnenlpfaaGreatDoorEvAll
import Derived.Test.YthieicjnenlpfaaGreatDoorEvSeat
import Derived.Test.YthieicjnenlpfaaGreatDoorEvVal
import Derived.Test.YthieicjnenlpfaaGreatDoorTie
import Derived.Test.YthieicjnenlpfaaGreatDoorCards
import Derived.ProofKit
import Derived.LaidMore
import Derived.Lay
import Derived.OpenShut
import Derived.Carry
import Derived.ChangeMaps5
import Derived.Stop.Joined
import Derived.Stop.LaidErr
import Derived.Lib.LaidTab
import Derived.SevenTiedAt
import Derived.Lib.SmallJoins
set_option linter.unusedSimpArgs false
set_option linter.unusedVariables false
namespace Go.Proofs.YthieicjnenlpfaaGreatDoor
open Go.ChangeShapes Go.WideShapes Go.ChangeAt Go.RowKit Go.Joins Go.Deep
set_option linter.unusedSimpArgs false
set_option linter.unusedVariables false

theorem own : ownKnob Tryz.prog.godebug = none := by kernel_rfl
theorem laidOut : laidOutB Tryz.prog = true := by kernel_rfl
def laidY : List (String × DataW Unit) := [("plumbob/rtl.shapes", Rows.laid_plumbob_rtl_shapes), ("plumbob/ltl.params", Rows.laid_plumbob_ltl_params)]
theorem mixedOk : Tryz.prog.follows .mixedOrders = true := by kernel_rfl
theorem awake_walk (W : World) (h : laidMetH Tryz.prog laidY W) : ∀ w, Below W.heap.size W w → Calls Tryz.prog 4 #[] w (fun e W' => e = .returned (.bool true) ∧ Below w.heap.size w W') := by
  rw [MakeChecks.laidMetH_plain _ _ _ (by kernel_rfl)] at h
  obtain ⟨σ, k⟩ := Ev.tabs_seat (B := W) h
  exact (Ev.ansv_calls mixedOk (Ev.all0 mixedOk Ev.no_count Ev.vals_ok) Ev.no_count k rfl rfl (Ev.ansb_ansv Ev.k0)).2
theorem plain1_eq {σ : Ev.Sg} {v v' : Value} (h : Ev.plain1 v = true) (k : Ev.VR σ v v') : v' = v := by
  cases k <;> first | rfl | simp [Ev.plain1] at h
/-- The cells of a table. -/
noncomputable def tab0 : List Value := (Ev.parts Rows.laid_plumbob_ltl_params).map Ev.litv
theorem tab0_get : Ev.h0.objs.get 0 = some (.ro tab0) := by kernel_rfl
theorem tab0_cells (W : World) (h : laidMetH Tryz.prog laidY W) (i : Nat) (v : Value) (hv : tab0[i]? = some v) (hp : Ev.plain1 v = true) : W.cell? ⟨0, i, none⟩ = some v := by
  rw [MakeChecks.laidMetH_plain _ _ _ (by kernel_rfl)] at h
  obtain ⟨σ, k⟩ := Ev.tabs_seat (B := W) h
  obtain ⟨r, δ, x, e1, C, e, fz, h1, h2⟩ := k.hr.obj 0 _ tab0_get rfl
  rw [k.hr.glob 0 (by rw [Ev.gsize]; decide)] at e1
  cases e1
  obtain ⟨v', h3, h4⟩ := h2 i v hv
  have h3' : C[i]? = some v' := by simpa using h3
  rw [Ev.cell_at h1, h3', plain1_eq hp h4]
/-- The cells of a table. -/
noncomputable def tab1 : List Value := (Ev.parts Rows.laid_plumbob_rtl_shapes).flatMap fun x => (Ev.parts x).map Ev.litv
theorem tab1_get : Ev.h0.objs.get 1 = some (.ro tab1) := by kernel_rfl
theorem tab1_cells (W : World) (h : laidMetH Tryz.prog laidY W) (i : Nat) (v : Value) (hv : tab1[i]? = some v) (hp : Ev.plain1 v = true) : W.cell? ⟨1, i, none⟩ = some v := by
  rw [MakeChecks.laidMetH_plain _ _ _ (by kernel_rfl)] at h
  obtain ⟨σ, k⟩ := Ev.tabs_seat (B := W) h
  obtain ⟨r, δ, x, e1, C, e, fz, h1, h2⟩ := k.hr.obj 1 _ tab1_get rfl
  rw [k.hr.glob 1 (by rw [Ev.gsize]; decide)] at e1
  cases e1
  obtain ⟨v', h3, h4⟩ := h2 i v hv
  have h3' : C[i]? = some v' := by simpa using h3
  rw [Ev.cell_at h1, h3', plain1_eq hp h4]
end Go.Proofs.YthieicjnenlpfaaGreatDoor
