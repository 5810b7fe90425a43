/- A part of a machine of our own for closed calls, and of the proof that it says what the runs do. -/
import Derived.Test.YtofnnpchobgapaaGreatDoorEvTab
import Derived.Test.YtofnnpchobgapaaGreatDoorEvH
import Derived.Test.YtofnnpchobgapaaGreatDoorShelf
set_option linter.unusedSimpArgs false
set_option linter.unusedVariables false
namespace Go.Ev
open Go Go.RowKit Go.Proofs Go.Proofs.YtofnnpchobgapaaGreatDoor
variable {B : World}
theorem bel_grown (w : World) (k : Nat) (os : Array Obj) : Below w.heap.size w (Sort.grow (w.drewN k) os) :=
  ⟨rfl, rfl, rfl, by show w.heap.size ≤ (w.heap ++ os).size; rw [Array.size_append]; omega, fun j hj => by show (w.heap ++ os)[j]? = w.heap[j]?; rw [Array.getElem?_append, if_pos hj]⟩
theorem no_count : NoCount Tryz.prog := noCount_of (by kernel_rfl)
theorem vals_ok (ht : Lib.TabIs Tryz.prog B "internal/strconv.uint64pow10" .u64 Lib.pow10Tab) : ValOk Tryz.prog B vals := by
  intro f args v hv
  unfold vals at hv
  split at hv
  · rename_i n
    cases hb : inI64 n with
    | false => rw [hb] at hv; simp at hv
    | true =>
      rw [hb] at hv
      simp only [cond_true, Option.some.injEq] at hv
      subst hv
      obtain ⟨e1, e2, e3⟩ := itoaB_eq hb
      refine ⟨rfl, rfl, .inr ⟨fun w => enter_ok Tryz.func51 (by kernel_rfl) (by kernel_rfl) _ w, fun w hw => (Tryz.strconv_FormatInt_10 n e2 e3 w (tab_below ht hw)).mono ?_⟩⟩
      rintro e W ⟨rfl, k, os, rfl⟩
      exact ⟨by rw [e1], bel_grown w k os⟩
  · simp at hv
end Go.Ev
