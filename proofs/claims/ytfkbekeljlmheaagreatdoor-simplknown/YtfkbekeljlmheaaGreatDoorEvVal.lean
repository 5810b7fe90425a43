/- A part of a machine of our own for closed calls, and of the proof that it says what the runs do. -/
import Derived.Test.YtfkbekeljlmheaaGreatDoorEvTab
import Derived.Test.YtfkbekeljlmheaaGreatDoorEvH
import Derived.Test.YtfkbekeljlmheaaGreatDoorShelf
set_option linter.unusedSimpArgs false
set_option linter.unusedVariables false
namespace Go.Ev
open Go Go.RowKit Go.Proofs Go.Proofs.YtfkbekeljlmheaaGreatDoor
variable {B : World}
theorem no_count : NoCount Tryz.prog := noCount_of (by kernel_rfl)
theorem vals_ok : ValOk Tryz.prog B vals := by
  intro f args v hv
  unfold vals at hv
  split at hv
  · rename_i s
    cases hb : Nat.ble s.data.toList.length 1000000 with
    | false => rw [hb] at hv; simp at hv
    | true =>
      rw [hb] at hv
      simp only [cond_true, Option.some.injEq] at hv
      subst hv
      have hl := Nat.le_of_ble_eq_true hb
      refine ⟨rfl, rfl, .inr ⟨fun w => enter_ok Tryz.func159 (by kernel_rfl) (by kernel_rfl) _ w, fun w _ => Tryz.stringslite_Clone s w ?_⟩⟩
      rw [size_len]
      exact Nat.le_trans hl (by decide)
  · rename_i s p
    simp only [Option.some.injEq] at hv
    subst hv
    refine ⟨rfl, rfl, .inr ⟨fun w => enter_ok Tryz.func139 (by kernel_rfl) (by kernel_rfl) _ w, fun w _ => (Tryz.strings_HasPrefix s p w).mono ?_⟩⟩
    rintro e W ⟨rfl, rfl⟩
    exact ⟨by rw [prefB_eq]; rfl, Below.refl _ _⟩
  · rename_i s c
    simp only [Option.some.injEq] at hv
    subst hv
    exact ⟨rfl, rfl, .inl fun w => index_ok Tryz.func175 (by kernel_rfl) (by kernel_rfl) (by kernel_rfl) (by kernel_rfl) s c w⟩
  · rename_i s c
    simp only [Option.some.injEq] at hv
    subst hv
    exact ⟨rfl, rfl, .inl fun w => count_ok Tryz.func64 (by kernel_rfl) (by kernel_rfl) (by kernel_rfl) (by kernel_rfl) s c w⟩
  · simp at hv
end Go.Ev
