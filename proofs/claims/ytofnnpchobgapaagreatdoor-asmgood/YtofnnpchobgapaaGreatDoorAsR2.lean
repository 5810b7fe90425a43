/- The document's own machine code: which instructions are right. -/
import Derived.Test.YtofnnpchobgapaaGreatDoorAsRa
import Derived.Test.YtofnnpchobgapaaGreatDoorAsRb
import Derived.Test.YtofnnpchobgapaaGreatDoorAsRc
import Derived.Test.YtofnnpchobgapaaGreatDoorAsRd
namespace Go.Proofs.YtofnnpchobgapaaGreatDoor
open Go.ChangeShapes Go.WideShapes Go.ChangeAt Go.RowKit
set_option linter.unusedSimpArgs false
set_option linter.unusedVariables false

theorem rightA_eq (x : AIns) : rightA x = (!aheadB x.op (anrB x.op) x.r (anmB x.op) x.m (awrB x.op) && (!(anmB x.op && (x.m == 4 && (x.op != 3 && (x.op != 4 && (x.op != 5 && x.op != 1))))) && arestB x)) := by
  simp only [rightA, aheadB, aregB, Bool.not_not]
set_option maxRecDepth 100000 in
theorem aright_any (x : AIns) (w : World) : Calls Tryz.prog 18 #[ainsV x] w (retP (.bool (rightA x)) w) := by
  obtain ⟨op, r, m, sub, cc, l, k⟩ := x
  rw [rightA_eq]
  have HN := fun W => anames_any op r m sub cc l k W
  have HW := fun W => awrites_any op r m sub cc l k W
  cases hh : aheadB op (anrB op) r (anmB op) m (awrB op) with
  | true => exact aright_bad op r m sub cc l k (anrB op) (anmB op) (awrB op) w HN HW hh
  | false =>
    rcases aop_cases op with rfl | rfl | rfl | rfl | rfl | rfl | rfl | rfl | rfl | rfl | rfl | rfl | rfl | rfl | rfl | rfl | rfl | rfl | rfl | rfl | rfl | rfl | rfl | rfl | rfl | rfl | ho
    · replace hh : aheadB 1 true r true m true = false := hh
      exact aright1 r m sub cc l k w _ HN HW (by simp [aheadB] at hh ⊢; omega) (by simp [aheadB] at hh ⊢; omega) (by simp [aheadB] at hh ⊢; omega) (by simp [aheadB] at hh ⊢; omega) (by simp [aheadB] at hh ⊢; omega) (by first | rfl | (simp [anmB]; done) | (cases (m == 4) <;> rfl))
    · replace hh : aheadB 2 true r false m true = false := hh
      exact aright2 r m sub cc l k w _ HN HW (by simp [aheadB] at hh ⊢; omega) (by simp [aheadB] at hh ⊢; omega) (by simp [aheadB] at hh ⊢; omega) (by first | rfl | (simp [anmB]; done) | (cases (m == 4) <;> rfl))
    · replace hh : aheadB 3 true r true m true = false := hh
      exact aright3 r m sub cc l k w _ HN HW (by simp [aheadB] at hh ⊢; omega) (by simp [aheadB] at hh ⊢; omega) (by simp [aheadB] at hh ⊢; omega) (by simp [aheadB] at hh ⊢; omega) (by simp [aheadB] at hh ⊢; omega) (by first | rfl | (simp [anmB]; done) | (cases (m == 4) <;> rfl))
    · replace hh : aheadB 4 true r true m false = false := hh
      exact aright4 r m sub cc l k w _ HN HW (by simp [aheadB] at hh ⊢; omega) (by simp [aheadB] at hh ⊢; omega) (by simp [aheadB] at hh ⊢; omega) (by simp [aheadB] at hh ⊢; omega) (by first | rfl | (simp [anmB]; done) | (cases (m == 4) <;> rfl))
    · replace hh : aheadB 5 true r true m true = false := hh
      exact aright5 r m sub cc l k w _ HN HW (by simp [aheadB] at hh ⊢; omega) (by simp [aheadB] at hh ⊢; omega) (by simp [aheadB] at hh ⊢; omega) (by simp [aheadB] at hh ⊢; omega) (by simp [aheadB] at hh ⊢; omega) (by first | rfl | (simp [anmB]; done) | (cases (m == 4) <;> rfl))
    · replace hh : aheadB 6 true r false m true = false := hh
      exact aright6 r m sub cc l k w _ HN HW (by simp [aheadB] at hh ⊢; omega) (by simp [aheadB] at hh ⊢; omega) (by simp [aheadB] at hh ⊢; omega) (by first | rfl | (simp [anmB]; done) | (cases (m == 4) <;> rfl))
    · replace hh : aheadB 7 true r true m true = false := hh
      exact aright7 r m sub cc l k w _ HN HW (by simp [aheadB] at hh ⊢; omega) (by simp [aheadB] at hh ⊢; omega) (by simp [aheadB] at hh ⊢; omega) (by simp [aheadB] at hh ⊢; omega) (by simp [aheadB] at hh ⊢; omega) (by first | rfl | (simp [anmB]; done) | (cases (m == 4) <;> rfl))
    · replace hh : aheadB 8 true r false m true = false := hh
      exact aright8 r m sub cc l k w _ HN HW (by simp [aheadB] at hh ⊢; omega) (by simp [aheadB] at hh ⊢; omega) (by simp [aheadB] at hh ⊢; omega) (by first | rfl | (simp [anmB]; done) | (cases (m == 4) <;> rfl))
    · replace hh : aheadB 9 true r false m true = false := hh
      exact aright9 r m sub cc l k w _ HN HW (by simp [aheadB] at hh ⊢; omega) (by simp [aheadB] at hh ⊢; omega) (by simp [aheadB] at hh ⊢; omega) (by first | rfl | (simp [anmB]; done) | (cases (m == 4) <;> rfl))
    · replace hh : aheadB 10 true r true m true = false := hh
      exact aright10 r m sub cc l k w _ HN HW (by simp [aheadB] at hh ⊢; omega) (by simp [aheadB] at hh ⊢; omega) (by simp [aheadB] at hh ⊢; omega) (by simp [aheadB] at hh ⊢; omega) (by simp [aheadB] at hh ⊢; omega) (by first | rfl | (simp [anmB]; done) | (cases (m == 4) <;> rfl))
    · replace hh : aheadB 11 true r false m true = false := hh
      exact aright11 r m sub cc l k w _ HN HW (by simp [aheadB] at hh ⊢; omega) (by simp [aheadB] at hh ⊢; omega) (by simp [aheadB] at hh ⊢; omega) (by first | rfl | (simp [anmB]; done) | (cases (m == 4) <;> rfl))
    · replace hh : aheadB 12 true r false m true = false := hh
      exact aright12 r m sub cc l k w _ HN HW (by simp [aheadB] at hh ⊢; omega) (by simp [aheadB] at hh ⊢; omega) (by simp [aheadB] at hh ⊢; omega) (by first | rfl | (simp [anmB]; done) | (cases (m == 4) <;> rfl))
    · replace hh : aheadB 13 false r false m false = false := hh
      exact aright13 r m sub cc l k w _ HN HW  (by first | rfl | (simp [anmB]; done) | (cases (m == 4) <;> rfl))
    · replace hh : aheadB 14 false r true m false = false := hh
      exact aright14 r m sub cc l k w _ HN HW (by simp [aheadB] at hh ⊢; omega) (by simp [aheadB] at hh ⊢; omega) (by first | rfl | (simp [anmB]; done) | (cases (m == 4) <;> rfl))
    · replace hh : aheadB 15 true r true m false = false := hh
      exact aright15 r m sub cc l k w _ HN HW (by simp [aheadB] at hh ⊢; omega) (by simp [aheadB] at hh ⊢; omega) (by simp [aheadB] at hh ⊢; omega) (by simp [aheadB] at hh ⊢; omega) (by first | rfl | (simp [anmB]; done) | (cases (m == 4) <;> rfl))
    · replace hh : aheadB 16 true r false m false = false := hh
      exact aright16 r m sub cc l k w _ HN HW (by simp [aheadB] at hh ⊢; omega) (by simp [aheadB] at hh ⊢; omega) (by first | rfl | (simp [anmB]; done) | (cases (m == 4) <;> rfl))
    · replace hh : aheadB 17 true r false m true = false := hh
      exact aright17 r m sub cc l k w _ HN HW (by simp [aheadB] at hh ⊢; omega) (by simp [aheadB] at hh ⊢; omega) (by simp [aheadB] at hh ⊢; omega) (by first | rfl | (simp [anmB]; done) | (cases (m == 4) <;> rfl))
    · replace hh : aheadB 18 false r false m false = false := hh
      exact aright18 r m sub cc l k w _ HN HW  (by first | rfl | (simp [anmB]; done) | (cases (m == 4) <;> rfl))
    · replace hh : aheadB 19 false r false m false = false := hh
      exact aright19 r m sub cc l k w _ HN HW  (by first | rfl | (simp [anmB]; done) | (cases (m == 4) <;> rfl))
    · replace hh : aheadB 20 false r false m false = false := hh
      exact aright20 r m sub cc l k w _ HN HW  (by first | rfl | (simp [anmB]; done) | (cases (m == 4) <;> rfl))
    · replace hh : aheadB 21 false r false m false = false := hh
      exact aright21 r m sub cc l k w _ HN HW  (by first | rfl | (simp [anmB]; done) | (cases (m == 4) <;> rfl))
    · replace hh : aheadB 22 false r false m false = false := hh
      exact aright22 r m sub cc l k w _ HN HW  (by first | rfl | (simp [anmB]; done) | (cases (m == 4) <;> rfl))
    · replace hh : aheadB 23 false r false m false = false := hh
      exact aright23 r m sub cc l k w _ HN HW  (by first | rfl | (simp [anmB]; done) | (cases (m == 4) <;> rfl))
    · replace hh : aheadB 24 false r false m false = false := hh
      exact aright24 r m sub cc l k w _ HN HW  (by first | rfl | (simp [anmB]; done) | (cases (m == 4) <;> rfl))
    · replace hh : aheadB 25 false r false m false = false := hh
      exact aright25 r m sub cc l k w _ HN HW  (by first | rfl | (simp [anmB]; done) | (cases (m == 4) <;> rfl))
    · replace hh : aheadB 26 false r false m false = false := hh
      exact aright26 r m sub cc l k w _ HN HW  (by first | rfl | (simp [anmB]; done) | (cases (m == 4) <;> rfl))
    · exfalso
      simp [aheadB] at hh
      omega
end Go.Proofs.YtofnnpchobgapaaGreatDoor
