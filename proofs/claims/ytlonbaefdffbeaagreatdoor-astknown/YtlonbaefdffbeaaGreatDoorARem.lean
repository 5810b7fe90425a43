import Derived.Test.YtlonbaefdffbeaaGreatDoorAPrim2
namespace Go.Proofs.YtlonbaefdffbeaaGreatDoor
open Go.ChangeShapes Go.WideShapes Go.ChangeAt Go.RowKit
set_option linter.unusedSimpArgs false
set_option linter.unusedVariables false

theorem rem_fail (c : PC) (e pl pc : Int) (s : PSt) : remF c (failF e pl pc s) ≤ remF c s := by
 unfold failF remF
 split
 ·dsimp only
  split <;> simp_all
 ·exact Nat.le_refl _
theorem rem_refuse (c : PC) (s : PSt) : remF c (refuseF c s) ≤ remF c s := rem_fail _ _ _ _ _
theorem rem_bump (c : PC) (s : PSt) : remF c { s with i := s.i + 1 } ≤ remF c s := by
 unfold remF;dsimp only
 split <;> omega
theorem rem_take (c : PC) (s : PSt) (t : ByteArray) : remF c (takeF c s t).2 ≤ remF c s := by
 unfold takeF
 split
 ·exact rem_bump c s
 ·exact Nat.le_refl _
theorem rem_need (c : PC) (s : PSt) (t : ByteArray) : remF c (needF c s t) ≤ remF c s := by
 unfold needF
 split
 ·exact rem_take c s t
 ·exact rem_refuse c s
theorem rem_needK (c : PC) (s : PSt) (k : Int) : remF c (needKF c s k).2 ≤ remF c s := by
 unfold needKF
 split
 ·exact rem_bump c s
 ·exact rem_refuse c s
theorem rem_high (c : PC) (h al ac : Int) (s : PSt) : remF c (highF h al ac s) ≤ remF c s := by
 unfold highF
 split
 ·exact rem_fail _ _ _ _ _
 ·exact Nat.le_refl _
theorem rem_grow (c : PC) (s : PSt) (d : ND) (ps : List Tr) : remF c (growS s d ps) ≤ remF c s := by
 unfold growS;refine Nat.le_trans (rem_high _ _ _ _ _) ?_;unfold manyF
 split
 ·exact Nat.le_trans (rem_fail _ _ _ _ _) (Nat.le_refl _)
 ·exact Nat.le_refl _
theorem rem_brack (c : PC) (s : PSt) (t : Sh) : remF c (brackF c s t).2 ≤ remF c s := by
 unfold brackF
 split
 ·exact Nat.le_trans (rem_need _ _ _) (Nat.le_trans (rem_needK _ _ _) (rem_take _ _ _))
 ·exact Nat.le_refl _
theorem rem_stars (c : PC) : ∀ (f : Nat) (s : PSt) (n : Int), remF c (starsF c f s n).2 ≤ remF c s
 | 0, s, n => Nat.le_refl _
 | f + 1, s, n => by
  rw [starsF]
  split
  ·exact Nat.le_trans (rem_stars c f _ _) (rem_bump c s)
  ·exact Nat.le_refl _
theorem rem_typ (c : PC) (s : PSt) : remF c (typF c s).2 ≤ remF c s := by
 unfold typF
 split
 ·refine Nat.le_trans (rem_stars c _ _ _) ?_
  unfold baseF
  split
  ·exact Nat.le_trans (rem_needK _ _ _) (rem_bump c s)
  ·exact rem_bump c s
 ·exact rem_refuse c s
theorem rem_sizeof (c : PC) (s : PSt) (pl pc : Int) : remF c (sizeofF c s pl pc).2 ≤ remF c s := by
 unfold sizeofF;refine Nat.le_trans (rem_grow _ _ _ _) (Nat.le_trans (rem_need _ _ _) ?_);unfold sizeofS;exact Nat.le_trans (rem_brack _ _ _) (Nat.le_trans (rem_typ _ _) (rem_need _ _ _))
theorem rem_listLoop {one : PSt → Tr × PSt} {c : PC} {r : Nat} (hm : Goes one c r) : ∀ (f : Nat) (s : PSt) (acc : List Tr), remF c s ≤ r → remF c (listLoop one c f s acc).2 ≤ remF c s
 | 0, s, acc, h => Nat.le_refl _
 | f + 1, s, acc, h => by
  rw [listLoop]
  split
  ·rename_i hk
   have ht := (takeF_true (by decide) hk).2;have h2 := hm (takeF c s ⟨#[44]⟩).2 (by omega);have := rem_listLoop hm f (one (takeF c s ⟨#[44]⟩).2).2 (acc ++ [(one (takeF c s ⟨#[44]⟩).2).1]) (by omega)
   omega
  ·exact Nat.le_refl _
theorem rem_listF {one : PSt → Tr × PSt} {c : PC} {r : Nat} (hm : Goes one c r) (s : PSt) (hr : remF c s < r) : remF c (listF one c s).2 ≤ remF c s := by
 unfold listF
 split
 ·exact rem_take _ _ _
 ·refine Nat.le_trans (rem_need _ _ _) ?_
  unfold listOf;have h2 := hm s hr;have := rem_listLoop hm (remF c (one s).2 + 1) (one s).2 [(one s).1] (by omega)
  omega
theorem rem_name {ex : PSt → Tr × PSt} {c : PC} {r : Nat} (hm : Goes ex c r) (s : PSt) (x : Wd) (hr : remF c s ≤ r) : remF c (nameF ex c s x).2 ≤ remF c s := by
 unfold nameF
 split
 ·rename_i hk
  have ht := (takeF_true (by decide) hk).2;refine Nat.le_trans (rem_grow _ _ _ _) ?_;have := rem_listF hm (takeF c s ⟨#[40]⟩).2 (by omega)
  omega
 ·exact rem_grow _ _ _ _
theorem rem_prim {ex : PSt → Tr × PSt} {c : PC} {r : Nat} (hm : Goes ex c r) (s : PSt) (hr : remF c s ≤ r) : remF c (primF ex c s).2 ≤ remF c s := by
 have hb := rem_bump c s;unfold primF
 split
 ·exact Nat.le_trans (rem_grow _ _ _ _) hb
 ·split
  ·exact Nat.le_trans (rem_name hm _ _ (by omega)) hb
  ·split
   ·rename_i hk
    have ht := (takeF_true (by decide) hk).2;unfold parenF;refine Nat.le_trans (rem_high _ _ _ _ _) (Nat.le_trans (rem_need _ _ _) ?_);have := hm (takeF c s ⟨#[40]⟩).2 (by omega)
    omega
   ·split
    ·unfold inF
     exact Nat.le_trans (rem_grow _ _ _ _) (Nat.le_trans (rem_need _ _ _) (Nat.le_trans (rem_need _ _ _) (rem_take _ _ _)))
    ·split
     ·exact Nat.le_trans (rem_sizeof _ _ _ _) (rem_take _ _ _)
     ·exact rem_refuse c s
end Go.Proofs.YtlonbaefdffbeaaGreatDoor
