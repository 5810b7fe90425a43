/- The plain mathematics of MemFreed: blocks that are made and zeroed, one of them freed. -/
import Derived.Test.YtjiniihdpkaknaaMAwake
import Derived.Test.YtjiniihdpkaknaaMMath
namespace Go.Proofs.Ytjiniihdpkaknaa
open Go.ChangeShapes Go.WideShapes Go.ChangeAt Go.RowKit Pl
set_option linter.unusedSimpArgs false
set_option linter.unusedVariables false

theorem and_pow (n : Int) (k : Nat) (hk : k < 63) : bits .and .i64 n (2 ^ k - 1) = n % 2 ^ k := by
  have h : (BitVec.ofInt 64 (2 ^ k - 1)).toNat = 2 ^ k - 1 := by
    rw [BitVec.toNat_ofInt]
    have h2 : (2 : Int) ^ k < 2 ^ 63 := Int.pow_lt_pow_of_lt (by omega) hk
    have h1 : (0 : Int) < 2 ^ k := Int.pow_pos (by omega)
    have h3 : (((2 : Nat) ^ k : Nat) : Int) = 2 ^ k := by rw [Int.natCast_pow]; rfl
    omega
  have key : (BitVec.ofInt 64 n &&& BitVec.ofInt 64 (2 ^ k - 1)).toNat = (BitVec.ofInt 64 n).toNat % 2 ^ k := by
    rw [BitVec.toNat_and, h, Nat.and_two_pow_sub_one_eq_mod]
  have e := toNat_ofInt64 n
  show IntKind.i64.wrap ((BitVec.ofInt 64 n &&& BitVec.ofInt 64 (2 ^ k - 1)).toNat : Nat) = n % 2 ^ k
  have hd : (2 : Int) ^ k ∣ 18446744073709551616 := ⟨2 ^ (64 - k), by rw [← Int.pow_add, show k + (64 - k) = 64 by omega]; rfl⟩
  have h2 : (2 : Int) ^ k < 2 ^ 63 := Int.pow_lt_pow_of_lt (by omega) hk
  have h1 : (0 : Int) < 2 ^ k := Int.pow_pos (by omega)
  rw [key, i64w, Int.natCast_emod, Int.natCast_pow, e]
  rw [show (((2 : Nat) : Int) ^ k) = (2 : Int) ^ k from rfl, Int.emod_emod_of_dvd n hd]
  have h3 := Int.emod_nonneg n (show (2 : Int) ^ k ≠ 0 by omega)
  have h4 := Int.emod_lt_of_pos n h1
  unfold wrap64
  omega
theorem and_63 (n : Int) : bits .and .i64 n 63 = n % 64 := and_pow n 6 (by omega)
theorem and_1023 (n : Int) : bits .and .i64 n 1023 = n % 1024 := and_pow n 10 (by omega)
def MF (s : Nat → Nat) (i : Nat) : List AB := (List.range i).map fun j => zeroB (newB (s j))
theorem mf_len (s : Nat → Nat) (i : Nat) : (MF s i).length = i := by simp [MF]
theorem mf_get (s : Nat → Nat) (i j : Nat) (h : j < i) : (MF s i)[j]? = some (zeroB (newB (s j))) := by
  simp [MF, h]
theorem mf_alloc (s : Nat → Nat) (i : Nat) (hi : i < 20) (hs : s i ≤ 63) : allocM (MF s i) (s i) = (MF s i ++ [newB (s i)], (i : Int) + 1, 0) := by
  unfold allocM
  rw [if_neg (by omega), if_neg (by rw [mf_len]; omega), mf_len]
theorem mf_zero (s : Nat → Nat) (i : Nat) : zeroM (MF s i ++ [newB (s i)]) ((i : Int) + 1) = (MF s (i + 1), true) := by
  have hg : (MF s i ++ [newB (s i)])[i]? = some (newB (s i)) := by
    rw [List.getElem?_append_right (by rw [mf_len]; omega), mf_len]
    simp
  have hf : findK (MF s i ++ [newB (s i)]) ((i : Int) + 1) = some i := by
    unfold findK
    rw [if_neg (by omega), show ((i : Int) + 1 - 1).toNat = i by omega, hg]
    simp [newB]
  simp only [zeroM, hf, hg]
  congr 1
  have e : MF s (i + 1) = MF s i ++ [zeroB (newB (s i))] := by simp [MF, List.range_succ]
  rw [e, List.set_append_right _ _ (by rw [mf_len]; omega), mf_len]
  simp
def MG (s : Nat → Nat) (n k : Nat) : List AB := (MF s n).set k (freeB (zeroB (newB (s k))))
theorem mg_len (s : Nat → Nat) (n k : Nat) : (MG s n k).length = n := by simp [MG, mf_len]
theorem mg_find (s : Nat → Nat) (n k j : Nat) (hj : j < n) : findK (MG s n k) (1 + (j : Int)) = if j = k then none else some j := by
  unfold findK
  rw [if_neg (by omega), show (1 + (j : Int) - 1).toNat = j by omega]
  unfold MG
  rw [List.getElem?_set]
  by_cases e : k = j
  · subst e
    rw [if_pos rfl, if_pos (by rw [mf_len]; exact hj)]
    simp [freeB]
  · rw [if_neg e, mf_get s n j hj, if_neg (fun h => e h.symm)]
    simp [zeroB, newB]
theorem mg_get (s : Nat → Nat) (n k j : Nat) (hj : j < n) (hne : j ≠ k) : (MG s n k)[j]? = some (zeroB (newB (s j))) := by
  unfold MG
  rw [List.getElem?_set, if_neg (fun h => hne h.symm), mf_get s n j hj]
theorem mg_free (s : Nat → Nat) (n k : Nat) (hk : k < n) : freeM (MF s n) (1 + (k : Int)) = (MG s n k, true) := by
  have hg := mf_get s n k hk
  have hf : findK (MF s n) (1 + (k : Int)) = some k := by
    unfold findK
    rw [if_neg (by omega), show (1 + (k : Int) - 1).toNat = k by omega, hg]
    simp [zeroB, newB]
  simp only [freeM, hf, hg]
  rfl
theorem mf_live (s : Nat → Nat) (n : Nat) : live (MF s n) = n := by
  unfold live MF
  rw [List.filter_eq_self.2]
  · simp
  · intro a ha
    simp at ha
    obtain ⟨j, _, rfl⟩ := ha
    simp [zeroB, newB]
theorem mg_live (s : Nat → Nat) (n k : Nat) (hk : k < n) : live (MG s n k) = (n : Int) - 1 := by
  have := live_set (ab' := freeB (zeroB (newB (s k)))) (mf_get s n k hk)
  rw [mf_live, show (freeB (zeroB (newB (s k)))).freed = true from rfl, show (zeroB (newB (s k))).freed = false from rfl] at this
  simp only [if_true, Bool.false_eq_true, if_false] at this
  unfold MG
  omega
theorem mg_none (s : Nat → Nat) (n k : Nat) (hk : k < n) (c a : Int) : rightK (MG s n k) c ⟨2, a, 1 + (k : Int)⟩ = none := by
  have hf := mg_find s n k k hk
  rw [if_pos rfl] at hf
  unfold rightK
  split
  · simp only [hf]
  · rfl
theorem mg_size (s : Nat → Nat) (n k j : Nat) (hj : j < n) : sizeM (MG s n k) (1 + (j : Int)) = if j = k then (0, false) else ((s j : Int), true) := by
  unfold sizeM
  rw [mg_find s n k j hj]
  by_cases e : j = k
  · simp [e]
  · simp only [if_neg e, mg_get s n k j hj e]
    simp [zeroB, newB]
theorem zero_low (m : Int) (h0 : 0 < m) : bits .and .u8 (zeroW m).kn (laneF 1 0).m = (laneF 1 0).m := by
  rw [show laneF 1 0 = laneF ((1 : Nat) : Int) ((0 : Nat) : Int) from rfl, in_mask (.inl ⟨rfl, by omega⟩)]
  intro t h1 h2
  have ht : t = 0 := by omega
  subst ht
  have hz : (zeroW m).kn = (zeroW (if 8 < m then 8 else m)).kn := by
    unfold zeroW
    by_cases h8 : 8 < m
    · simp [h8]
    · simp [h8, h0]
  rw [hz]
  have z1 : (B8 (zeroW ((1 : Nat) : Int)).kn).getLsbD 0 = true := by kernel_rfl
  have z2 : (B8 (zeroW ((2 : Nat) : Int)).kn).getLsbD 0 = true := by kernel_rfl
  have z3 : (B8 (zeroW ((3 : Nat) : Int)).kn).getLsbD 0 = true := by kernel_rfl
  have z4 : (B8 (zeroW ((4 : Nat) : Int)).kn).getLsbD 0 = true := by kernel_rfl
  have z5 : (B8 (zeroW ((5 : Nat) : Int)).kn).getLsbD 0 = true := by kernel_rfl
  have z6 : (B8 (zeroW ((6 : Nat) : Int)).kn).getLsbD 0 = true := by kernel_rfl
  have z7 : (B8 (zeroW ((7 : Nat) : Int)).kn).getLsbD 0 = true := by kernel_rfl
  have z8 : (B8 (zeroW ((8 : Nat) : Int)).kn).getLsbD 0 = true := by kernel_rfl
  have : ∀ j : Nat, 0 < j → j ≤ 8 → (B8 (zeroW (j : Int)).kn).getLsbD 0 = true := fun j h1 h2 => by
    match j, h1, h2 with
    | 1, _, _ => exact z1
    | 2, _, _ => exact z2
    | 3, _, _ => exact z3
    | 4, _, _ => exact z4
    | 5, _, _ => exact z5
    | 6, _, _ => exact z6
    | 7, _, _ => exact z7
    | 8, _, _ => exact z8
  by_cases h8 : 8 < m
  · rw [if_pos h8]; exact this 8 (by omega) (by omega)
  · rw [if_neg h8]
    obtain ⟨j, rfl⟩ : ∃ j : Nat, m = j := ⟨m.toNat, by omega⟩
    exact this j (by omega) (by omega)
theorem mg_load (s : Nat → Nat) (n k j : Nat) (hj : j < n) : loadM (MG s n k) 1 ⟨2, 0, 1 + (j : Int)⟩ = if j = k ∨ s j = 0 then (⟨0, 0, 0⟩, false) else (⟨1, 0, 0⟩, true) := by
  have hgd : goodF ⟨2, 0, 1 + (j : Int)⟩ = true := by simp [goodF]; omega
  by_cases e : j = k
  · subst e
    unfold loadM
    rw [mg_none s n j hj]
    simp [noV]
  · have hf := mg_find s n k j hj
    rw [if_neg e] at hf
    have hg := mg_get s n k j hj e
    have hr : rightK (MG s n k) 1 ⟨2, 0, 1 + (j : Int)⟩ = if s j = 0 then none else some j := by
      simp only [rightK, hgd, hf, hg]
      simp only [zeroB, newB]
      by_cases h0 : s j = 0
      · simp [h0]
      · simp [h0]; omega
    by_cases h0 : s j = 0
    · simp only [loadM, hr, if_pos h0]
      simp [h0, noV]
    · simp only [loadM, hr, if_neg h0, hg]
      rw [if_neg (by omega)]
      simp only [zeroB, newB, blankF]
      congr 1
      have hlow := zero_low ((s j : Nat) : Int) (by omega)
      unfold loadF
      simp only [if_true]
      rw [show ((((s j : Nat) : Int).toNat : Nat) : Int) - (((0 : Int) / 8).toNat : Int) * 8 = ((s j : Nat) : Int) by simp, show ((0 : Int) % 8) = 0 from rfl, if_pos hlow]
      simp [zeroW, laneF, numF, ofF, i8w, wrap64]
end Go.Proofs.Ytjiniihdpkaknaa
