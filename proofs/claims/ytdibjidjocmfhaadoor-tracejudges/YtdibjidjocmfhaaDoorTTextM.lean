/- The mathematics of texts: two runs of ins and outs have the same text just if they are the same. -/
import Derived.Test.YtdibjidjocmfhaaDoorTTell
namespace Go.Proofs.YtdibjidjocmfhaaDoor
open Go.ChangeShapes Go.WideShapes Go.ChangeAt Go.RowKit Pl
set_option linter.unusedSimpArgs false
set_option linter.unusedVariables false

/-- A byte is a digit. -/
def Dig (b : UInt8) : Prop := 48 ≤ b.toNat ∧ b.toNat ≤ 57
theorem dig_of {d : Nat} (h : d < 10) : Dig (UInt8.ofNat (48 + d)) := by
  unfold Dig
  rw [UInt8.toNat_ofNat']
  omega
theorem decDigits_all (u : Nat) : ∀ b ∈ Lib.decDigits u, Dig b := by
  induction u using Nat.strongRecOn with
  | ind u ih =>
    rw [Lib.decDigits]
    split
    · rename_i h
      intro b hb
      simp only [List.mem_singleton] at hb
      subst hb
      exact dig_of h
    · rename_i h
      intro b hb
      rw [List.mem_append] at hb
      rcases hb with hb | hb
      · exact ih (u / 10) (by omega) b hb
      · simp only [List.mem_singleton] at hb
        subst hb
        exact dig_of (Nat.mod_lt _ (by decide))
theorem decDigits_ne (u : Nat) : Lib.decDigits u ≠ [] := by
  rw [Lib.decDigits]
  split <;> simp
/-- The number that digits spell. -/
def spell (l : List UInt8) : Nat := l.foldl (fun a b => a * 10 + (b.toNat - 48)) 0
theorem spell_snoc (l : List UInt8) (b : UInt8) : spell (l ++ [b]) = spell l * 10 + (b.toNat - 48) := by
  simp [spell, List.foldl_append]
theorem spell_dec (u : Nat) : spell (Lib.decDigits u) = u := by
  induction u using Nat.strongRecOn with
  | ind u ih =>
    rw [Lib.decDigits]
    split
    · rename_i h
      simp only [spell, List.foldl_cons, List.foldl_nil, UInt8.toNat_ofNat']
      omega
    · rename_i h
      rw [spell_snoc, ih (u / 10) (by omega), UInt8.toNat_ofNat']
      omega
theorem itoa_inj {m n : Int} (h : Lib.itoa m = Lib.itoa n) : m = n := by
  have one : ∀ u v : Nat, Lib.decDigits u = Lib.decDigits v → u = v := fun u v e => by rw [← spell_dec u, ← spell_dec v, e]
  have sign : ∀ u v : Nat, (45 : UInt8) :: Lib.decDigits u ≠ Lib.decDigits v := fun u v e => by
    have := decDigits_all v 45 (by rw [← e]; simp)
    unfold Dig at this
    simp at this
  unfold Lib.itoa at h
  split at h <;> split at h
  · have := one _ _ (List.cons.inj h).2
    omega
  · exact absurd h (sign _ _)
  · exact absurd h.symm (sign _ _)
  · have := one _ _ h
    omega
theorem itoa_no10 (n : Int) : (10 : UInt8) ∉ Lib.itoa n := by
  intro h
  have no : ∀ u : Nat, (10 : UInt8) ∉ Lib.decDigits u := fun u h => by
    have := decDigits_all u 10 h
    unfold Dig at this
    simp at this
  unfold Lib.itoa at h
  split at h
  · rw [List.mem_cons] at h
    rcases h with h | h
    · exact absurd h (by decide)
    · exact no _ h
  · exact no _ h
/-- Two lists parted at their first such byte. -/
theorem split_first {c : UInt8} : ∀ {l l' r r' : List UInt8}, c ∉ l → c ∉ l' → l ++ (c :: r) = l' ++ (c :: r') → l = l' ∧ r = r'
  | [], [], r, r', _, _, h => ⟨rfl, (List.cons.inj h).2⟩
  | [], b :: l', r, r', _, h2, h => by
    have := (List.cons.inj h).1
    exact absurd (by simp [this]) h2
  | b :: l, [], r, r', h1, _, h => by
    have := (List.cons.inj h).1
    exact absurd (by simp [this]) h1
  | b :: l, b' :: l', r, r', h1, h2, h => by
    obtain ⟨e1, e2⟩ := List.cons.inj h
    obtain ⟨e3, e4⟩ := split_first (c := c) (fun x => h1 (by simp [x])) (fun x => h2 (by simp [x])) e2
    exact ⟨by rw [e1, e3], e4⟩
/-- Events that are ins and outs. -/
def InOut (l : List Ev) : Prop := ∀ x ∈ l, x.1 = 1 ∨ x.1 = 2
theorem line_inj {e e' : Ev} {r r' : List UInt8} (h : e.1 = 1 ∨ e.1 = 2) (h' : e'.1 = 1 ∨ e'.1 = 2) (he : lineL e ++ r = lineL e' ++ r') : e = e' ∧ r = r' := by
  obtain ⟨k, v⟩ := e
  obtain ⟨k', v'⟩ := e'
  simp only [] at h h'
  have key : k = k' ∧ Lib.itoa v ++ (10 :: r) = Lib.itoa v' ++ (10 :: r') := by
    rcases h with rfl | rfl <;> rcases h' with rfl | rfl <;> simp [lineL, wordL] at he ⊢ <;> exact he
  obtain ⟨rfl, h2⟩ := key
  obtain ⟨e1, e2⟩ := split_first (itoa_no10 v) (itoa_no10 v') h2
  rw [itoa_inj e1]
  exact ⟨rfl, e2⟩
theorem end_ne {k x : Int} {e : Ev} {r r' : List UInt8} (hk : 1 ≤ k ∧ k ≤ 4) (he : e.1 = 1 ∨ e.1 = 2) : endL k x ++ r ≠ lineL e ++ r' := by
  obtain ⟨ek, v⟩ := e
  simp only [] at he
  have : k = 1 ∨ k = 2 ∨ k = 3 ∨ k = 4 := by omega
  rcases this with rfl | rfl | rfl | rfl <;> rcases he with rfl | rfl <;> simp [endL, lineL, wordL]
theorem text_split {k x k' x' : Int} (hk : 1 ≤ k ∧ k ≤ 4) (hk' : 1 ≤ k' ∧ k' ≤ 4) : ∀ {l l' : List Ev}, InOut l → InOut l' → textL l ++ (endL k x ++ [10]) = textL l' ++ (endL k' x' ++ [10]) → l = l' ∧ endL k x ++ [10] = endL k' x' ++ [10]
  | [], [], _, _, h => ⟨rfl, by simpa [textL] using h⟩
  | [], e :: l', _, h2, h => by
    simp only [textL, List.flatMap_nil, List.flatMap_cons, List.nil_append, List.append_assoc] at h
    exact absurd h (end_ne hk (h2 e (by simp)))
  | e :: l, [], h1, _, h => by
    simp only [textL, List.flatMap_nil, List.flatMap_cons, List.nil_append, List.append_assoc] at h
    exact absurd h.symm (end_ne hk' (h1 e (by simp)))
  | e :: l, e' :: l', h1, h2, h => by
    have h3 : lineL e ++ (textL l ++ (endL k x ++ [10])) = lineL e' ++ (textL l' ++ (endL k' x' ++ [10])) := by simpa [textL] using h
    obtain ⟨e1, e2⟩ := line_inj (h1 e (by simp)) (h2 e' (by simp)) h3
    obtain ⟨e3, e4⟩ := text_split hk hk' (fun y hy => h1 y (by simp [hy])) (fun y hy => h2 y (by simp [hy])) e2
    exact ⟨by rw [e1, e3], e4⟩
theorem end_inj {k x k' x' : Int} (hk : 1 ≤ k ∧ k ≤ 4) (hk' : 1 ≤ k' ∧ k' ≤ 4) (h : endL k x ++ [10] = endL k' x' ++ [10]) : k = k' ∧ (k = 1 → x = x') := by
  have c : k = 1 ∨ k = 2 ∨ k = 3 ∨ k = 4 := by omega
  have c' : k' = 1 ∨ k' = 2 ∨ k' = 3 ∨ k' = 4 := by omega
  have h2 := List.append_cancel_right h
  rcases c with rfl | rfl | rfl | rfl <;> rcases c' with rfl | rfl | rfl | rfl <;> simp [endL] at h2 ⊢
  exact itoa_inj h2
theorem text_iff {a b : RD} (hk : 1 ≤ a.k ∧ a.k ≤ 4) (hk' : 1 ≤ b.k ∧ b.k ≤ 4) (h1 : InOut a.es) (h2 : InOut b.es) : textR a = textR b ↔ a.es = b.es ∧ a.k = b.k ∧ (a.k = 1 → a.x = b.x) := by
  constructor
  · intro h
    obtain ⟨e1, e2⟩ := text_split hk hk' h1 h2 h
    exact ⟨e1, end_inj hk hk' e2⟩
  · rintro ⟨e1, e2, e3⟩
    unfold textR
    rw [e1, ← e2]
    by_cases h : a.k = 1
    · rw [e3 h]
    · have : ∀ x y : Int, endL a.k x = endL a.k y := fun x y => by unfold endL; rw [if_neg h, if_neg h]
      rw [this a.x b.x]
/-- The texts are equal as bytes just if the runs are the same. -/
def sameT (a b : RD) : Bool := evEq a.es b.es && (decide (a.k = b.k) && (!(decide (a.k = 1)) || decide (a.x = b.x)))
theorem text_same {a b : RD} (hk : 1 ≤ a.k ∧ a.k ≤ 4) (hk' : 1 ≤ b.k ∧ b.k ≤ 4) (h1 : InOut a.es) (h2 : InOut b.es) : decide (textR a = textR b) = sameT a b := by
  rw [Bool.eq_iff_iff]
  simp only [decide_eq_true_eq, sameT, evEq, Bool.and_eq_true, Bool.or_eq_true, Bool.not_eq_true', decide_eq_false_iff_not]
  rw [text_iff hk hk' h1 h2]
  constructor
  · rintro ⟨e1, e2, e3⟩
    refine ⟨e1, e2, ?_⟩
    by_cases h : a.k = 1
    · exact Or.inr (e3 h)
    · exact Or.inl h
  · rintro ⟨e1, e2, e3⟩
    refine ⟨e1, e2, fun h => ?_⟩
    rcases e3 with e3 | e3
    · exact absurd h e3
    · exact e3
end Go.Proofs.YtdibjidjocmfhaaDoor
