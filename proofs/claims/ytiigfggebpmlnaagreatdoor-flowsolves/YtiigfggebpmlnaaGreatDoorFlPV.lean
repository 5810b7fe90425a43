/- The least numbers over edges, as mathematics. -/
import Derived.Test.YtiigfggebpmlnaaGreatDoorFlBridge
namespace Go.Proofs.YtiigfggebpmlnaaGreatDoor
set_option linter.unusedSimpArgs false
set_option linter.unusedVariables false

/-- The least numbers that are at least what is asked, and along each edge no lesser. -/
structure Least (n : Nat) (es : List (Nat × Nat)) (f x : Nat → Int) : Prop where
  ge : ∀ i, i < n → f i ≤ x i
  cl : ∀ e ∈ es, x e.1 ≤ x e.2
  le : ∀ z : Nat → Int, (∀ i, i < n → f i ≤ z i) → (∀ e ∈ es, z e.1 ≤ z e.2) → ∀ i, i < n → x i ≤ z i
/-- The numbers to which edges lead from one. -/
def gOf (es : List (Nat × Nat)) (k : Nat) : List Nat := (es.filter fun e => e.1 == k).map (·.2)
theorem mem_gOf {es : List (Nat × Nat)} {k t : Nat} : t ∈ gOf es k ↔ (k, t) ∈ es := by
  unfold gOf
  rw [List.mem_map]
  constructor
  · rintro ⟨⟨a, b⟩, h1, rfl⟩
    rw [List.mem_filter] at h1
    have : a = k := by simpa using h1.2
    subst this
    exact h1.1
  · intro h
    exact ⟨(k, t), List.mem_filter.2 ⟨h, by simp⟩, rfl⟩
theorem gOf_snoc (es : List (Nat × Nat)) (a b k : Nat) : gOf (es ++ [(a, b)]) k = gOf es k ++ (if a = k then [b] else []) := by
  unfold gOf
  rw [List.filter_append, List.map_append]
  congr 1
  by_cases h : a = k
  · subst h; simp
  · rw [if_neg h, List.filter_cons_of_neg (by simpa using h)]; rfl
theorem gOf_length (es : List (Nat × Nat)) (k : Nat) : (gOf es k).length ≤ es.length := by
  unfold gOf
  rw [List.length_map]
  exact List.length_filter_le _ _
/-- What holds while the greatest are taken first: m are met and have their number. -/
structure PV (n : Nat) (es : List (Nat × Nat)) (f : Nat → Int) (m : Nat → Bool) (x : Nat → Int) (rest : List Nat) : Prop where
  cl : ∀ e ∈ es, m e.1 = true → m e.2 = true ∧ x e.1 ≤ x e.2
  ge : ∀ i, i < n → m i = true → f i ≤ x i
  le : ∀ z : Nat → Int, (∀ i, i < n → f i ≤ z i) → (∀ e ∈ es, z e.1 ≤ z e.2) → ∀ i, i < n → m i = true → x i ≤ z i
  hi : ∀ i, i < n → m i = true → ∀ r ∈ rest, f r ≤ x i
  dn : ∀ i, i < n → m i = true ∨ i ∈ rest
theorem PV.start (n : Nat) (es : List (Nat × Nat)) (f x : Nat → Int) (rest : List Nat) (h : ∀ i, i < n → i ∈ rest) : PV n es f (fun _ => false) x rest :=
  ⟨fun e _ h => by simp at h, fun i _ h => by simp at h, fun z _ _ i _ h => by simp at h, fun i _ h => by simp at h, fun i hi => .inr (h i hi)⟩
def setX (x : Nat → Int) (v : Int) (o : List Nat) : Nat → Int := fun i => if i ∈ o then v else x i
theorem setX_snoc (x : Nat → Int) (v : Int) (o : List Nat) (y i : Nat) : setX x v (o ++ [y]) i = if i = y then v else setX x v o i := by
  unfold setX
  by_cases h : i = y
  · subst h; simp
  · by_cases h2 : i ∈ o <;> simp [h, h2]
theorem PV.step {n : Nat} {es : List (Nat × Nat)} {f : Nat → Int} {m m' : Nat → Bool} {x : Nat → Int} {r : Nat} {rest o : List Nat} (h : PV n es f m x (r :: rest)) (hs : ∀ s ∈ rest, f s ≤ f r) (hr : r < n) (hes : ∀ e ∈ es, e.1 < n ∧ e.2 < n)
    (s : SR n (gOf es) m [r] m' o) : PV n es f m' (setX x (f r) o) rest := by
  have hout : ∀ i, i ∈ o → m i = false := fun i hi => (s.si.un i (.inl hi)).1
  have hmem : ∀ i, m' i = true ↔ m i = true ∨ i ∈ o := fun i => by rw [s.si.mem i]; simp
  have hno : ∀ i, m i = true → i ∉ o := fun i hm hi => by rw [hout i hi] at hm; cases hm
  have hx : ∀ i, m i = true → setX x (f r) o i = x i := fun i hm => by unfold setX; rw [if_neg (hno i hm)]
  have hxo : ∀ i, i ∈ o → setX x (f r) o i = f r := fun i hi => by unfold setX; rw [if_pos hi]
  have hfr : ∀ i, i < n → i ∈ o → f i ≤ f r := fun i hin hi => by
    rcases h.dn i hin with z | z
    · rw [hout i hi] at z; cases z
    · rcases List.mem_cons.1 z with rfl | z
      · exact Int.le_refl _
      · exact hs i z
  refine ⟨fun e he hm => ?_, fun i hin hm => ?_, fun z h1 h2 i hin hm => ?_, fun i hin hm q hq => ?_, fun i hin => ?_⟩
  · rcases (hmem e.1).1 hm with hm | hm
    · obtain ⟨q1, q2⟩ := h.cl e he hm
      exact ⟨(hmem e.2).2 (.inl q1), by rw [hx _ hm, hx _ q1]; exact q2⟩
    · have ht : m' e.2 = true := s.cl e.1 hm e.2 (mem_gOf.2 he)
      refine ⟨ht, ?_⟩
      rw [hxo _ hm]
      rcases (hmem e.2).1 ht with q | q
      · rw [hx _ q]; exact h.hi e.2 (hes e he).2 q r (by simp)
      · rw [hxo _ q]; exact Int.le_refl _
  · rcases (hmem i).1 hm with hm | hm
    · rw [hx _ hm]; exact h.ge i hin hm
    · rw [hxo _ hm]; exact hfr i hin hm
  · rcases (hmem i).1 hm with hm | hm
    · rw [hx _ hm]; exact h.le z h1 h2 i hin hm
    · rw [hxo _ hm]
      refine s.si.re (fun i => f r ≤ z i) (fun q hq => ?_) (fun i hi _ t ht => ?_) i (.inl hm)
      · have : q = r := by simpa using hq
        subst this
        exact h1 q hr
      · exact Int.le_trans hi (h2 (i, t) (mem_gOf.1 ht))
  · rcases (hmem i).1 hm with hm | hm
    · rw [hx _ hm]; exact h.hi i hin hm q (by simp [hq])
    · rw [hxo _ hm]; exact hs q hq
  · rcases h.dn i hin with z | z
    · exact .inl ((hmem i).2 (.inl z))
    · rcases List.mem_cons.1 z with rfl | z
      · exact .inl (s.st i (by simp))
      · exact .inr z
theorem PV.least {n : Nat} {es : List (Nat × Nat)} {f : Nat → Int} {m : Nat → Bool} {x : Nat → Int} (h : PV n es f m x []) (hes : ∀ e ∈ es, e.1 < n ∧ e.2 < n) : Least n es f x := by
  have hall : ∀ i, i < n → m i = true := fun i hi => by
    rcases h.dn i hi with z | z
    · exact z
    · cases z
  exact ⟨fun i hi => h.ge i hi (hall i hi), fun e he => (h.cl e he (hall e.1 (hes e he).1)).2, fun z h1 h2 i hi => h.le z h1 h2 i hi (hall i hi)⟩
/-- Only one is the least. -/
theorem Least.unique {n : Nat} {es : List (Nat × Nat)} {f x y : Nat → Int} (h : Least n es f x) (k : Least n es f y) : ∀ i, i < n → x i = y i := fun i hi =>
  Int.le_antisymm (h.le y k.ge k.cl i hi) (k.le x h.ge h.cl i hi)
/-- With more edges, with greater starts, none is lesser. -/
theorem Least.mono {n : Nat} {es es' : List (Nat × Nat)} {f f' x y : Nat → Int} (h : Least n es f x) (k : Least n es' f' y) (h1 : ∀ e ∈ es, e ∈ es') (h2 : ∀ i, i < n → f i ≤ f' i) : ∀ i, i < n → x i ≤ y i :=
  h.le y (fun i hi => Int.le_trans (h2 i hi) (k.ge i hi)) (fun e he => k.cl e (h1 e he))
/-- With one start greater a number stays, or is that start. -/
theorem Least.one {n k : Nat} {es : List (Nat × Nat)} {f f' x z : Nat → Int} (h : Least n es f x) (q : Least n es f' z) (hf : ∀ i, i < n → i ≠ k → f' i = f i) (hk : ∀ i, i < n → f i ≤ f' i) (hes : ∀ e ∈ es, e.1 < n ∧ e.2 < n) : ∀ i, i < n → z i ≤ x i ∨ z i = f' k := by
  have hxz := h.mono q (fun _ h => h) hk
  have h1 : ∀ i, i < n → z i ≤ max (x i) (f' k) := q.le (fun i => max (x i) (f' k)) (fun i hi => by
    by_cases e : i = k
    · subst e; omega
    · rw [hf i hi e]; have := h.ge i hi; omega) (fun e he => by have := h.cl e he; omega)
  have h2 : ∀ i, i < n → z i ≤ (if f' k ≤ z i then z i else x i) := q.le (fun i => if f' k ≤ z i then z i else x i) (fun i hi => by
    by_cases e : i = k
    · subst e
      rw [if_pos (q.ge i hi)]
      exact q.ge i hi
    · skip
      rw [hf i hi e]
      have := h.ge i hi
      have := hxz i hi
      split <;> omega) (fun e he => by
    have a1 := h.cl e he
    have a2 := q.cl e he
    have a3 := hxz e.2 (hes e he).2
    split <;> split <;> omega)
  intro i hi
  have b1 := h1 i hi
  have b2 := h2 i hi
  by_cases e : f' k ≤ z i
  · by_cases e2 : z i ≤ x i
    · exact .inl e2
    · exact .inr (by omega)
  · rw [if_neg e] at b2
    exact .inl b2
end Go.Proofs.YtiigfggebpmlnaaGreatDoor
