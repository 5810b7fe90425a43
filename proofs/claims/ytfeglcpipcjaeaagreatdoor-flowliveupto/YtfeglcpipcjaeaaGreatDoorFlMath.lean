/- A search over a graph, as mathematics: what was met, what waits, what came out. -/
import Derived.Test.YtfeglcpipcjaeaaGreatDoorFlBase
namespace Go.Proofs.YtfeglcpipcjaeaaGreatDoor
set_option linter.unusedSimpArgs false
set_option linter.unusedVariables false

def updB (m : Nat → Bool) (x : Nat) : Nat → Bool := fun i => if i = x then true else m i
/-- How many are not met. -/
def unm (m : Nat → Bool) : Nat → Nat
  | 0 => 0
  | n + 1 => unm m n + (if m n = true then 0 else 1)
theorem unm_same {m m' : Nat → Bool} : ∀ {n : Nat}, (∀ i, i < n → m i = m' i) → unm m n = unm m' n
  | 0, _ => rfl
  | n + 1, h => by
    simp only [unm]
    rw [unm_same (fun i hi => h i (by omega)), h n (by omega)]
theorem unm_upd {m : Nat → Bool} {x : Nat} : ∀ {n : Nat}, x < n → m x = false → unm (updB m x) n + 1 = unm m n
  | n + 1, hx, hm => by
    simp only [unm]
    by_cases e : x = n
    · subst e
      have h1 : unm (updB m x) x = unm m x := unm_same (fun i hi => by unfold updB; rw [if_neg (by omega)])
      rw [h1, hm]
      simp [updB]
    · have h1 := unm_upd (n := n) (by omega) hm
      have h2 : updB m x n = m n := by unfold updB; rw [if_neg (by omega)]
      rw [h2]
      omega
theorem unm_le (m : Nat → Bool) : ∀ n, unm m n ≤ n
  | 0 => Nat.le_refl _
  | n + 1 => by
    simp only [unm]
    have := unm_le m n
    split <;> omega
/-- What holds while a search is under way. -/
structure SI (n : Nat) (g : Nat → List Nat) (m0 : Nat → Bool) (ss : List Nat) (m : Nat → Bool) (o wt : List Nat) : Prop where
  mem : ∀ i, m i = true ↔ m0 i = true ∨ i ∈ o ∨ i ∈ wt
  nd : (o ++ wt).Nodup
  un : ∀ i, i ∈ o ∨ i ∈ wt → m0 i = false ∧ i < n
  re : ∀ S : Nat → Prop, (∀ s ∈ ss, S s) → (∀ i, S i → m0 i = false → ∀ t ∈ g i, S t) → ∀ i, i ∈ o ∨ i ∈ wt → S i
theorem SI.start (n : Nat) (g : Nat → List Nat) (m0 : Nat → Bool) (ss : List Nat) : SI n g m0 ss m0 [] [] :=
  ⟨fun i => by simp, by simp, fun i h => by simp at h, fun S _ _ i h => by simp at h⟩
section
variable {n : Nat} {g : Nat → List Nat} {m0 m : Nat → Bool} {ss o wt : List Nat} {x y : Nat}
theorem SI.push (h : SI n g m0 ss m o wt) (hx : m x = false) (hn : x < n) (hw : x ∈ ss ∨ ∃ y ∈ o, x ∈ g y) : SI n g m0 ss (updB m x) o (wt ++ [x]) := by
  have hno : ¬ (m0 x = true ∨ x ∈ o ∨ x ∈ wt) := fun z => by rw [(h.mem x).2 z] at hx; cases hx
  refine ⟨fun i => ?_, ?_, fun i hi => ?_, fun S h1 h2 i hi => ?_⟩
  · unfold updB
    by_cases e : i = x
    · subst e; simp
    · rw [if_neg e, h.mem i]; simp [e]
  · rw [← List.append_assoc, List.nodup_append]
    refine ⟨h.nd, by simp, fun a ha b hb => ?_⟩
    have hb' : b = x := by simpa using hb
    subst hb'
    intro e
    subst e
    exact hno (.inr (List.mem_append.1 ha))
  · simp only [List.mem_append, List.mem_singleton] at hi
    rcases hi with hi | hi | rfl
    · exact h.un i (.inl hi)
    · exact h.un i (.inr hi)
    · exact ⟨by cases hm : m0 i with | false => rfl | true => exact absurd (.inl hm) hno, hn⟩
  · simp only [List.mem_append, List.mem_singleton] at hi
    rcases hi with hi | hi | rfl
    · exact h.re S h1 h2 i (.inl hi)
    · exact h.re S h1 h2 i (.inr hi)
    · rcases hw with hw | ⟨y, hy, hg⟩
      · exact h1 i hw
      · exact h2 y (h.re S h1 h2 y (.inl hy)) (h.un y (.inl hy)).1 i hg
theorem SI.pop (h : SI n g m0 ss m o (wt ++ [x])) : SI n g m0 ss m (o ++ [x]) wt := by
  have hm : ∀ i, (i ∈ o ++ [x] ∨ i ∈ wt) ↔ (i ∈ o ∨ i ∈ wt ++ [x]) := fun i => by
    simp only [List.mem_append, List.mem_singleton]
    constructor
    · rintro ((h | h) | h)
      · exact .inl h
      · exact .inr (.inr h)
      · exact .inr (.inl h)
    · rintro (h | h | h)
      · exact .inl (.inl h)
      · exact .inr h
      · exact .inl (.inr h)
  refine ⟨fun i => ?_, ?_, fun i hi => h.un i ((hm i).1 hi), fun S h1 h2 i hi => h.re S h1 h2 i ((hm i).1 hi)⟩
  · rw [h.mem i, hm i]
  · have hp : (o ++ [x] ++ wt).Perm (o ++ (wt ++ [x])) := by
      rw [List.append_assoc]
      exact (List.Perm.refl o).append List.perm_append_comm
    exact (hp.nodup_iff).2 h.nd
theorem SI.met (h : SI n g m0 ss m o wt) {i : Nat} (hi : i ∈ o ∨ i ∈ wt) : m i = true := (h.mem i).2 (.inr hi)
end
/-- What a search has come to. -/
structure SR (n : Nat) (g : Nat → List Nat) (m0 : Nat → Bool) (ss : List Nat) (m : Nat → Bool) (o : List Nat) : Prop where
  si : SI n g m0 ss m o []
  st : ∀ s ∈ ss, m s = true
  cl : ∀ y ∈ o, ∀ t ∈ g y, m t = true
theorem updB_mono {m : Nat → Bool} {x i : Nat} (h : m i = true) : updB m x i = true := by unfold updB; split <;> simp_all
theorem updB_self (m : Nat → Bool) (x : Nat) : updB m x x = true := by simp [updB]
end Go.Proofs.YtfeglcpipcjaeaaGreatDoor
