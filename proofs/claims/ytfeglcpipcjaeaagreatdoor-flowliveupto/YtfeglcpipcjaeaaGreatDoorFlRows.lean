/- Package flow: rows of numbers, each in a block of its own. -/
import Derived.Test.YtfeglcpipcjaeaaGreatDoorFlBridge
namespace Go.Proofs.YtfeglcpipcjaeaaGreatDoor
open Go.ChangeShapes Go.WideShapes Go.ChangeAt Go.RowKit
set_option linter.unusedSimpArgs false
set_option linter.unusedVariables false

theorem cell_of {W W' : World} {b o : Nat} {v : Value} (h : W.cell? ⟨b, o, none⟩ = some v) (hk : b < W.heap.size → W'.heap[b]? = W.heap[b]?) : W'.cell? ⟨b, o, none⟩ = some v := by
  rw [World.cell?_of_block (w := W) (hk (block_lt_of_cell h))]; exact h
theorem IL.of2 {w w' : World} {v : Value} {l : List Int} (h : IL w v l) (hk : ∀ b o s n c, v = .slice (some ⟨b, o, s⟩) n c → b < w.heap.size → w'.heap[b]? = w.heap[b]?) : IL w' v l := by
  obtain ⟨a, cap, hv, h1, h0, h2⟩ := h
  refine ⟨a, cap, hv, h1, h0, fun hl => ?_⟩
  obtain ⟨b, off, rfl, hc⟩ := h2 hl
  exact ⟨b, off, rfl, fun i x hx => cell_of (hc i x hx) (hk b off none _ _ hv)⟩
theorem cell_new2 (w : World) (x : Value) (e : TypeId) (k : Nat) (hk : w.heap.size = k) (h : x.oneCell' = true := by rfl) : (w.alloc (.cells #[x] e)).cell? ⟨k, 0, none⟩ = some x := by subst hk; exact cell_new w x e h
theorem wp_calm {P : Program} {c : Code} {Q : Exit → Act → World → Prop} {a : Act} {w : World} (h : Code.wp P c (fun e a w => e = .normal ∧ Q .normal a w) a w) : Code.wp P c Q a w :=
  Go.wp_mono h (fun e a w hq => by obtain ⟨rfl, h⟩ := hq; exact h)
theorem ownsRow_blk {W W' : World} {B : Nat} {e : TypeId} {v : Value} {k : Nat} {xs : List Value} (h : W.ownsRow B e 1 v k xs) (hk : ∀ b, v.ownBlock = some b → W'.heap[b]? = W.heap[b]?) : W'.ownsRow B e 1 v k xs := by
  refine ⟨h.1, ?_⟩
  rcases h.2 with z | ⟨b, cap, cur, h1, h2, h3, h4⟩
  · exact .inl z
  · exact .inr ⟨b, cap, cur, h1, h2, by rw [hk b (by rw [h1]; rfl)]; exact h3, h4⟩
/-- The rows of a graph, each in a block of its own. -/
structure NI (B NB n : Nat) (rv : Nat → Value) (g : Nat → List Nat) (W : World) : Prop where
  cell : ∀ i, i < n → W.cell? ⟨NB, i, none⟩ = some (rv i) ∧ W.frozen? ⟨NB, i, none⟩ = false
  own : ∀ i, i < n → W.ownsRow B 3 1 (rv i) (g i).length (intsF (up (g i)))
  ne : ∀ i, i < n → some NB ≠ (rv i).ownBlock
  dis : ∀ i j, i < n → j < n → i ≠ j → (rv i).ownBlock = none ∨ (rv i).ownBlock ≠ (rv j).ownBlock
theorem NI.of {B NB n : Nat} {rv : Nat → Value} {g : Nat → List Nat} {W W' : World} (h : NI B NB n rv g W) (hb : Below W.heap.size W W') : NI B NB n rv g W' where
  cell := fun i hi => ⟨keep_cell hb (h.cell i hi).1, keep_frozen hb (h.cell i hi).1 (h.cell i hi).2⟩
  own := fun i hi => ownsRow_blk (h.own i hi) (fun b hbk => hb.block b ((h.own i hi).lt b hbk).2)
  ne := h.ne
  dis := h.dis
theorem NI.start (W : World) (B NB n : Nat) (hc : ∀ i, i < n → W.cell? ⟨NB, i, none⟩ = some (.slice none 0 0) ∧ W.frozen? ⟨NB, i, none⟩ = false) : NI B NB n (fun _ => .slice none 0 0) (fun _ => []) W where
  cell := hc
  own := fun _ _ => World.ownsRow_nil _ _ _ _
  ne := fun _ _ => by simp [Value.ownBlock]
  dis := fun _ _ _ _ _ => .inl rfl
def setR (rv : Nat → Value) (x : Nat) (v : Value) : Nat → Value := fun i => if i = x then v else rv i
def addG (g : Nat → List Nat) (x t : Nat) : Nat → List Nat := fun i => if i = x then g i ++ [t] else g i
theorem NI.push {B NB n x t : Nat} {rv : Nat → Value} {g : Nat → List Nat} {W w3 : World} {v : Value} {N : Nat} (h : NI B NB n rv g W) (hx : x < n) (ho : w3.ownsRow B 3 1 v ((g x).length + 1) (intsF (up (g x)) ++ [.int .i64 t])) (hg : W.grownBy w3 (rv x).ownBlock) (hb : v.ownBlock = (rv x).ownBlock ∨ v.ownBlock = some N) (hN : W.heap.size ≤ N) :
    NI B NB n (setR rv x v) (addG g x t) (w3.setCell ⟨NB, x, none⟩ v) := by
  have hNB : NB < W.heap.size := block_lt_of_cell (h.cell x hx).1
  have hvn : some NB ≠ v.ownBlock := by
    rcases hb with e | e
    · rw [e]; exact h.ne x hx
    · rw [e]; intro e2; injection e2 with e2; omega
  have hcell : ∀ i, i < n → w3.cell? ⟨NB, i, none⟩ = some (rv i) ∧ w3.frozen? ⟨NB, i, none⟩ = false := fun i hi => by
    have hk := hg.block NB hNB (h.ne x hx)
    exact ⟨by rw [World.cell?_of_block (w := W) hk]; exact (h.cell i hi).1, by rw [World.frozen?_of_block (w := W) hk]; exact (h.cell i hi).2⟩
  have hset : ∀ b, b ≠ NB → (w3.setCell ⟨NB, x, none⟩ v).heap[b]? = w3.heap[b]? := fun b hbn => gset_otherF hbn
  refine ⟨fun i hi => ?_, fun i hi => ?_, fun i hi => ?_, fun i j hi hj hij => ?_⟩
  · refine ⟨?_, by rw [World.frozen?_setCell]; exact (hcell i hi).2⟩
    unfold setR
    by_cases e : i = x
    · subst e
      rw [if_pos rfl]
      exact World.cell?_setCell_same _ _ _ (hcell i hi).1
    · rw [if_neg e, World.cell?_setCell_other _ _ _ _ (fun e2 => e (by cases e2; rfl))]
      exact (hcell i hi).1
  · unfold setR addG
    by_cases e : i = x
    · subst e
      rw [if_pos rfl, if_pos rfl]
      rw [List.length_append, up_append, ints_append]
      exact ownsRow_blk ho (fun b hbk => hset b (fun e => hvn (by rw [hbk, e])))
    · rw [if_neg e, if_neg e]
      refine ownsRow_blk (W := W) (h.own i hi) (fun b hbk => ?_)
      rw [hset b (fun e2 => h.ne i hi (by rw [hbk, e2]))]
      refine hg.block b ((h.own i hi).lt b hbk).2 (fun e2 => ?_)
      rcases h.dis i x hi hx e with z | z
      · rw [z] at hbk; cases hbk
      · exact z (by rw [hbk, e2])
  · unfold setR
    by_cases e : i = x
    · rw [if_pos e]; exact hvn
    · rw [if_neg e]; exact h.ne i hi
  · unfold setR
    have hlt : ∀ j, j < n → ∀ b, (rv j).ownBlock = some b → b < W.heap.size := fun j hj b hbk => ((h.own j hj).lt b hbk).2
    by_cases e : i = x
    · subst e
      rw [if_pos rfl, if_neg (Ne.symm hij)]
      rcases hb with z | z
      · rw [z]; exact h.dis i j hi hj hij
      · rw [z]
        exact .inr (fun e2 => by have := hlt j hj N e2.symm; omega)
    · rw [if_neg e]
      by_cases e2 : j = x
      · subst e2
        rw [if_pos rfl]
        rcases hb with z | z
        · rw [z]; exact h.dis i j hi hj hij
        · rw [z]
          cases hbk : (rv i).ownBlock with
          | none => exact .inl rfl
          | some b => exact .inr (fun e3 => by injection e3 with e3; have := hlt i hi b hbk; omega)
      · rw [if_neg e2]; exact h.dis i j hi hj hij
theorem NI.ext {B NB n : Nat} {rv : Nat → Value} {g g' : Nat → List Nat} {W : World} (h : NI B NB n rv g W) (e : ∀ i, g i = g' i) : NI B NB n rv g' W := by
  have : g = g' := funext e
  rw [← this]; exact h
/-- What lies in the rows' own blocks is as it was. -/
theorem NI.blk {B NB n : Nat} {rv : Nat → Value} {g : Nat → List Nat} {W W' : World} (h : NI B NB n rv g W) (hk : ∀ k, (0 < n ∧ k = NB) ∨ (∃ i, i < n ∧ (rv i).ownBlock = some k) → W'.heap[k]? = W.heap[k]?) : NI B NB n rv g W' where
  cell := fun i hi => by
    have e := hk NB (.inl ⟨by omega, rfl⟩)
    exact ⟨by rw [World.cell?_of_block (w := W) e]; exact (h.cell i hi).1, by rw [World.frozen?_of_block (w := W) e]; exact (h.cell i hi).2⟩
  own := fun i hi => ownsRow_blk (h.own i hi) (fun b hbk => hk b (.inr ⟨i, hi, hbk⟩))
  ne := h.ne
  dis := h.dis
theorem ownsRow_not_loop {W : World} {B : Nat} {e : TypeId} {v : Value} {k b : Nat} {xs : List Value} {r : Loop} (h : W.ownsRow B e 1 v k xs) (hb : v.ownBlock = some b) (hl : W.heap[b]? = some (.loop r)) : False := by
  rcases h.2 with ⟨h1, _⟩ | ⟨g, cap, cur, h1, h2, h3, h4⟩
  · rw [h1] at hb; cases hb
  · rw [h1] at hb
    have hg : g = b := by simpa [Value.ownBlock] using hb
    subst hg
    rw [hl] at h3
    cases h3
/-- A loop's record turned leaves the rows. -/
theorem NI.loop {B NB n l : Nat} {rv : Nat → Value} {g : Nat → List Nat} {W W' : World} {r : Loop} (h : NI B NB n rv g W) (hl : W.heap[l]? = some (.loop r)) (hk : ∀ k, k ≠ l → W'.heap[k]? = W.heap[k]?) : NI B NB n rv g W' :=
  h.blk (fun k hkk => hk k (fun e => by
    subst e
    rcases hkk with ⟨h0, rfl⟩ | ⟨i, hi, hb⟩
    · exact cell_not_loopF hl (h.cell 0 h0).1 rfl
    · exact ownsRow_not_loop (h.own i hi) hb hl))
end Go.Proofs.YtfeglcpipcjaeaaGreatDoor
