import Derived.Test.YtlonbaefdffbeaaGreatDoorASize
import Derived.Maps.AppendAt
import Derived.Deep.AppendLies
namespace Go.Proofs.YtlonbaefdffbeaaGreatDoor
open Go.ChangeShapes Go.WideShapes Go.ChangeAt Go.RowKit
set_option linter.unusedSimpArgs false
set_option linter.unusedVariables false

def ptrV (x : Nat) : Value := .pointer (some ⟨x, 0, none⟩)
theorem ownsRow_same' {w w' : World} {base : Nat} {e : TypeId} {size : Nat} {v : Value} {n : Nat} {xs : List Value} (h : w.ownsRow base e size v n xs) (hb : ∀ k, base ≤ k → k < w.heap.size → w'.heap[k]? = w.heap[k]?) : w'.ownsRow base e size v n xs := by
 refine ⟨h.1, ?_⟩
 rcases h.2 with h | ⟨g, cap, cur, h1, h2, h3, h4⟩
 ·exact .inl h
 ·exact .inr ⟨g, cap, cur, h1, h2, (hb g h2 (zge h3).1).trans h3, h4⟩
structure ListAt (W : World) (lo : Nat) (v : Value) (ts : List Tr) (bs : List Nat) : Prop where
 own : W.ownsRow lo 83 1 v ts.length (bs.map ptrV)
 hl : bs.length = ts.length
 sub : ∀ (i : Nat) (t : Tr) (x : Nat), ts[i]? = some t → bs[i]? = some x → ∃ l h, lo ≤ l ∧ h ≤ W.heap.size ∧ TreeAt W l h t x ∧ ∀ k, l ≤ k → k < h → some k ≠ v.ownBlock
theorem own_lt {w : World} {base : Nat} {e : TypeId} {size : Nat} {v : Value} {n k : Nat} {xs : List Value} (h : w.ownsRow base e size v n xs) (hk : v.ownBlock = some k) : base ≤ k ∧ k < w.heap.size := by
 rcases h.2 with ⟨rfl, _⟩ | ⟨g, cap, cur, rfl, h2, h3, _⟩
 ·simp [Value.ownBlock] at hk
 ·simp [Value.ownBlock] at hk
  subst hk;exact ⟨h2, (zge h3).1⟩
theorem ListAt.keep {W W' : World} {lo : Nat} {v : Value} {ts : List Tr} {bs : List Nat} (h : ListAt W lo v ts bs) (hs : W.heap.size ≤ W'.heap.size) (hb : ∀ k, lo ≤ k → k < W.heap.size → W'.heap[k]? = W.heap[k]?) : ListAt W' lo v ts bs := by
 refine ⟨ownsRow_same' h.own hb, h.hl, fun i t x ht hx => ?_⟩;obtain ⟨l, g, h1, h2, h3, h4⟩ := h.sub i t x ht hx;exact ⟨l, g, h1, by omega, h3.keep (fun k k1 k2 => hb k (by omega) (by omega)), h4⟩
theorem ListAt.chg {PB : Nat} {W W' : World} {lo : Nat} {v : Value} {ts : List Tr} {bs : List Nat} (h : ListAt W lo v ts bs) (hc : Chg PB W W') (hp : PB < lo) : ListAt W' lo v ts bs :=
 h.keep hc.size (fun k k1 k2 => hc.block k k2 (by omega))
theorem ListAt.nil (W : World) (lo : Nat) : ListAt W lo (.slice none 0 0) [] [] := ⟨World.ownsRow_nil _ _ _ _, rfl, fun i t x h => by simp at h⟩
theorem ListAt.push {W W1 W2 : World} {lo l x : Nat} {v v' : Value} {ts : List Tr} {bs : List Nat} {t : Tr} (h : ListAt W lo v ts bs) (ht : TreeAt W l W.heap.size t x) (hl : lo ≤ l) (hv : ∀ k, v.ownBlock = some k → k < l)
  (h1 : Below W.heap.size W W1) (hown : W2.ownsRow lo 83 1 v' (ts.length + 1) (bs.map ptrV ++ [ptrV x])) (hg : W1.grownBy W2 v.ownBlock) (hat : v'.ownBlock = v.ownBlock ∨ v'.ownBlock = some W1.heap.size) : ListAt W2 lo v' (ts ++ [t]) (bs ++ [x]) := by
 have hs1 := h1.size;have hs2 := hg.size
 have keepT : ∀ (l' h' : Nat) (t' : Tr) (x' : Nat), h' ≤ W.heap.size → TreeAt W l' h' t' x' → (∀ k, l' ≤ k → k < h' → some k ≠ v.ownBlock) → TreeAt W2 l' h' t' x' := fun l' h' t' x' e1 e2 e3 =>
  e2.keep (fun k k1 k2 => (hg.block k (by omega) (e3 k k1 k2)).trans (h1.block k (by omega)))
 have out : ∀ (l' h' : Nat), h' ≤ W.heap.size → (∀ k, l' ≤ k → k < h' → some k ≠ v.ownBlock) → ∀ k, l' ≤ k → k < h' → some k ≠ v'.ownBlock := fun l' h' e1 e2 k k1 k2 => by
  rcases hat with e | e
  ·rw [e]; exact e2 k k1 k2
  ·rw [e]
   intro he
   injection he with he
   omega
 refine ⟨by rw [List.length_append, List.map_append]; exact hown, by rw [List.length_append, List.length_append, h.hl]; rfl, fun i t' x' ht' hx' => ?_⟩
 by_cases hi : i < ts.length
 ·rw [List.getElem?_append_left hi] at ht'
  rw [List.getElem?_append_left (by rw [h.hl]; exact hi)] at hx';obtain ⟨l', h', e1, e2, e3, e4⟩ := h.sub i t' x' ht' hx';exact ⟨l', h', e1, by omega, keepT l' h' t' x' e2 e3 e4, out l' h' e2 e4⟩
 ·rw [List.getElem?_append_right (by omega)] at ht'
  rw [List.getElem?_append_right (by rw [h.hl]; omega), h.hl] at hx'
  have hz : i - ts.length = 0 := by
   have := (List.getElem?_eq_some_iff.1 ht').1;simp at this
   omega
  rw [hz] at ht' hx';simp at ht' hx';subst ht' hx'
  have e4 : ∀ k, l ≤ k → k < W.heap.size → some k ≠ v.ownBlock := fun k k1 k2 he => by
   have := hv k he.symm
   omega
  exact ⟨l, W.heap.size, hl, by omega, keepT _ _ _ _ (Nat.le_refl _) ht e4, out _ _ (Nat.le_refl _) e4⟩
theorem ListAt.row {W : World} {lo : Nat} {v : Value} {ts : List Tr} {bs : List Nat} (h : ListAt W lo v ts bs) : ∃ a cap, v = .slice a ts.length cap ∧ RowAt W lo W.heap.size a cap ts bs := by
 have hsub : ∀ (i : Nat) (t : Tr) (x : Nat), ts[i]? = some t → bs[i]? = some x → TreeAt W lo W.heap.size t x := fun i t x ht hx => by
  obtain ⟨l, g, h1, h2, h3, _⟩ := h.sub i t x ht hx;exact h3.mono h1 h2
 rcases h.own.2 with ⟨e1, e2⟩ | ⟨g, cap, cur, h1, h2, h3, h4, h5, h6, h7⟩
 ·have hn : ts = [] := List.length_eq_zero_iff.1 e2
  subst hn;exact ⟨none, 0, e1, ⟨Nat.le_refl _, fun hne => absurd rfl hne, h.hl, hsub⟩⟩
 ·refine ⟨_, cap, h1, ⟨h4, fun _ => ⟨g, rfl, h2, (zge h3).1, fun i x hx => ?_⟩, h.hl, hsub⟩⟩
  have hi : i < ts.length := by
   have := (List.getElem?_eq_some_iff.1 hx).1;have := h.hl
   omega
  refine heap_cell h3 ?_;have e : (bs.map ptrV)[i]? = some (ptrV x) := by rw [List.getElem?_map, hx]; rfl
  rw [← h7, List.getElem?_take, if_pos (by omega)] at e;simpa [ptrV] using e
end Go.Proofs.YtlonbaefdffbeaaGreatDoor
