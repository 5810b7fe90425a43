/- Package flow: rows of numbers, what a search leaves alone. -/
import Derived.Test.YthieicjnenlpfaaGreatDoorRBase
import Derived.Test.YthieicjnenlpfaaGreatDoorRCp0
import Derived.Test.YthieicjnenlpfaaGreatDoorLRange
import Derived.RangeFuncLeaves
import Derived.RangeFuncBox
import Derived.Shelf.Abstract
import Derived.OwnWalkIn
import Derived.TacticsInMore
import Derived.LoopNIn
import Derived.LoopIn
namespace Go.Proofs.YthieicjnenlpfaaGreatDoor
open Go.ChangeShapes Go.WideShapes Go.ChangeAt Go.RowKit
set_option linter.unusedSimpArgs false
set_option linter.unusedVariables false

theorem hidF {p : Prop} (h : p) : Hid p := h
/-- The region n of a code. -/
def regionNF (n : Nat) : Code → Option Code
  | .region k o b => if k = n then some (.region k o b) else none
  | .seq a b => match regionNF n a with
    | some c => some c
    | none => regionNF n b
  | .block _ c => regionNF n c
  | .scope c => regionNF n c
  | .loop c => regionNF n c
  | .cond _ a b => match regionNF n a with
    | some c => some c
    | none => regionNF n b
  | _ => none
def intsF (l : List Int) : List Value := l.map fun n => .int .i64 n
theorem ints_lengthF (l : List Int) : (intsF l).length = l.length := List.length_map _
/-- Numbers as they lie in memory. -/
def up (l : List Nat) : List Int := l.map fun (x : Nat) => (x : Int)
theorem up_length (l : List Nat) : (up l).length = l.length := List.length_map _
theorem up_get (l : List Nat) (i : Nat) : (up l)[i]? = (l[i]?).map fun (x : Nat) => (x : Int) := List.getElem?_map
theorem up_append (a b : List Nat) : up (a ++ b) = up a ++ up b := List.map_append
theorem ints_append (a b : List Int) : intsF (a ++ b) = intsF a ++ intsF b := List.map_append
theorem IL.nilF (w : World) : IL w (.slice none 0 0) [] := ⟨none, 0, rfl, by simp, fun _ => ⟨rfl, rfl⟩, fun h => absurd rfl h⟩
theorem IL.ownF {w : World} {B : Nat} {v : Value} {l : List Int} (h : w.ownsRow B 3 1 v l.length (intsF l)) (hb : l.length * 8 ≤ 140737488355328) : IL w v l := by
  rcases h.2 with ⟨h1, h2⟩ | ⟨g, cap, cur, h1, h2, h3, h4, h5, h6, h7⟩
  · have e : l = [] := List.length_eq_zero_iff.1 h2
    subst e
    exact ⟨none, 0, by rw [h1]; rfl, hb, fun _ => ⟨rfl, rfl⟩, fun h => absurd rfl h⟩
  · refine ⟨_, cap, h1, hb, (fun h => by cases h), fun _ => ⟨g, 0, rfl, fun i x hx => ?_⟩⟩
    have := h.cells (g := g) (by rw [h1]; rfl) i (.int .i64 x) (by simp only [intsF, List.getElem?_map, hx, Option.map_some])
    rw [show (⟨g, 0, none⟩ : Addr).add i = ⟨g, 0 + i, none⟩ from Addr.add_mid _ _ _] at this
    exact this
theorem IL.partsF {w : World} {v : Value} {l : List Int} (h : IL w v l) : ∃ (a : Option Addr) (cap : Nat), v = .slice a l.length cap ∧ l.length * 8 ≤ 140737488355328 := by
  obtain ⟨a, cap, hv, h1, _⟩ := h
  exact ⟨a, cap, hv, h1⟩
/-- What lies in the blocks of Q is as it was. -/
theorem IL.of {w w' : World} {v : Value} {l : List Int} (h : IL w v l) (hk : ∀ b o s n c, v = .slice (some ⟨b, o, s⟩) n c → w'.heap[b]? = w.heap[b]?) : IL w' v l := by
  obtain ⟨a, cap, hv, h1, h0, h2⟩ := h
  refine ⟨a, cap, hv, h1, h0, fun hl => ?_⟩
  obtain ⟨b, off, rfl, hc⟩ := h2 hl
  exact ⟨b, off, rfl, fun i x hx => by rw [World.cell?_of_block (w := w) (hk b off none _ _ hv)]; exact hc i x hx⟩
/-- A row of ours, one shorter. -/
theorem ownsRow_pop {w : World} {B : Nat} {e : TypeId} {a : Option Addr} {n cap : Nat} {xs : List Value} {x : Value} (h : w.ownsRow B e 1 (.slice a (n + 1) cap) (n + 1) (xs ++ [x])) : w.ownsRow B e 1 (.slice a n cap) n xs := by
  have hl : xs.length = n := by have := h.1; simp at this; omega
  refine ⟨by omega, ?_⟩
  rcases h.2 with ⟨h1, h2⟩ | ⟨g, cap', cur, h1, h2, h3, h4, h5, h6, h7⟩
  · omega
  · cases h1
    refine .inr ⟨g, cap, cur, rfl, h2, h3, by omega, h5, h6, ?_⟩
    rw [Nat.mul_one] at h7 ⊢
    have := congrArg (List.take n) h7
    rw [List.take_take, Nat.min_eq_left (by omega), List.take_left' hl] at this
    exact this
/-- What lies below H is as it was, the block mb aside. -/
structure Mv (H mb : Nat) (w w' : World) : Prop where
  os : w'.os = w.os
  tape : w'.tape = w.tape
  output : w'.output = w.output
  size : w.heap.size ≤ w'.heap.size
  block : ∀ k, k < H → k ≠ mb → w'.heap[k]? = w.heap[k]?
theorem Mv.refl (H mb : Nat) (w : World) : Mv H mb w w := ⟨rfl, rfl, rfl, Nat.le_refl _, fun _ _ _ => rfl⟩
theorem Mv.trans {H mb : Nat} {a b c : World} (h : Mv H mb a b) (k : Mv H mb b c) : Mv H mb a c :=
  ⟨k.os.trans h.os, k.tape.trans h.tape, k.output.trans h.output, Nat.le_trans h.size k.size, fun q h1 h2 => (k.block q h1 h2).trans (h.block q h1 h2)⟩
theorem Mv.alloc {H mb : Nat} {a b : World} (h : Mv H mb a b) (hH : H ≤ b.heap.size) (o : Obj) : Mv H mb a (b.alloc o) :=
  h.trans ⟨rfl, rfl, rfl, by show _ ≤ (b.heap.push o).size; simp, fun q h1 _ => Below.heap_alloc b o q (by omega)⟩
theorem Mv.set {H mb : Nat} {a b : World} (h : Mv H mb a b) {p : Addr} (hp : p.block = mb ∨ H ≤ p.block) (v : Value) : Mv H mb a (b.setCell p v) :=
  h.trans ⟨rfl, rfl, rfl, by simp [World.setCell], fun q h1 h2 => Below.heap_setCell b p v q (by rcases hp with e | e <;> omega)⟩
theorem Mv.grown {H mb : Nat} {a b c : World} {row : Option Nat} (h : Mv H mb a b) (hg : b.grownBy c row) (hH : H ≤ b.heap.size) (hr : ∀ k, row = some k → H ≤ k) : Mv H mb a c :=
  h.trans ⟨hg.os, hg.tape, hg.output, hg.size, fun q h1 _ => hg.block q (by omega) (fun e => by have := hr q e.symm; omega)⟩
theorem Mv.below {H mb n : Nat} {a b c : World} (h : Mv H mb a b) (hb : Below n b c) (hn : H ≤ n) : Mv H mb a c :=
  h.trans ⟨hb.os, hb.tape, hb.output, hb.size, fun q h1 _ => hb.block q (by omega)⟩
end Go.Proofs.YthieicjnenlpfaaGreatDoor
