import Derived.Test.YtlonbaefdffbeaaGreatDoorATyp3
import Derived.Deep.MidRow
namespace Go.Proofs.YtlonbaefdffbeaaGreatDoor
open Go.ChangeShapes Go.WideShapes Go.ChangeAt Go.RowKit Go.Proofs.Tryz
set_option linter.unusedSimpArgs false
set_option linter.unusedVariables false

def setFrom : Array Value → Nat → List Value → Array Value
 | cur, _, [] => cur
 | cur, o, v :: r => setFrom (cur.setIfInBounds o v) (o + 1) r
theorem setCells_block (b : Nat) : ∀ (vs : List Value) (o : Nat) (w : World) (cur : Array Value) (t : TypeId), w.heap[b]? = some (.cells cur t (0, 0)) → (w.setCells b o vs).heap[b]? = some (.cells (setFrom cur o vs) t (0, 0))
 | [], _, _, _, _, h => h
 | v :: r, o, w, cur, t, h => setCells_block b r (o + 1) _ _ t (heap_set_same (o := o) h v)
theorem setCells_rest (b : Nat) : ∀ (vs : List Value) (o : Nat) (w : World), (w.setCells b o vs).heap.size = w.heap.size ∧ (∀ k, k ≠ b → (w.setCells b o vs).heap[k]? = w.heap[k]?) ∧ (w.setCells b o vs).os = w.os ∧ (w.setCells b o vs).tape = w.tape ∧ (w.setCells b o vs).output = w.output
 | [], _, _ => ⟨rfl, fun _ _ => rfl, rfl, rfl, rfl⟩
 | v :: r, o, w => by
  obtain ⟨h1, h2, h3, h4, h5⟩ := setCells_rest b r (o + 1) (w.setCell ⟨b, o, none⟩ v);exact ⟨h1.trans (size_set _ _ _), fun k hk => (h2 k hk).trans (heap_set_other hk), h3, h4, h5⟩
theorem there_block {w : World} {b : Nat} {cur : Array Value} {t : TypeId} (h : w.heap[b]? = some (.cells cur t (0, 0))) (n : Nat) (hn : n ≤ cur.size) : w.there b 0 n := by
 intro j hj;have hj2 : j < cur.size := by omega
 refine ⟨?_, ?_⟩
 ·rw [Nat.zero_add, heap_cell h (Array.getElem?_eq_getElem hj2)]
  rfl
 ·rw [Nat.zero_add]
  exact heap_frozen h
theorem infoN : (prog.info? 87).map (·.size) = some 14 := by kernel_rfl
theorem setFrom14 (o0 o1 o2 o3 o4 o5 o6 o7 o8 o9 o10 o11 o12 o13 v0 v1 v2 v3 v4 v5 v6 v7 v8 v9 v10 v11 v12 v13 : Value) : setFrom #[o0, o1, o2, o3, o4, o5, o6, o7, o8, o9, o10, o11, o12, o13] 0 [v0, v1, v2, v3, v4, v5, v6, v7, v8, v9, v10, v11, v12, v13] = #[v0, v1, v2, v3, v4, v5, v6, v7, v8, v9, v10, v11, v12, v13] := by
 simp [setFrom]
structure Stored (b : Nat) (new : Array Value) (w W : World) : Prop where
 blk : W.heap[b]? = some (.cells new 87 (0, 0))
 size : W.heap.size = w.heap.size
 rest : ∀ k, k ≠ b → W.heap[k]? = w.heap[k]?
 os : W.os = w.os
 tape : W.tape = w.tape
 output : W.output = w.output
theorem stored {w : World} {b : Nat} {old : Array Value} {new : List Value} (h : w.heap[b]? = some (.cells old 87 (0, 0))) (he : setFrom old 0 new = new.toArray) : Stored b new.toArray w (w.setCells b 0 new) := by
 obtain ⟨h1, h2, h3, h4, h5⟩ := setCells_rest b new 0 w;exact ⟨he ▸ setCells_block b new 0 w old _ h, h1, h2, h3, h4, h5⟩
theorem Stored.chg {PB b : Nat} {new : Array Value} {w0 w W : World} (h : Stored b new w W) (hc : Chg PB w0 w) (hb : w0.heap.size ≤ b) : Chg PB w0 W :=
 ⟨h.os.trans hc.os, h.tape.trans hc.tape, h.output.trans hc.output, by rw [h.size]; exact hc.size, fun k h1 h2 => (h.rest k (by omega)).trans (hc.block k h1 h2)⟩
theorem Stored.pat {b : Nat} {new : Array Value} {w0 w W : World} {c : PC} {s0 s : PSt} (h : Stored b new w W) (h0 : PAt w0 c s0) (hp : PAt w c s) (hb : w0.heap.size ≤ b) : PAt W c s :=
 h0.over hp (fun k hk => h.rest k (by omega))
end Go.Proofs.YtlonbaefdffbeaaGreatDoor
