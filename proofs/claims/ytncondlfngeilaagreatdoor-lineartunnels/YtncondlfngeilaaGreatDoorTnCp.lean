
import Derived.Test.YtncondlfngeilaaGreatDoorRCp3
import Derived.Test.YtncondlfngeilaaGreatDoorTzE
import Derived.Test.YtncondlfngeilaaGreatDoorRSame
namespace Go.Proofs.YtncondlfngeilaaGreatDoor
open Go.ChangeShapes Go.WideShapes Go.ChangeAt Go.RowKit
set_option linter.unusedSimpArgs false
set_option linter.unusedVariables false

def RowN (P : Nat → Prop) (lo : Nat) (W : World) (r : Fn × Value × Value) : Prop := r.1.code ≠ [] → ∃ CB cap, r.2.2 = .slice (some ⟨CB, 0, none⟩) r.1.code.length cap ∧ lo ≤ CB ∧ P CB ∧ (r.1.params ≠ [] → ∀ b o s k c, r.2.1 = .slice (some ⟨b, o, s⟩) k c → b ≠ CB) ∧ ∀ (m : Nat) x, r.1.code[m]? = some x → InsW (fun k => P k ∧ k ≠ CB) W CB 0 m x
theorem InsW.mono {P R : Nat → Prop} {w : World} {CB co n : Nat} {x : Ins} (h : InsW P w CB co n x) (hr : ∀ k, P k → R k) : InsW R w CB co n x := by
 obtain ⟨v, h1, h2, h3⟩ := h;exact ⟨v, h1, fun hl b o s k c e => hr _ (h2 hl b o s k c e), h3⟩
theorem RowN.keep {P R : Nat → Prop} {lo : Nat} {W W' : World} {r : Fn × Value × Value} (h : RowN P lo W r) (hk : ∀ k, P k → W'.heap[k]? = W.heap[k]?) (hr : ∀ k, P k → R k) : RowN R lo W' r := by
 intro hne;obtain ⟨CB, cap, h1, h2, h3, h4, h5⟩ := h hne;exact ⟨CB, cap, h1, h2, hr _ h3, h4, fun m x hx => ((h5 m x hx).of (fun k q => hk k q.1) (hk CB h3)).mono (fun k q => ⟨hr k q.1, q.2⟩)⟩
theorem RowQ.insW {Q : Nat → Prop} {W : World} {CB : Nat} {l : List Ins} {cur : Array Value} (h : RowQ Q W CB 0 l) (hc : W.heap[CB]? = some (.cells cur 38 (0, 0))) : ∀ (m : Nat) x, l[m]? = some x → InsW Q W CB 0 m x := by
 intro m x hx;obtain ⟨v, h0, h1, h2, h3, h4, h5, h6, h7, h8, h9⟩ := h m x hx;have z : ∀ o, W.frozen? ⟨CB, o, none⟩ = false := fun o => xheap_frozen hc;exact ⟨v, h0.1, h0.2, h1, h2, h3, h4, h5, h6, h7, h8, h9, z _, z _, z _, z _, z _, z _, z _, z _, z _⟩
theorem CpJ.rown {Wo W : World} {h0 FB CB n cc : Nat} {f : Fn} {pv : Value} {ca : Option Addr} (h : CpJ h0 Wo W FB CB f pv ca n cc) : RowN (fun k => k < W.heap.size ∧ (k < h0 ∨ Wo.heap.size ≤ k)) Wo.heap.size W (f, pv, .slice ca n cc) := by
 intro hne
 have hn : 0 < n := by
  rcases Nat.eq_zero_or_pos n with hz | hz
  ·exact absurd (List.eq_nil_of_length_eq_zero (by rw [h.len]; exact hz)) hne
  ·exact hz
 obtain ⟨r1, ⟨cur, r2⟩, r3⟩ := h.row hn;refine ⟨CB, cc, by rw [r1, h.len], h.ge, ⟨xheap_lt r2, .inr h.ge⟩, fun hl b o s k c e => (h.par.2 hl b o s k c e).2, fun m x hx => ((r3.insW r2) m x hx).mono (fun k q => ⟨⟨q.1, q.2.1⟩, q.2.2⟩)⟩
structure CpIn (h0 : Nat) (w W : World) (QB : Nat) (gv fv : Value) (main : Int) (globals : List Int) (rows : List (Fn × Value × Value)) : Prop extends CpI h0 w W QB gv fv main globals rows where
 nw : ∀ r ∈ rows, RowN (fun k => k < W.heap.size ∧ k ≠ QB ∧ fv.ownBlock ≠ some k ∧ (k < h0 ∨ w.heap.size ≤ k)) w.heap.size W r
theorem CpIn.step {w Wo W w3 : World} {h0 QB FB CB n cc g cap : Nat} {gv fv pv : Value} {ca : Option Addr} {main : Int} {globals : List Int} {rows : List (Fn × Value × Value)} {f : Fn} {o : Obj} (h : CpIn h0 w Wo QB gv fv main globals rows) (j : CpJ h0 Wo W FB CB f pv ca n cc)
  (hl : f.code.length * 88 ≤ 140737488355328) (hnm : f.name.size ≤ 140737488355328)
  (ho : w3.ownsRow w.heap.size 25 6 (.slice (some ⟨g, 0, none⟩) (rows.length + 1) cap) (rows.length + 1) (rows.flatMap fnC ++ fnC (f, pv, .slice ca n cc))) (hg : (W.alloc o).grownBy w3 fv.ownBlock) (hat : fv.ownBlock = some g ∨ g = W.heap.size + 1) :
  CpIn h0 w (w3.setCell ⟨QB, 1, none⟩ (.slice (some ⟨g, 0, none⟩) (rows.length + 1) cap)) QB gv (.slice (some ⟨g, 0, none⟩) (rows.length + 1) cap) main globals (rows ++ [(f, pv, .slice ca n cc)]) := by
 refine ⟨CpI.step h.toCpI j hl hnm ho hg hat, ?_⟩;have s1 := h.bel.size;have s2 := j.bel.size;have s3 := hg.size;rw [World.size_alloc] at s3;have hrow : ∀ k, fv.ownBlock = some k → k < Wo.heap.size ∧ w.heap.size ≤ k := fun k hk => xrow_lt h.own hk
 have hold : ∀ k, k < W.heap.size → fv.ownBlock ≠ some k → k ≠ QB → (w3.setCell ⟨QB, 1, none⟩ (.slice (some ⟨g, 0, none⟩) (rows.length + 1) cap)).heap[k]? = W.heap[k]? := fun k h1 h2 h3 => by
  rw [xheap_set_other h3, hg.block k (by rw [World.size_alloc]; omega) (Ne.symm h2), Below.heap_alloc W o k h1]
 have hgn : ∀ k, k < W.heap.size → fv.ownBlock ≠ some k → g ≠ k := fun k h1 h2 => by
  rcases hat with e | e
  ·intro e2; rw [e2] at e; exact h2 e
  ·omega
 have hm : ∀ k, (k < W.heap.size ∧ k ≠ QB ∧ fv.ownBlock ≠ some k ∧ (k < h0 ∨ w.heap.size ≤ k)) → k < (w3.setCell ⟨QB, 1, none⟩ (.slice (some ⟨g, 0, none⟩) (rows.length + 1) cap)).heap.size ∧ k ≠ QB ∧ (Value.slice (some ⟨g, 0, none⟩) (rows.length + 1) cap).ownBlock ≠ some k ∧ (k < h0 ∨ w.heap.size ≤ k) := fun k hk =>
  ⟨by rw [xsize_set]; omega, hk.2.1, by simp only [Value.ownBlock, ne_eq, Option.some.injEq]; exact hgn k hk.1 hk.2.2.1, hk.2.2.2⟩
 intro r hr
 rcases List.mem_append.1 hr with hr | hr
 ·refine ((h.nw r hr).keep (W' := W) (R := fun k => k < W.heap.size ∧ k ≠ QB ∧ fv.ownBlock ≠ some k ∧ (k < h0 ∨ w.heap.size ≤ k)) (fun k q => j.bel.block k q.1) (fun k q => ⟨by omega, q.2⟩)).keep (fun k q => hold k q.1 q.2.2.1 q.2.1) hm
 ·cases List.mem_singleton.1 hr
  have hj := j.rown.keep (W' := W) (R := fun k => k < W.heap.size ∧ k ≠ QB ∧ fv.ownBlock ≠ some k ∧ (k < h0 ∨ w.heap.size ≤ k)) (fun _ _ => rfl) (fun k q => ⟨q.1, by have := xheap_lt h.box; have := h.ge; have := h.le; omega, (fun e => by have := hrow k e; have := h.le; omega), by omega⟩);have hj2 := hj.keep (fun k q => hold k q.1 q.2.2.1 q.2.1) hm;intro hne;obtain ⟨CB, cap, h1, h2, h3⟩ := hj2 hne;exact ⟨CB, cap, h1, by omega, h3⟩
def retPg1 (f : Fn) (w : World) : Ending → World → Prop := fun e W => ∃ gv g cap mv pv cv, e = .returned (.agg #[gv, .slice (some ⟨g, 0, none⟩) 1 cap, mv]) ∧ IL W pv f.params ∧ CodeAt W cv f.code ∧ RowN (fun k => k < W.heap.size) w.heap.size W (f, pv, cv) ∧ (∀ j u, j < 6 → (fnC (f, pv, cv))[j]? = some u → W.cell? ⟨g, j, none⟩ = some u) ∧ Below w.heap.size w W
theorem CpIn.one {w0 w W W' : World} {h0 QB : Nat} {gv fv : Value} {f : Fn} {main : Int} {globals : List Int} {rows : List (Fn × Value × Value)} (h : CpIn h0 w W QB gv fv main globals rows) (hm : rows.map (·.1) = [f]) (hk : ∀ k, (k < h0 ∨ w.heap.size ≤ k) → W'.heap[k]? = W.heap[k]?) (hs : W'.heap.size = W.heap.size) (hw : w0.heap.size ≤ w.heap.size) (hb : Below w0.heap.size w0 W') (mv : Value) : retPg1 f w0 (.returned (.agg #[gv, fv, mv])) W' := by
 match rows, hm with
 | [(f', pv, cv)], hm =>
  have e : f' = f := by simpa using hm
  subst e;have hkc : Kc (fun k => k < W.heap.size ∧ k ≠ QB ∧ fv.ownBlock ≠ some k ∧ (k < h0 ∨ w.heap.size ≤ k)) W W' := fun q u hq hc => by rw [World.cell?_of_block (hk _ hq.2.2.2)]; exact hc
  have hf := (h.fns.keep hkc) (f', pv, cv) (by simp);have ho := xowns_of_heap (w' := W') h.own (fun b hb => hk b (.inr (xrow_lt h.own hb).2));have hn := (h.nw (f', pv, cv) (by simp)).keep (W' := W') (R := fun k => k < W'.heap.size) (fun k q => hk k q.2.2.2) (fun k q => by rw [hs]; exact q.1)
  rcases ho.2 with ⟨_, h2⟩ | ⟨g, cap, cur, h1, h2, h3⟩
  ·simp at h2
  ·refine ⟨gv, g, cap, mv, pv, cv, by rw [h1]; rfl, hf.1.1, hf.2.1.at, ?_, fun j u hj hu => ?_, hb⟩
   ·intro hne
    obtain ⟨CB, cap, q1, q2, q3⟩ := hn hne;exact ⟨CB, cap, q1, by omega, q3⟩
   ·have := ho.cells (g := g) (by rw [h1]; rfl) j u (by simpa using hu)
    rw [show (⟨g, 0, none⟩ : Addr).add j = ⟨g, 0 + j, none⟩ from Addr.add_mid _ _ _, Nat.zero_add] at this;exact this
end Go.Proofs.YtncondlfngeilaaGreatDoor
