import Derived.Test.YtlonbaefdffbeaaGreatDoorALeaf5
namespace Go.Proofs.YtlonbaefdffbeaaGreatDoor
open Go.ChangeShapes Go.WideShapes Go.ChangeAt Go.RowKit
set_option linter.unusedSimpArgs false
set_option linter.unusedVariables false

structure Sh where
 base : ByteArray
 stars : Int
 isList : Bool
 count : Int
def noSh : Sh := ⟨⟨#[]⟩, 0, false, 0⟩
structure ND where
 k : Int
 al : Int
 ac : Int
 name : ByteArray
 op : ByteArray
 n : Int
 ty : Sh
 pub : Bool
 sr : Int
inductive Tr where
 | mk (d : ND) (ps : List Tr) (h : Int)
def Tr.h : Tr → Int
 | .mk _ _ h => h
def Tr.d : Tr → ND
 | .mk d _ _ => d
def Tr.ps : Tr → List Tr
 | .mk _ ps _ => ps
def nodeCells (d : ND) (v : Value) (h : Int) : Array Value :=
 #[.int .i64 d.k, .int .i64 d.al, .int .i64 d.ac, .string d.name, .string d.op, .int .i64 d.n, .string d.ty.base, .int .i64 d.ty.stars, .bool d.ty.isList, .int .i64 d.ty.count, .bool d.pub, v, .int .i64 d.sr, .int .i64 h]
inductive TreeAt (W : World) (lo hi : Nat) : Tr → Nat → Prop where
 | mk (d : ND) (ps : List Tr) (h : Int) (b : Nat) (bs : List Nat) (a : Option Addr) (cap : Nat) (hlo : lo ≤ b) (hhi : b < hi) (blk : W.heap[b]? = some (.cells (nodeCells d (.slice a ps.length cap) h) 87 (0, 0)))
   (hcap : ps.length ≤ cap) (hrow : ps ≠ [] → ∃ g, a = some ⟨g, 0, none⟩ ∧ lo ≤ g ∧ g < hi ∧ ∀ (i : Nat) (x : Nat), bs[i]? = some x → W.cell? ⟨g, i, none⟩ = some (.pointer (some ⟨x, 0, none⟩)))
   (hl : bs.length = ps.length) (sub : ∀ (i : Nat) (t : Tr) (x : Nat), ps[i]? = some t → bs[i]? = some x → TreeAt W lo hi t x) : TreeAt W lo hi (.mk d ps h) b
structure RowAt (W : World) (lo hi : Nat) (a : Option Addr) (cap : Nat) (ps : List Tr) (bs : List Nat) : Prop where
 hcap : ps.length ≤ cap
 hrow : ps ≠ [] → ∃ g, a = some ⟨g, 0, none⟩ ∧ lo ≤ g ∧ g < hi ∧ ∀ (i : Nat) (x : Nat), bs[i]? = some x → W.cell? ⟨g, i, none⟩ = some (.pointer (some ⟨x, 0, none⟩))
 hl : bs.length = ps.length
 sub : ∀ (i : Nat) (t : Tr) (x : Nat), ps[i]? = some t → bs[i]? = some x → TreeAt W lo hi t x
theorem TreeAt.keep {W W' : World} {lo hi : Nat} (hb : ∀ k, lo ≤ k → k < hi → W'.heap[k]? = W.heap[k]?) {t : Tr} {b : Nat} (h : TreeAt W lo hi t b) : TreeAt W' lo hi t b := by
 induction h with
 | mk d ps h b bs a cap hlo hhi blk hcap hrow hl sub ih =>
  refine .mk d ps h b bs a cap hlo hhi ((hb b hlo hhi).trans blk) hcap (fun hne => ?_) hl ih;obtain ⟨g, h1, h2, h3, h4⟩ := hrow hne;exact ⟨g, h1, h2, h3, fun i x hx => (World.cell?_of_block (hb g h2 h3)).trans (h4 i x hx)⟩
theorem TreeAt.mono {W : World} {lo hi lo' hi' : Nat} (h1 : lo' ≤ lo) (h2 : hi ≤ hi') {t : Tr} {b : Nat} (h : TreeAt W lo hi t b) : TreeAt W lo' hi' t b := by
 induction h with
 | mk d ps h b bs a cap hlo hhi blk hcap hrow hl sub ih =>
  refine .mk d ps h b bs a cap (by omega) (by omega) blk hcap (fun hne => ?_) hl ih;obtain ⟨g, h1, h2, h3, h4⟩ := hrow hne;exact ⟨g, h1, by omega, by omega, h4⟩
theorem RowAt.keep {W W' : World} {lo hi : Nat} {a : Option Addr} {cap : Nat} {ps : List Tr} {bs : List Nat} (h : RowAt W lo hi a cap ps bs) (hb : ∀ k, lo ≤ k → k < hi → W'.heap[k]? = W.heap[k]?) : RowAt W' lo hi a cap ps bs :=
 ⟨h.hcap, fun hne => match h.hrow hne with
  | ⟨g, h1, h2, h3, h4⟩ => ⟨g, h1, h2, h3, fun i x hx => (World.cell?_of_block (hb g h2 h3)).trans (h4 i x hx)⟩, h.hl, fun i t x ht hx => (h.sub i t x ht hx).keep hb⟩
theorem RowAt.mono {W : World} {lo hi lo' hi' : Nat} {a : Option Addr} {cap : Nat} {ps : List Tr} {bs : List Nat} (h : RowAt W lo hi a cap ps bs) (h1 : lo' ≤ lo) (h2 : hi ≤ hi') : RowAt W lo' hi' a cap ps bs :=
 ⟨h.hcap, fun hne => match h.hrow hne with
  | ⟨g, e1, e2, e3, e4⟩ => ⟨g, e1, by omega, by omega, e4⟩, h.hl, fun i t x ht hx => (h.sub i t x ht hx).mono h1 h2⟩
theorem RowAt.tree {W : World} {lo hi : Nat} {a : Option Addr} {cap : Nat} {ps : List Tr} {bs : List Nat} (h : RowAt W lo hi a cap ps bs) {d : ND} {ht : Int} {b : Nat} (hlo : lo ≤ b) (hhi : b < hi) (blk : W.heap[b]? = some (.cells (nodeCells d (.slice a ps.length cap) ht) 87 (0, 0))) : TreeAt W lo hi (.mk d ps ht) b :=
 .mk d ps ht b bs a cap hlo hhi blk h.hcap h.hrow h.hl h.sub
theorem TreeAt.row {W : World} {lo hi : Nat} {t : Tr} {b : Nat} (h : TreeAt W lo hi t b) : ∃ a cap bs, W.heap[b]? = some (.cells (nodeCells t.d (.slice a t.ps.length cap) t.h) 87 (0, 0)) ∧ RowAt W lo hi a cap t.ps bs ∧ lo ≤ b ∧ b < hi := by
 cases h with
 | mk d ps h b bs a cap hlo hhi blk hcap hrow hl sub => exact ⟨a, cap, bs, blk, ⟨hcap, hrow, hl, sub⟩, hlo, hhi⟩
theorem TreeAt.chg {PB : Nat} {w W : World} {lo hi : Nat} {t : Tr} {b : Nat} (h : TreeAt w lo hi t b) (hc : Chg PB w W) (hp : PB < lo) (hh : hi ≤ w.heap.size) : TreeAt W lo hi t b := h.keep (fun k h1 h2 => hc.block k (by omega) (by omega))
theorem RowAt.chg {PB : Nat} {w W : World} {lo hi : Nat} {a : Option Addr} {cap : Nat} {ps : List Tr} {bs : List Nat} (h : RowAt w lo hi a cap ps bs) (hc : Chg PB w W) (hp : PB < lo) (hh : hi ≤ w.heap.size) : RowAt W lo hi a cap ps bs := h.keep (fun k h1 h2 => hc.block k (by omega) (by omega))
theorem RowAt.nil (W : World) (lo hi : Nat) (a : Option Addr) (cap : Nat) : RowAt W lo hi a cap [] [] := ⟨Nat.zero_le _, fun h => absurd rfl h, rfl, fun i t x h => by simp at h⟩
def Top (W : World) (lo : Nat) (t : Tr) (b : Nat) : Prop := ∃ a cap bs, W.heap[b]? = some (.cells (nodeCells t.d (.slice a t.ps.length cap) t.h) 87 (0, 0)) ∧ RowAt W lo b a cap t.ps bs ∧ lo ≤ b
theorem Top.tree {W : World} {lo : Nat} {t : Tr} {b : Nat} (h : Top W lo t b) : TreeAt W lo W.heap.size t b := by
 obtain ⟨a, cap, bs, h1, h2, h3⟩ := h;have hb := (zge h1).1
 cases t with
 | mk d ps hh => exact (h2.mono (Nat.le_refl _) (Nat.le_of_lt hb)).tree h3 hb h1
theorem Top.le {W : World} {lo : Nat} {t : Tr} {b : Nat} (h : Top W lo t b) : lo ≤ b ∧ b < W.heap.size := by
 obtain ⟨a, cap, bs, h1, h2, h3⟩ := h;exact ⟨h3, (zge h1).1⟩
theorem Top.mono {W : World} {lo lo' : Nat} {t : Tr} {b : Nat} (h : Top W lo t b) (hl : lo' ≤ lo) : Top W lo' t b := by
 obtain ⟨a, cap, bs, h1, h2, h3⟩ := h;exact ⟨a, cap, bs, h1, h2.mono hl (Nat.le_refl _), by omega⟩
theorem Top.keep {W W' : World} {lo : Nat} {t : Tr} {b : Nat} (h : Top W lo t b) (hb : ∀ k, lo ≤ k → k ≤ b → W'.heap[k]? = W.heap[k]?) : Top W' lo t b := by
 obtain ⟨a, cap, bs, h1, h2, h3⟩ := h;exact ⟨a, cap, bs, (hb b h3 (Nat.le_refl _)).trans h1, h2.keep (fun k k1 k2 => hb k k1 (by omega)), h3⟩
theorem Top.chg {PB : Nat} {w W : World} {lo : Nat} {t : Tr} {b : Nat} (h : Top w lo t b) (hc : Chg PB w W) (hp : PB < lo) : Top W lo t b :=
 h.keep (fun k k1 k2 => hc.block k (by have := h.le; omega) (by omega))
def highF (h al ac : Int) (s : PSt) : PSt := if 200 < h then failF 2 al ac s else s
structure Chg2 (PB b : Nat) (w W : World) : Prop where
 os : W.os = w.os
 tape : W.tape = w.tape
 output : W.output = w.output
 size : w.heap.size ≤ W.heap.size
 block : ∀ k, k < w.heap.size → k ≠ PB → k ≠ b → W.heap[k]? = w.heap[k]?
theorem Chg2.chg {PB b : Nat} {w0 w W : World} (h : Chg2 PB b w W) (hc : Chg PB w0 w) (hb : w0.heap.size ≤ b) : Chg PB w0 W :=
 ⟨h.os.trans hc.os, h.tape.trans hc.tape, h.output.trans hc.output, Nat.le_trans hc.size h.size, fun k h1 h2 => (h.block k (by have := hc.size; omega) h2 (by omega)).trans (hc.block k h1 h2)⟩
theorem nc0 {W : World} {x : Nat} {d : ND} {v : Value} {h : Int} {t : TypeId} {fr : Nat × Nat} (hz : W.heap[x]? = some (.cells (nodeCells d v h) t fr)) : W.cell? ⟨x, 0, none⟩ = some (.int .i64 d.k) := heap_cell hz (by simp [nodeCells])
theorem nc1 {W : World} {x : Nat} {d : ND} {v : Value} {h : Int} {t : TypeId} {fr : Nat × Nat} (hz : W.heap[x]? = some (.cells (nodeCells d v h) t fr)) : W.cell? ⟨x, 1, none⟩ = some (.int .i64 d.al) := heap_cell hz (by simp [nodeCells])
theorem nc2 {W : World} {x : Nat} {d : ND} {v : Value} {h : Int} {t : TypeId} {fr : Nat × Nat} (hz : W.heap[x]? = some (.cells (nodeCells d v h) t fr)) : W.cell? ⟨x, 2, none⟩ = some (.int .i64 d.ac) := heap_cell hz (by simp [nodeCells])
theorem nc3 {W : World} {x : Nat} {d : ND} {v : Value} {h : Int} {t : TypeId} {fr : Nat × Nat} (hz : W.heap[x]? = some (.cells (nodeCells d v h) t fr)) : W.cell? ⟨x, 3, none⟩ = some (.string d.name) := heap_cell hz (by simp [nodeCells])
theorem nc4 {W : World} {x : Nat} {d : ND} {v : Value} {h : Int} {t : TypeId} {fr : Nat × Nat} (hz : W.heap[x]? = some (.cells (nodeCells d v h) t fr)) : W.cell? ⟨x, 4, none⟩ = some (.string d.op) := heap_cell hz (by simp [nodeCells])
theorem nc5 {W : World} {x : Nat} {d : ND} {v : Value} {h : Int} {t : TypeId} {fr : Nat × Nat} (hz : W.heap[x]? = some (.cells (nodeCells d v h) t fr)) : W.cell? ⟨x, 5, none⟩ = some (.int .i64 d.n) := heap_cell hz (by simp [nodeCells])
theorem nc6 {W : World} {x : Nat} {d : ND} {v : Value} {h : Int} {t : TypeId} {fr : Nat × Nat} (hz : W.heap[x]? = some (.cells (nodeCells d v h) t fr)) : W.cell? ⟨x, 6, none⟩ = some (.string d.ty.base) := heap_cell hz (by simp [nodeCells])
theorem nc7 {W : World} {x : Nat} {d : ND} {v : Value} {h : Int} {t : TypeId} {fr : Nat × Nat} (hz : W.heap[x]? = some (.cells (nodeCells d v h) t fr)) : W.cell? ⟨x, 7, none⟩ = some (.int .i64 d.ty.stars) := heap_cell hz (by simp [nodeCells])
theorem nc8 {W : World} {x : Nat} {d : ND} {v : Value} {h : Int} {t : TypeId} {fr : Nat × Nat} (hz : W.heap[x]? = some (.cells (nodeCells d v h) t fr)) : W.cell? ⟨x, 8, none⟩ = some (.bool d.ty.isList) := heap_cell hz (by simp [nodeCells])
theorem nc9 {W : World} {x : Nat} {d : ND} {v : Value} {h : Int} {t : TypeId} {fr : Nat × Nat} (hz : W.heap[x]? = some (.cells (nodeCells d v h) t fr)) : W.cell? ⟨x, 9, none⟩ = some (.int .i64 d.ty.count) := heap_cell hz (by simp [nodeCells])
theorem nc10 {W : World} {x : Nat} {d : ND} {v : Value} {h : Int} {t : TypeId} {fr : Nat × Nat} (hz : W.heap[x]? = some (.cells (nodeCells d v h) t fr)) : W.cell? ⟨x, 10, none⟩ = some (.bool d.pub) := heap_cell hz (by simp [nodeCells])
theorem nc11 {W : World} {x : Nat} {d : ND} {v : Value} {h : Int} {t : TypeId} {fr : Nat × Nat} (hz : W.heap[x]? = some (.cells (nodeCells d v h) t fr)) : W.cell? ⟨x, 11, none⟩ = some (v) := heap_cell hz (by simp [nodeCells])
end Go.Proofs.YtlonbaefdffbeaaGreatDoor
