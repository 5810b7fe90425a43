/- The document's own lexer: what a round of its loop meets. -/
import Derived.Test.YtkbihcicnffjdaaDoorLRefWA
import Derived.Test.YtkbihcicnffjdaaDoorLRefW9
import Derived.Test.YtkbihcicnffjdaaDoorLRefW8
import Derived.Test.YtkbihcicnffjdaaDoorLRefW8k
import Derived.Test.YtkbihcicnffjdaaDoorLRefW7b
import Derived.Test.YtkbihcicnffjdaaDoorLRefW7c
namespace Go.Proofs.YtkbihcicnffjdaaDoor
open Go.ChangeShapes Go.WideShapes Go.ChangeAt Go.RowKit
set_option linter.unusedSimpArgs false
set_option linter.unusedVariables false

theorem rest_first (t : ByteArray) (i : Nat) : byteAt (t.extract i t.size) 0 = byteAt t i := by
  have h := byte_drop t i 0 _ rfl
  rw [Nat.add_zero] at h
  rw [h]
  unfold byteAt
  rw [rest_list]
theorem run_rest (t : ByteArray) (i : Nat) : runOf (t.extract i t.size) = t.extract i (i + nameRun (t.data.toList.drop i)) := by
  apply bytes_ext
  rw [runOf_data, rest_list, ext_list, show i + nameRun (t.data.toList.drop i) - i = nameRun (t.data.toList.drop i) by omega]
theorem numOr_form (s : ByteArray) (o : Option Int) (h : (numOr s o).2 = true) : numOr s o = (⟨2, s, (numOr s o).1.n⟩, true) := by
  cases o with
  | none => cases h
  | some n => rfl
theorem numW_form (s : ByteArray) (h : (numW s).2 = true) : numW s = (⟨2, s, (numW s).1.n⟩, true) := by
  unfold numW at h ⊢
  split
  · rename_i h1
    rw [if_pos h1] at h
    split
    · rename_i h2
      rw [if_pos h2] at h
      cases h
    · rename_i h2
      rw [if_neg h2] at h
      exact numOr_form s _ h
  · rename_i h1
    rw [if_neg h1] at h
    split
    · rename_i h2
      rw [if_pos h2] at h
      cases h
    · rename_i h2
      rw [if_neg h2] at h
      exact numOr_form s _ h
theorem slash_mark (r : ByteArray) (h : byteAt r 0 = 47) (hr : 0 < r.size) : markR r ≠ none := by
  intro e
  unfold markR at e
  rw [List.find?_eq_none] at e
  have hm : (⟨#[47]⟩ : ByteArray) ∈ mkList := by simp [mkList]
  have := e _ hm
  have hp := pre1 r ⟨#[47]⟩ 47 rfl hr
  rw [h] at hp
  unfold isPre at hp
  rw [hp] at this
  exact this rfl
/-- What lies behind a fault: the place is laid down. -/
structure FaultW (H : Nat) (w1 : World) (line pc : Nat) (W : World) : Prop where
  os : W.os = w1.os
  tape : W.tape = w1.tape
  output : W.output = w1.output
  size : w1.heap.size ≤ W.heap.size
  block : ∀ k, k < w1.heap.size → k ≠ H → W.heap[k]? = w1.heap[k]?
  c0 : W.cell? ⟨H, 0, none⟩ = some (.int .i64 (line : Int))
  c1 : W.cell? ⟨H, 1, none⟩ = some (.int .i64 (pc : Int))
theorem fault_set {H : Nat} {w1 w5 : World} {line pc : Nat} (hb : Below w1.heap.size w1 w5) (r0 : w1.cell? ⟨H, 0, none⟩ = some (.int .i64 0)) (r1 : w1.cell? ⟨H, 1, none⟩ = some (.int .i64 0)) :
    FaultW H w1 line pc ((w5.setCell ⟨H, 0, none⟩ (.int .i64 (line : Int))).setCell ⟨H, 1, none⟩ (.int .i64 (pc : Int))).drew := by
  have r2 : w5.cell? ⟨H, 0, none⟩ = some (.int .i64 0) := keep_cell hb r0
  have r3 : w5.cell? ⟨H, 1, none⟩ = some (.int .i64 0) := keep_cell hb r1
  have hH : H < w1.heap.size := block_lt_of_cell r0
  have hs := hb.size
  refine ⟨hb.os, hb.tape, hb.output, ?_, ?_, ?_, ?_⟩
  · show w1.heap.size ≤ ((w5.setCell _ _).setCell _ _).heap.size
    rw [size_set, size_set]
    exact hs
  · intro k hk hn
    show ((w5.setCell _ _).setCell _ _).heap[k]? = _
    rw [heap_set_other hn, heap_set_other hn]
    exact hb.block k hk
  · go_simp
  · go_simp
theorem fault_open {H : Nat} {w1 : World} {line pc : Nat} {o : Obj} (r0 : w1.cell? ⟨H, 0, none⟩ = some (.int .i64 0)) (r1 : w1.cell? ⟨H, 1, none⟩ = some (.int .i64 0)) :
    FaultW H w1 line pc (((w1.setCell ⟨H, 0, none⟩ (.int .i64 (line : Int))).setCell ⟨H, 1, none⟩ (.int .i64 (pc : Int))).alloc o).drew := by
  have hH : H < w1.heap.size := block_lt_of_cell r0
  have h0 := fault_set (w5 := w1) (line := line) (pc := pc) (Below.refl _ _) r0 r1
  have hb : Below ((w1.setCell ⟨H, 0, none⟩ (.int .i64 (line : Int))).setCell ⟨H, 1, none⟩ (.int .i64 (pc : Int))).drew.heap.size ((w1.setCell ⟨H, 0, none⟩ (.int .i64 (line : Int))).setCell ⟨H, 1, none⟩ (.int .i64 (pc : Int))).drew (((w1.setCell ⟨H, 0, none⟩ (.int .i64 (line : Int))).setCell ⟨H, 1, none⟩ (.int .i64 (pc : Int))).alloc o).drew :=
    ((Below.refl _ ((w1.setCell ⟨H, 0, none⟩ (.int .i64 (line : Int))).setCell ⟨H, 1, none⟩ (.int .i64 (pc : Int))).drew).alloc (Nat.le_refl _) o)
  have hsz : ((w1.setCell ⟨H, 0, none⟩ (.int .i64 (line : Int))).setCell ⟨H, 1, none⟩ (.int .i64 (pc : Int))).drew.heap.size = w1.heap.size := by
    show ((w1.setCell _ _).setCell _ _).heap.size = _
    rw [size_set, size_set]
  exact ⟨hb.os.trans h0.os, hb.tape.trans h0.tape, hb.output.trans h0.output, Nat.le_trans h0.size hb.size, fun k hk hn => (hb.block k (by rw [hsz]; exact hk)).trans (h0.block k hk hn), keep_cell hb h0.c0, keep_cell hb h0.c1⟩
theorem lx_more {t : ByteArray} {pre : List (WW × Nat)} {i j : Nat} (h : lexAll t = (pre ++ (Lx t i).1, (Lx t i).2)) (e : Lx t i = Lx t j) : lexAll t = (pre ++ (Lx t j).1, (Lx t j).2) := by rw [← e]; exact h
theorem lx_word {t : ByteArray} {pre : List (WW × Nat)} {i j : Nat} {x : WW} (h : lexAll t = (pre ++ (Lx t i).1, (Lx t i).2)) (e : Lx t i = ((x, i) :: (Lx t j).1, (Lx t j).2)) : lexAll t = ((pre ++ [(x, i)]) ++ (Lx t j).1, (Lx t j).2) := by
  rw [h, e]
  simp
theorem lx_bad {t : ByteArray} {pre : List (WW × Nat)} {i : Nat} (h : lexAll t = (pre ++ (Lx t i).1, (Lx t i).2)) (e : Lx t i = ([], i)) : lexAll t = (pre, i) := by
  rw [h, e]
  simp
end Go.Proofs.YtkbihcicnffjdaaDoor
