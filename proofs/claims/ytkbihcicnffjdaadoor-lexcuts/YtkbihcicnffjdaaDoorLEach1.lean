/- Each: one round of its inner loop. -/
import Derived.Test.YtkbihcicnffjdaaDoorLWords2
namespace Go.Proofs.YtkbihcicnffjdaaDoor
open Go.ChangeShapes Go.WideShapes Go.ChangeAt Go.RowKit Go.Shelf
set_option linter.unusedSimpArgs false
set_option linter.unusedVariables false

attribute [local go_sem] Oper.semAt_some
set_option maxHeartbeats 1000000 in
theorem each_any (t : ByteArray) (w : World) : Calls Tryd.prog 11 #[.string t] w fun e w' => e = .returned (.func (.func 20) #[] #[.pointer (some ⟨w.heap.size, 0, none⟩)]) ∧ w' = w.alloc (.cells #[.string t] 9) := by
  go_enter Tryd.func11, Tryd.ntmps11
  go_wp2
  go_ret
  exact ⟨rfl, rfl⟩
noncomputable def eAssign : Code := ((Tryd.f20.body.bind rangeOf).map (·.2.1)).getD .skip
noncomputable def eBody : Code := ((Tryd.f20.body.bind rangeOf).map (·.2.2)).getD .skip
/-- What lies from H on is as it was. -/
structure KeepsUp (H : Nat) (w w' : World) : Prop where
  size : w.heap.size ≤ w'.heap.size
  block : ∀ k, H ≤ k → k < w.heap.size → w'.heap[k]? = w.heap[k]?
set_option maxRecDepth 100000 in
set_option maxHeartbeats 2000000 in
theorem each_round (l0 l yb d q : Nat) (fn : FuncId) (k n pl pc : Int) (s : ByteArray) (z0z z1z z3z z4z z5z z6z z7z z8z z9z z10z z11z z12z z13z z14z z15z z16z z17z : Value) (W : World) (R R0 : Ending → World → Prop)
    (hl : W.heap[l]? = some (.loop (loopRec fn #[z0z, z1z, .pointer (some ⟨yb, 0, none⟩), z3z, z4z, z5z, z6z, z7z, z8z, z9z, z10z, z11z, z12z, z13z, z14z, z15z, z16z, z17z] #[11, 12] eAssign eBody d))) (hy : W.cell? ⟨yb, 0, none⟩ = some (.func (.yield l0) #[] #[])) (hly : yb ≠ l)
    (HY : Hid (∀ W1, (∀ j, j < W.heap.size → j ≠ l → W1.heap[j]? = W.heap[j]?) → W1.heap[l]? = some (.loop { state := .busy, pending := none, fn := fn, tmps := #[z0z, z1z, .pointer (some ⟨yb, 0, none⟩), z3z, z4z, z5z, z6z, z7z, z8z, z9z, z10z, z11z, z12z, z13z, z14z, z15z, z16z, z17z], params := #[11, 12], assign := eAssign, body := eBody, defers := d }) → W.heap.size ≤ W1.heap.size → W1.os = W.os → W1.tape = W.tape → W1.output = W.output →
      YieldAt Fence.wide 0 Tryd.prog l0 #[.int .i64 q, .agg #[.int .i64 k, .string s, .int .i64 n, .int .i64 pl, .int .i64 pc]] W1 R0))
    (HR : Hid (∀ e W', R0 e W' → ∃ b, e = .returned (.bool b) ∧ W'.heap[l]? = some (.loop { state := .busy, pending := none, fn := fn, tmps := #[z0z, z1z, .pointer (some ⟨yb, 0, none⟩), z3z, z4z, z5z, z6z, z7z, z8z, z9z, z10z, z11z, z12z, z13z, z14z, z15z, z16z, z17z], params := #[11, 12], assign := eAssign, body := eBody, defers := d })))
    (HT : Hid (∀ W', R0 (.returned (.bool true)) W' → R (.returned (.bool true)) (W'.putObj l (.loop (loopRec fn #[z0z, z1z, .pointer (some ⟨yb, 0, none⟩), z3z, z4z, z5z, z6z, z7z, z8z, z9z, z10z, z11z, z12z, z13z, z14z, z15z, z16z, z17z] #[11, 12] eAssign eBody d)))))
    (HF : Hid (∀ W', R0 (.returned (.bool false)) W' → R (.returned (.bool false)) (W'.putObj l (.loop { state := .done, pending := some .ret, fn := fn, tmps := #[z0z, z1z, .pointer (some ⟨yb, 0, none⟩), z3z, z4z, z5z, z6z, z7z, z8z, z9z, z10z, z11z, z12z, z13z, z14z, z15z, z16z, z17z], params := #[11, 12], assign := eAssign, body := eBody, defers := d })))) :
    YieldAt Fence.wide 0 Tryd.prog l #[.int .i64 q, .agg #[.int .i64 k, .string s, .int .i64 n, .int .i64 pl, .int .i64 pc]] W R := by
  refine yield_round hl rfl rfl trivial ?_
  simp only [loopRec]
  conv => arg 4; whnf
  gi_wp2
  refine ⟨(Below.heap_alloc W _ l (Array.getElem?_eq_some_iff.1 hl).1).trans hl, ?_⟩
  conv => arg 4; whnf
  obtain ⟨W1, hW1⟩ : ∃ W1, (W.alloc (.cells #[.int .i64 k, .string s, .int .i64 n, .int .i64 pl, .int .i64 pc] 30)).putObj l (.loop { state := .busy, pending := none, fn := fn, tmps := #[z0z, z1z, .pointer (some ⟨yb, 0, none⟩), z3z, z4z, z5z, z6z, z7z, z8z, z9z, z10z, z11z, z12z, z13z, z14z, z15z, z16z, z17z], params := #[11, 12], assign := eAssign, body := eBody, defers := d }) = W1 := ⟨_, rfl⟩
  have ll : l < W.heap.size := (Array.getElem?_eq_some_iff.1 hl).1
  have HB1 : Hid (∀ k, k < W.heap.size → k ≠ l → W1.heap[k]? = W.heap[k]?) := fun k hk hn => by
    rw [← hW1, World.putObj_heap_other hn]
    exact Below.heap_alloc W _ k hk
  have s1 : W1.heap.size = W.heap.size + 1 := by rw [← hW1]; simp
  have n1 : W1.heap[W.heap.size]? = some (.cells #[.int .i64 k, .string s, .int .i64 n, .int .i64 pl, .int .i64 pc] 30 (0, 0)) := by
    rw [← hW1, World.putObj_heap_other (by omega)]
    exact World.alloc_heap_new W _
  have l1 : W1.heap[l]? = some (.loop { state := .busy, pending := none, fn := fn, tmps := #[z0z, z1z, .pointer (some ⟨yb, 0, none⟩), z3z, z4z, z5z, z6z, z7z, z8z, z9z, z10z, z11z, z12z, z13z, z14z, z15z, z16z, z17z], params := #[11, 12], assign := eAssign, body := eBody, defers := d }) := by
    rw [← hW1]
    exact World.putObj_heap_same (by simp; omega)
  have HS1 : Hid (W1.os = W.os ∧ W1.tape = W.tape ∧ W1.output = W.output) := by rw [← hW1]; exact ⟨rfl, rfl, rfl⟩
  rw [hW1]
  clear hW1
  have cy : W1.cell? ⟨yb, 0, none⟩ = some (.func (.yield l0) #[] #[]) := (World.cell?_of_block (HB1.out yb (block_lt_of_cell hy) hly)).trans hy
  have a0 : W1.cell? ⟨W.heap.size, 0, none⟩ = some (.int .i64 k) := heap_cell n1 (by simp)
  have a1 : W1.cell? ⟨W.heap.size, 1, none⟩ = some (.string s) := heap_cell n1 (by simp)
  have a2 : W1.cell? ⟨W.heap.size, 2, none⟩ = some (.int .i64 n) := heap_cell n1 (by simp)
  have a3 : W1.cell? ⟨W.heap.size, 3, none⟩ = some (.int .i64 pl) := heap_cell n1 (by simp)
  have a4 : W1.cell? ⟨W.heap.size, 4, none⟩ = some (.int .i64 pc) := heap_cell n1 (by simp)
  obtain ⟨fn', tmps', assign', body', hyy, hRR⟩ := HY.out W1 HB1.out l1 (by omega) HS1.out.1 HS1.out.2.1 HS1.out.2.2
  clear s1 n1 l1
  gi_wp2
  refine ⟨rfl, RoundIn.mono (F := Fence.wide) hRR ?_⟩
  intro e W2 h2
  obtain ⟨b, rfl, hb⟩ := HR.out e W2 h2
  cases b
  · gi_wp2
    exact ⟨hb, HF.out W2 h2⟩
  · gi_wp2
    exact ⟨hb, HT.out W2 h2⟩
end Go.Proofs.YtkbihcicnffjdaaDoor

