/- awake: one round of its loop. -/
import Derived.Test.YtkbihcicnffjdaaDoorLEval
namespace Go.Proofs.YtkbihcicnffjdaaDoor
open Go.ChangeShapes Go.WideShapes Go.ChangeAt Go.RowKit Go.Shelf
set_option linter.unusedSimpArgs false
set_option linter.unusedVariables false

attribute [local go_sem] Oper.semAt_some
noncomputable def aAssign : Code := ((Tryd.f8.body.bind rangeOf).map (·.2.1)).getD .skip
noncomputable def aBody : Code := ((Tryd.f8.body.bind rangeOf).map (·.2.2)).getD .skip
set_option maxRecDepth 100000 in
set_option maxHeartbeats 2000000 in
theorem aw_round (l nb d q : Nat) (fn : FuncId) (n pl pc : Int) (s : ByteArray) (z0z z1z z2z z3z z5z z6z z7z z8z z9z z10z z11z z12z z13z z14z z15z z16z z17z z18z z19z z20z z21z z22z z23z z24z z25z z26z z27z z28z z29z z30z z31z z32z z33z z34z z35z z36z z37z z38z z39z z40z z41z z42z z43z z44z z45z z46z z47z z48z z49z z50z z51z z52z z53z z54z z55z z56z z57z z58z z59z z60z : Value) (W : World) (R : Ending → World → Prop)
    (hl : W.heap[l]? = some (.loop (loopRec fn #[z0z, z1z, z2z, z3z, .pointer (some ⟨nb, 0, none⟩), z5z, z6z, z7z, z8z, z9z, z10z, z11z, z12z, z13z, z14z, z15z, z16z, z17z, z18z, z19z, z20z, z21z, z22z, z23z, z24z, z25z, z26z, z27z, z28z, z29z, z30z, z31z, z32z, z33z, z34z, z35z, z36z, z37z, z38z, z39z, z40z, z41z, z42z, z43z, z44z, z45z, z46z, z47z, z48z, z49z, z50z, z51z, z52z, z53z, z54z, z55z, z56z, z57z, z58z, z59z, z60z] #[24, 25] aAssign aBody d))) (hv : Boxed W nb 3 (.int .i64 q)) (hlv : l ≠ nb) (hq : q ≤ 65536)
    (HK : Hid (∀ W', Boxed W' nb 3 (.int .i64 ((q : Int) + 1)) → (∀ j, j < W.heap.size → j ≠ nb → W'.heap[j]? = W.heap[j]?) → W.heap.size ≤ W'.heap.size → W'.os = W.os → W'.tape = W.tape → W'.output = W.output → R (.returned (.bool true)) W')) :
    YieldAt Fence.wide 0 Tryd.prog l #[.int .i64 q, .agg #[.int .i64 1, .string s, .int .i64 n, .int .i64 pl, .int .i64 pc]] W R := by
  refine yield_round hl rfl rfl trivial ?_
  simp only [loopRec]
  conv => arg 4; whnf
  gi_wp2
  refine ⟨(Below.heap_alloc W _ l (Array.getElem?_eq_some_iff.1 hl).1).trans hl, ?_⟩
  conv => arg 4; whnf
  obtain ⟨W1, hW1⟩ : ∃ W1, (W.alloc (.cells #[.int .i64 1, .string s, .int .i64 n, .int .i64 pl, .int .i64 pc] 30)).putObj l (.loop { state := .busy, pending := none, fn := fn, tmps := #[z0z, z1z, z2z, z3z, .pointer (some ⟨nb, 0, none⟩), z5z, z6z, z7z, z8z, z9z, z10z, z11z, z12z, z13z, z14z, z15z, z16z, z17z, z18z, z19z, z20z, z21z, z22z, z23z, z24z, z25z, z26z, z27z, z28z, z29z, z30z, z31z, z32z, z33z, z34z, z35z, z36z, z37z, z38z, z39z, z40z, z41z, z42z, z43z, z44z, z45z, z46z, z47z, z48z, z49z, z50z, z51z, z52z, z53z, z54z, z55z, z56z, z57z, z58z, z59z, z60z], params := #[24, 25], assign := aAssign, body := aBody, defers := d }) = W1 := ⟨_, rfl⟩
  have ll : l < W.heap.size := (Array.getElem?_eq_some_iff.1 hl).1
  have HB1 : Hid (∀ k, k < W.heap.size → k ≠ l → W1.heap[k]? = W.heap[k]?) := fun k hk hn => by
    rw [← hW1, World.putObj_heap_other hn]
    exact Below.heap_alloc W _ k hk
  have s1 : W1.heap.size = W.heap.size + 1 := by rw [← hW1]; simp
  have n1 : W1.heap[W.heap.size]? = some (.cells #[.int .i64 1, .string s, .int .i64 n, .int .i64 pl, .int .i64 pc] 30 (0, 0)) := by
    rw [← hW1, World.putObj_heap_other (by omega)]
    exact World.alloc_heap_new W _
  have l1 : W1.heap[l]? = some (.loop { state := .busy, pending := none, fn := fn, tmps := #[z0z, z1z, z2z, z3z, .pointer (some ⟨nb, 0, none⟩), z5z, z6z, z7z, z8z, z9z, z10z, z11z, z12z, z13z, z14z, z15z, z16z, z17z, z18z, z19z, z20z, z21z, z22z, z23z, z24z, z25z, z26z, z27z, z28z, z29z, z30z, z31z, z32z, z33z, z34z, z35z, z36z, z37z, z38z, z39z, z40z, z41z, z42z, z43z, z44z, z45z, z46z, z47z, z48z, z49z, z50z, z51z, z52z, z53z, z54z, z55z, z56z, z57z, z58z, z59z, z60z], params := #[24, 25], assign := aAssign, body := aBody, defers := d }) := by
    rw [← hW1]
    exact World.putObj_heap_same (by simp; omega)
  have v1 : Boxed W1 nb 3 (.int .i64 q) := (HB1.out nb hv.lt (Ne.symm hlv)).trans hv
  have HS1 : Hid (W1.os = W.os ∧ W1.tape = W.tape ∧ W1.output = W.output) := by rw [← hW1]; exact ⟨rfl, rfl, rfl⟩
  rw [hW1]
  clear hW1
  have cv := v1.cell
  have fv := v1.frozen
  have a0 : W1.cell? ⟨W.heap.size, 0, none⟩ = some (.int .i64 1) := heap_cell n1 (by simp)
  have q0 : (0 : Int) ≤ (q : Int) := by omega
  have q1 : (q : Int) ≤ 65536 := by omega
  gi_wp2
  have ll2 : l < W1.heap.size := by omega
  refine ⟨(heap_set_other hlv).trans l1, ?_⟩
  refine HK.out _ ?_ ?_ ?_ HS1.out.1 HS1.out.2.1 HS1.out.2.2
  · exact (World.putObj_heap_other (Ne.symm hlv)).trans (v1.set _)
  · intro k hk hn
    by_cases hkl : k = l
    · subst hkl
      rw [World.putObj_heap_same (by rw [size_set]; omega)]
      exact hl.symm
    · rw [World.putObj_heap_other hkl, heap_set_other hn]
      exact HB1.out k hk hkl
  · rw [World.putObj_size, size_set]; omega
end Go.Proofs.YtkbihcicnffjdaaDoor

