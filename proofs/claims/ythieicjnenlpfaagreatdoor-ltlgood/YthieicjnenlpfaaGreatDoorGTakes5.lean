/- Package rtl: the walks over an instruction's registers and nodes, as a whole. -/
import Derived.Test.YthieicjnenlpfaaGreatDoorGTakes3
namespace Go.Proofs.YthieicjnenlpfaaGreatDoor
open Go.ChangeShapes Go.WideShapes Go.ChangeAt Go.RowKit
set_option linter.unusedSimpArgs false
set_option linter.unusedVariables false

/-- A range that a round has left by 'return'. -/
structure TX (w W0 : World) (B1 : Nat) (r : Loop) (W : World) : Prop where
  bel : Below w.heap.size w W
  res : W.cell? ⟨B1, 0, none⟩ = some (.bool false)
  rest : ∀ k, k < W0.heap.size → k ≠ B1 → W.heap[k]? = W0.heap[k]?
  dfr : W.heap[W0.heap.size]? = some (.deferred (some []))
  lp : W.heap[W0.heap.size + 1]? = some (.loop { r with state := .done, pending := some .ret })
theorem all_snoc {f : Int → Bool} {pre : List Int} {y : Int} (h : pre.all f = true) (hy : f y = true) : (pre ++ [y]).all f = true := by
  rw [List.all_append, h]; simp [hy]
theorem all_mid {f : Int → Bool} {l pre rest : List Int} {y : Int} (e : l = pre ++ y :: rest) (hy : f y = false) : l.all f = false := by
  rw [e, List.all_append]; simp [hy]
theorem tk_run0 (w W0 : World) (r : Loop) (B1 sb ib : Nat) (x : Sp) (a b : Int) (v : Value) (l : List Int) (bnd : Int) (hus : UsBox W0 sb ib x a b v l)
    (HRD : ∀ y W, TJ W0 r W → YieldAt Fence.wide 0 Tryz.prog (W0.heap.size + 1) #[.int .i64 y] W (yieldEnd (fun W' => TJ W0 r W' ∧ inB bnd y = true) (fun W' => TX w W0 B1 r W' ∧ inB bnd y = false))) :
    Calls Tryz.prog 52 #[.func (.yield (W0.heap.size + 1)) #[] #[], .pointer (some ⟨sb, 0, none⟩), .pointer (some ⟨ib, 0, none⟩)] (loopW W0 r) fun e W => e = .returned (.tuple #[]) ∧ ((TJ W0 r W ∧ (usP x a b l).all (inB bnd) = true) ∨ (TX w W0 B1 r W ∧ (usP x a b l).all (inB bnd) = false)) := by
  obtain ⟨h0, h1, h2, h3, h4, h5⟩ := hus
  obtain ⟨va, vc, vb, vo, rfl, hl, _, _⟩ := h5.parts
  refine uses1_any (W0.heap.size + 1) sb ib x a b va l.length vc l (loopW W0 r) (fun pre W => TJ W0 r W ∧ pre.all (inB bnd) = true) (fun W => TX w W0 B1 r W ∧ (usP x a b l).all (inB bnd) = false) rfl hl ⟨TJ.enter W0 r, rfl⟩ (fun pre W hJ => UsBox.keep ⟨h0, h1, h2, h3, h4, h5⟩ hJ.1.bel) ?_
  intro pre y rest W e hJ
  obtain ⟨fn, tm, asg, bo, hy, hR⟩ := HRD y W hJ.1
  refine ⟨fn, tm, asg, bo, hy, hR.mono ?_⟩
  rintro e2 W' ⟨bb, rfl, ht, hf⟩
  exact ⟨bb, rfl, fun hb => ⟨(ht hb).1, all_snoc hJ.2 (ht hb).2⟩, fun hb => ⟨(hf hb).1, all_mid e (hf hb).2⟩⟩
theorem tk_run1 (w W0 : World) (r : Loop) (B1 ib : Nat) (op s t bnd : Int) (hsu : SuBox W0 ib op s t)
    (HRD : ∀ y W, TJ W0 r W → YieldAt Fence.wide 0 Tryz.prog (W0.heap.size + 1) #[.int .i64 y] W (yieldEnd (fun W' => TJ W0 r W' ∧ inB bnd y = true) (fun W' => TX w W0 B1 r W' ∧ inB bnd y = false))) :
    Calls Tryz.prog 92 #[.func (.yield (W0.heap.size + 1)) #[] #[], .pointer (some ⟨ib, 0, none⟩)] (loopW W0 r) fun e W => e = .returned (.tuple #[]) ∧ ((TJ W0 r W ∧ (succsF op s t).all (inB bnd) = true) ∨ (TX w W0 B1 r W ∧ (succsF op s t).all (inB bnd) = false)) := by
  refine succs1_any (W0.heap.size + 1) ib op s t (loopW W0 r) (fun pre W => TJ W0 r W ∧ pre.all (inB bnd) = true) (fun W => TX w W0 B1 r W ∧ (succsF op s t).all (inB bnd) = false) ⟨TJ.enter W0 r, rfl⟩ (fun pre W hJ => hsu.keep hJ.1.bel) ?_
  intro pre y rest W e hJ
  obtain ⟨fn, tm, asg, bo, hy, hR⟩ := HRD y W hJ.1
  refine ⟨fn, tm, asg, bo, hy, hR.mono ?_⟩
  rintro e2 W' ⟨bb, rfl, ht, hf⟩
  exact ⟨bb, rfl, fun hb => ⟨(ht hb).1, all_snoc hJ.2 (ht hb).2⟩, fun hb => ⟨(hf hb).1, all_mid e (hf hb).2⟩⟩
/-- A round that goes on leaves the range as it was. -/
theorem TJ.again {W0 W W' : World} {r : Loop} (h : TJ W0 r W) (h1 : ∀ k, k ≠ W0.heap.size + 1 → W'.heap[k]? = W.heap[k]?) (h2 : W'.heap[W0.heap.size + 1]? = some (.loop r)) (h3 : W'.heap.size = W.heap.size) (h4 : W'.os = W.os) (h5 : W'.tape = W.tape) (h6 : W'.output = W.output) : TJ W0 r W' :=
  ⟨⟨h4.trans h.bel.os, h5.trans h.bel.tape, h6.trans h.bel.output, by rw [h3]; exact h.bel.size, fun k hk => (h1 k (by omega)).trans (h.bel.block k hk)⟩, (h1 _ (by omega)).trans h.dfr, h2⟩
/-- A round that returns. -/
theorem TJ.leave {w W0 W W' : World} {r : Loop} {B1 : Nat} (h : TJ W0 r W) (hw : Below w.heap.size w W0) (hB : w.heap.size ≤ B1) (hB2 : B1 < W0.heap.size) (h1 : ∀ k, k ≠ W0.heap.size + 1 → k ≠ B1 → W'.heap[k]? = W.heap[k]?) (hc : W'.cell? ⟨B1, 0, none⟩ = some (.bool false)) (h2 : W'.heap[W0.heap.size + 1]? = some (.loop { r with state := .done, pending := some .ret })) (h3 : W'.heap.size = W.heap.size) (h4 : W'.os = W.os) (h5 : W'.tape = W.tape) (h6 : W'.output = W.output) : TX w W0 B1 r W' :=
  ⟨⟨h4.trans (h.bel.os.trans hw.os), h5.trans (h.bel.tape.trans hw.tape), h6.trans (h.bel.output.trans hw.output), by rw [h3]; exact Nat.le_trans hw.size h.bel.size, fun k hk => (h1 k (by have := hw.size; omega) (by omega)).trans ((h.bel.block k (by have := hw.size; omega)).trans (hw.block k hk))⟩, hc, fun k hk hk1 => (h1 k (by omega) hk1).trans (h.bel.block k hk), (h1 _ (by omega) (by omega)).trans h.dfr, h2⟩
end Go.Proofs.YthieicjnenlpfaaGreatDoor

