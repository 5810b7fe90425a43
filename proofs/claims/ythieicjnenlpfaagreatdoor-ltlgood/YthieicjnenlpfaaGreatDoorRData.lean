/- Programs as they lie in memory, and what leaves them as they are. -/
import Derived.Test.YthieicjnenlpfaaGreatDoorRUses2
namespace Go.Proofs.YthieicjnenlpfaaGreatDoor
open Go.ChangeShapes Go.WideShapes Go.ChangeAt Go.RowKit
set_option linter.unusedSimpArgs false
set_option linter.unusedVariables false

/-- An instruction at a place. -/
def InsAt (w : World) (b off : Nat) (i : Ins) : Prop := ∃ v, IL w v i.args ∧ w.cell? ⟨b, off, none⟩ = some (.int .i64 i.op) ∧ w.cell? ⟨b, off + 1, none⟩ = some (.int .i64 i.sub) ∧ w.cell? ⟨b, off + 2, none⟩ = some (.int .i64 i.a) ∧ w.cell? ⟨b, off + 3, none⟩ = some (.int .i64 i.b) ∧
  w.cell? ⟨b, off + 4, none⟩ = some (.int .i64 i.d) ∧ w.cell? ⟨b, off + 5, none⟩ = some (.int .i64 i.k) ∧ w.cell? ⟨b, off + 6, none⟩ = some v ∧ w.cell? ⟨b, off + 7, none⟩ = some (.int .i64 i.s) ∧ w.cell? ⟨b, off + 8, none⟩ = some (.int .i64 i.t)
/-- Code in memory. -/
def CodeAt (w : World) (v : Value) (l : List Ins) : Prop := ∃ (a : Option Addr) (cap : Nat), v = .slice a l.length cap ∧ l.length * 88 ≤ 140737488355328 ∧ (a = none → l = [] ∧ cap = 0) ∧ (l ≠ [] → ∃ b off : Nat, a = some ⟨b, off, none⟩ ∧ ∀ (i : Nat) (x : Ins), l[i]? = some x → InsAt w b (off + i * 9) x)
/-- A function at a place. -/
def FnAt (w : World) (b off : Nat) (f : Fn) : Prop := ∃ pv cv, IL w pv f.params ∧ CodeAt w cv f.code ∧ f.name.size ≤ 140737488355328 ∧ w.cell? ⟨b, off, none⟩ = some (.string f.name) ∧ w.cell? ⟨b, off + 1, none⟩ = some pv ∧ w.cell? ⟨b, off + 2, none⟩ = some (.int .i64 f.regs) ∧ w.cell? ⟨b, off + 3, none⟩ = some (.int .i64 f.frame) ∧
  w.cell? ⟨b, off + 4, none⟩ = some (.int .i64 f.entry) ∧ w.cell? ⟨b, off + 5, none⟩ = some cv
/-- Functions in memory. -/
def FnsAt (w : World) (v : Value) (l : List Fn) : Prop := ∃ (a : Option Addr) (cap : Nat), v = .slice a l.length cap ∧ l.length * 88 ≤ 140737488355328 ∧ (a = none → l = [] ∧ cap = 0) ∧ (l ≠ [] → ∃ b off : Nat, a = some ⟨b, off, none⟩ ∧ ∀ (i : Nat) (x : Fn), l[i]? = some x → FnAt w b (off + i * 6) x)
/-- A function as a value. -/
def FnV (w : World) (v : Value) (f : Fn) : Prop := ∃ pv cv, v = .agg #[.string f.name, pv, .int .i64 f.regs, .int .i64 f.frame, .int .i64 f.entry, cv] ∧ IL w pv f.params ∧ CodeAt w cv f.code ∧ f.name.size ≤ 140737488355328
/-- A program as a value. -/
def PgV (w : World) (v : Value) (p : Pg) : Prop := ∃ gv fv, v = .agg #[gv, fv, .int .i64 p.main] ∧ IL w gv p.globals ∧ FnsAt w fv p.funcs

theorem InsAt.keep {w w' : World} {b off : Nat} {i : Ins} (h : InsAt w b off i) (hb : Below w.heap.size w w') : InsAt w' b off i := by
  obtain ⟨v, h0, h1, h2, h3, h4, h5, h6, h7, h8, h9⟩ := h
  exact ⟨v, h0.keep hb, keep_cell hb h1, keep_cell hb h2, keep_cell hb h3, keep_cell hb h4, keep_cell hb h5, keep_cell hb h6, keep_cell hb h7, keep_cell hb h8, keep_cell hb h9⟩
theorem CodeAt.keep {w w' : World} {v : Value} {l : List Ins} (h : CodeAt w v l) (hb : Below w.heap.size w w') : CodeAt w' v l := by
  obtain ⟨a, cap, hv, h1, h0, h2⟩ := h
  refine ⟨a, cap, hv, h1, h0, fun hl => ?_⟩
  obtain ⟨b, off, e, hc⟩ := h2 hl
  exact ⟨b, off, e, fun i x hx => (hc i x hx).keep hb⟩
theorem FnAt.keep {w w' : World} {b off : Nat} {f : Fn} (h : FnAt w b off f) (hb : Below w.heap.size w w') : FnAt w' b off f := by
  obtain ⟨pv, cv, h0, h1, h2, h3, h4, h5, h6, h7, h8⟩ := h
  exact ⟨pv, cv, h0.keep hb, h1.keep hb, h2, keep_cell hb h3, keep_cell hb h4, keep_cell hb h5, keep_cell hb h6, keep_cell hb h7, keep_cell hb h8⟩
theorem FnsAt.keep {w w' : World} {v : Value} {l : List Fn} (h : FnsAt w v l) (hb : Below w.heap.size w w') : FnsAt w' v l := by
  obtain ⟨a, cap, hv, h1, h0, h2⟩ := h
  refine ⟨a, cap, hv, h1, h0, fun hl => ?_⟩
  obtain ⟨b, off, e, hc⟩ := h2 hl
  exact ⟨b, off, e, fun i x hx => (hc i x hx).keep hb⟩
theorem FnV.keep {w w' : World} {v : Value} {f : Fn} (h : FnV w v f) (hb : Below w.heap.size w w') : FnV w' v f := by
  obtain ⟨pv, cv, hv, h0, h1, h2⟩ := h
  exact ⟨pv, cv, hv, h0.keep hb, h1.keep hb, h2⟩
theorem PgV.keep {w w' : World} {v : Value} {p : Pg} (h : PgV w v p) (hb : Below w.heap.size w w') : PgV w' v p := by
  obtain ⟨gv, fv, hv, h0, h1⟩ := h
  exact ⟨gv, fv, hv, h0.keep hb, h1.keep hb⟩
theorem bel_a {w w' : World} (h : Below w.heap.size w w') : Below w.heap.size w w' := h
end Go.Proofs.YthieicjnenlpfaaGreatDoor
