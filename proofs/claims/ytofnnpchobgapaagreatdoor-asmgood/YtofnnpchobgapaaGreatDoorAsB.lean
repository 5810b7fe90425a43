/- Machine code: programs as data, and how they lie in memory. -/
import Derived.Test.YtofnnpchobgapaaGreatDoorRBase
namespace Go.Proofs.YtofnnpchobgapaaGreatDoor
open Go.ChangeShapes Go.WideShapes Go.ChangeAt Go.RowKit
set_option linter.unusedSimpArgs false
set_option linter.unusedVariables false

/-- An instruction, a function, a program. -/
structure AIns where
  op : Int
  r : Int
  m : Int
  sub : Int
  cc : Int
  l : Int
  k : Int
  deriving DecidableEq
structure AFn where
  name : ByteArray
  code : List AIns
structure APg where
  globals : List Int
  funcs : List AFn
  main : Int
  params : Int
instance : Inhabited AIns := ⟨⟨0, 0, 0, 0, 0, 0, 0⟩⟩
instance : Inhabited AFn := ⟨⟨⟨#[]⟩, []⟩⟩
/-- An instruction as a value, and its cells. -/
def ainsV (x : AIns) : Value := .agg #[.int .i64 x.op, .int .i64 x.r, .int .i64 x.m, .int .i64 x.sub, .int .i64 x.cc, .int .i64 x.l, .int .i64 x.k]
def ainsC (x : AIns) : List Value := [.int .i64 x.op, .int .i64 x.r, .int .i64 x.m, .int .i64 x.sub, .int .i64 x.cc, .int .i64 x.l, .int .i64 x.k]
theorem ainsC_len (x : AIns) : (ainsC x).length = 7 := rfl
/-- An instruction at a place. -/
def AInsAt (w : World) (b off : Nat) (i : AIns) : Prop := w.cell? ⟨b, off, none⟩ = some (.int .i64 i.op) ∧ w.cell? ⟨b, off + 1, none⟩ = some (.int .i64 i.r) ∧ w.cell? ⟨b, off + 2, none⟩ = some (.int .i64 i.m) ∧ w.cell? ⟨b, off + 3, none⟩ = some (.int .i64 i.sub) ∧
  w.cell? ⟨b, off + 4, none⟩ = some (.int .i64 i.cc) ∧ w.cell? ⟨b, off + 5, none⟩ = some (.int .i64 i.l) ∧ w.cell? ⟨b, off + 6, none⟩ = some (.int .i64 i.k)
/-- Code in memory. -/
def ACodeAt (w : World) (v : Value) (l : List AIns) : Prop := ∃ (a : Option Addr) (cap : Nat), v = .slice a l.length cap ∧ l.length * 56 ≤ 140737488355328 ∧ (a = none → l = [] ∧ cap = 0) ∧ (l ≠ [] → ∃ b off : Nat, a = some ⟨b, off, none⟩ ∧ ∀ (i : Nat) (x : AIns), l[i]? = some x → AInsAt w b (off + i * 7) x)
/-- A function at a place. -/
def AFnAt (w : World) (b off : Nat) (f : AFn) : Prop := ∃ cv, ACodeAt w cv f.code ∧ f.name.size ≤ 140737488355328 ∧ w.cell? ⟨b, off, none⟩ = some (.string f.name) ∧ w.cell? ⟨b, off + 1, none⟩ = some cv
/-- Functions in memory. -/
def AFnsAt (w : World) (v : Value) (l : List AFn) : Prop := ∃ (a : Option Addr) (cap : Nat), v = .slice a l.length cap ∧ l.length * 40 ≤ 140737488355328 ∧ (a = none → l = [] ∧ cap = 0) ∧ (l ≠ [] → ∃ b off : Nat, a = some ⟨b, off, none⟩ ∧ ∀ (i : Nat) (x : AFn), l[i]? = some x → AFnAt w b (off + i * 2) x)
/-- A function as a value. -/
def AFnV (w : World) (v : Value) (f : AFn) : Prop := ∃ cv, v = .agg #[.string f.name, cv] ∧ ACodeAt w cv f.code ∧ f.name.size ≤ 140737488355328
/-- A program as a value, and at a place. -/
def APgV (w : World) (v : Value) (p : APg) : Prop := ∃ gv fv, v = .agg #[gv, fv, .int .i64 p.main, .int .i64 p.params] ∧ IL w gv p.globals ∧ AFnsAt w fv p.funcs
def APgAt (w : World) (b off : Nat) (p : APg) : Prop := ∃ gv fv, IL w gv p.globals ∧ AFnsAt w fv p.funcs ∧ w.cell? ⟨b, off, none⟩ = some gv ∧ w.cell? ⟨b, off + 1, none⟩ = some fv ∧ w.cell? ⟨b, off + 2, none⟩ = some (.int .i64 p.main) ∧ w.cell? ⟨b, off + 3, none⟩ = some (.int .i64 p.params)

theorem AInsAt.keep {w w' : World} {b off : Nat} {i : AIns} (h : AInsAt w b off i) (hb : Below w.heap.size w w') : AInsAt w' b off i := by
  obtain ⟨h1, h2, h3, h4, h5, h6, h7⟩ := h
  exact ⟨keep_cell hb h1, keep_cell hb h2, keep_cell hb h3, keep_cell hb h4, keep_cell hb h5, keep_cell hb h6, keep_cell hb h7⟩
theorem ACodeAt.keep {w w' : World} {v : Value} {l : List AIns} (h : ACodeAt w v l) (hb : Below w.heap.size w w') : ACodeAt w' v l := by
  obtain ⟨a, cap, hv, h1, h0, h2⟩ := h
  refine ⟨a, cap, hv, h1, h0, fun hl => ?_⟩
  obtain ⟨b, off, e, hc⟩ := h2 hl
  exact ⟨b, off, e, fun i x hx => (hc i x hx).keep hb⟩
theorem AFnAt.keep {w w' : World} {b off : Nat} {f : AFn} (h : AFnAt w b off f) (hb : Below w.heap.size w w') : AFnAt w' b off f := by
  obtain ⟨cv, h0, h1, h2, h3⟩ := h
  exact ⟨cv, h0.keep hb, h1, keep_cell hb h2, keep_cell hb h3⟩
theorem AFnsAt.keep {w w' : World} {v : Value} {l : List AFn} (h : AFnsAt w v l) (hb : Below w.heap.size w w') : AFnsAt w' v l := by
  obtain ⟨a, cap, hv, h1, h0, h2⟩ := h
  refine ⟨a, cap, hv, h1, h0, fun hl => ?_⟩
  obtain ⟨b, off, e, hc⟩ := h2 hl
  exact ⟨b, off, e, fun i x hx => (hc i x hx).keep hb⟩
theorem AFnV.keep {w w' : World} {v : Value} {f : AFn} (h : AFnV w v f) (hb : Below w.heap.size w w') : AFnV w' v f := by
  obtain ⟨cv, hv, h1, h2⟩ := h
  exact ⟨cv, hv, h1.keep hb, h2⟩
theorem APgV.keep {w w' : World} {v : Value} {p : APg} (h : APgV w v p) (hb : Below w.heap.size w w') : APgV w' v p := by
  obtain ⟨gv, fv, hv, h0, h1⟩ := h
  exact ⟨gv, fv, hv, h0.keep hb, h1.keep hb⟩
theorem APgAt.keep {w w' : World} {b off : Nat} {p : APg} (h : APgAt w b off p) (hb : Below w.heap.size w w') : APgAt w' b off p := by
  obtain ⟨gv, fv, h0, h1, h2, h3, h4, h5⟩ := h
  exact ⟨gv, fv, h0.keep hb, h1.keep hb, keep_cell hb h2, keep_cell hb h3, keep_cell hb h4, keep_cell hb h5⟩
theorem IL.parts {w : World} {v : Value} {l : List Int} (h : IL w v l) : ∃ (a : Option Addr) (cap b off : Nat), v = .slice a l.length cap ∧ l.length * 8 ≤ 140737488355328 ∧ (0 < l.length → a = some ⟨b, off, none⟩) ∧ ∀ (i : Nat) x, l[i]? = some x → w.cell? ⟨b, off + i, none⟩ = some (.int .i64 x) := by
  obtain ⟨a, cap, hv, h1, h0, h2⟩ := h
  by_cases hl : l = []
  · exact ⟨a, cap, 0, 0, hv, h1, (fun h => by rw [hl] at h; simp at h), fun i x hx => by rw [hl] at hx; simp at hx⟩
  · obtain ⟨b, off, e, hc⟩ := h2 hl
    exact ⟨a, cap, b, off, hv, h1, fun _ => e, hc⟩
theorem ACodeAt.parts {w : World} {v : Value} {l : List AIns} (h : ACodeAt w v l) : ∃ (a : Option Addr) (cap b off : Nat), v = .slice a l.length cap ∧ l.length * 56 ≤ 140737488355328 ∧ (0 < l.length → a = some ⟨b, off, none⟩) ∧ ∀ (i : Nat) x, l[i]? = some x → AInsAt w b (off + i * 7) x := by
  obtain ⟨a, cap, hv, h1, h0, h2⟩ := h
  by_cases hl : l = []
  · exact ⟨a, cap, 0, 0, hv, h1, (fun h => by rw [hl] at h; simp at h), fun i x hx => by rw [hl] at hx; simp at hx⟩
  · obtain ⟨b, off, e, hc⟩ := h2 hl
    exact ⟨a, cap, b, off, hv, h1, fun _ => e, hc⟩
theorem AFnsAt.parts {w : World} {v : Value} {l : List AFn} (h : AFnsAt w v l) : ∃ (a : Option Addr) (cap b off : Nat), v = .slice a l.length cap ∧ l.length * 40 ≤ 140737488355328 ∧ (0 < l.length → a = some ⟨b, off, none⟩) ∧ ∀ (i : Nat) x, l[i]? = some x → AFnAt w b (off + i * 2) x := by
  obtain ⟨a, cap, hv, h1, h0, h2⟩ := h
  by_cases hl : l = []
  · exact ⟨a, cap, 0, 0, hv, h1, (fun h => by rw [hl] at h; simp at h), fun i x hx => by rw [hl] at hx; simp at hx⟩
  · obtain ⟨b, off, e, hc⟩ := h2 hl
    exact ⟨a, cap, b, off, hv, h1, fun _ => e, hc⟩
end Go.Proofs.YtofnnpchobgapaaGreatDoor
