/- Graphs over registers: programs as data, and how they lie in memory. -/
import Derived.Test.YtofnnpchobgapaaGreatDoorRHelp
namespace Go.Proofs.YtofnnpchobgapaaGreatDoor
open Go.ChangeShapes Go.WideShapes Go.ChangeAt Go.RowKit
set_option linter.unusedSimpArgs false
set_option linter.unusedVariables false

/-- An instruction, a function, a program. -/
structure Ins where
  op : Int
  sub : Int
  a : Int
  b : Int
  d : Int
  k : Int
  args : List Int
  s : Int
  t : Int
structure Fn where
  name : ByteArray
  params : List Int
  regs : Int
  frame : Int
  entry : Int
  code : List Ins
structure Pg where
  globals : List Int
  funcs : List Fn
  main : Int

/-- An instruction's value, its list aside. -/
def insV (op sub a b d k : Int) (v : Value) (s t : Int) : Value := .agg #[.int .i64 op, .int .i64 sub, .int .i64 a, .int .i64 b, .int .i64 d, .int .i64 k, v, .int .i64 s, .int .i64 t]
/-- A list of numbers in memory. -/
def IL (w : World) (v : Value) (l : List Int) : Prop := ∃ (a : Option Addr) (cap : Nat), v = .slice a l.length cap ∧ l.length * 8 ≤ 140737488355328 ∧ (a = none → l = [] ∧ cap = 0) ∧ (l ≠ [] → ∃ b off : Nat, a = some ⟨b, off, none⟩ ∧ ∀ (i : Nat) (x : Int), l[i]? = some x → w.cell? ⟨b, off + i, none⟩ = some (.int .i64 x))
theorem IL.keep {w w' : World} {v : Value} {l : List Int} (h : IL w v l) (hb : Below w.heap.size w w') : IL w' v l := by
  obtain ⟨a, cap, hv, h1, h0, h2⟩ := h
  refine ⟨a, cap, hv, h1, h0, fun hl => ?_⟩
  obtain ⟨b, off, e, hc⟩ := h2 hl
  exact ⟨b, off, e, fun i x hx => keep_cell hb (hc i x hx)⟩
end Go.Proofs.YtofnnpchobgapaaGreatDoor

