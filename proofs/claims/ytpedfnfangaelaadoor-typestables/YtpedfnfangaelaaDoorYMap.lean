/- Package types: its two maps, as functions. -/
import Derived.Test.YtpedfnfangaelaaDoorYParse2
import Derived.Maps.OwnSet
import Derived.Maps.OwnOps
import Derived.StringKeys
namespace Go.Proofs.YtpedfnfangaelaaDoor
open Go.ChangeShapes Go.WideShapes Go.ChangeAt Go.RowKit
open Go.Maps (Keyed)
set_option linter.unusedSimpArgs false
set_option linter.unusedVariables false

def keyL (s : ByteArray) : Lit := .string s.data.toList
theorem keyL_inj {s t : ByteArray} (h : keyL s = keyL t) : s = t := by
  simp only [keyL, Lit.string.injEq] at h
  cases s; cases t; simp only [ByteArray.mk.injEq]; exact Array.toList_inj.1 h
theorem law9 : Keyed Tryd.prog 9 := Go.Maps.string_keyed Tryd.underlying9
theorem key9 (s : ByteArray) (h : s.size ≤ maxLen) : keyOf Tryd.prog 9 (.string s) = some (keyL s) := Go.WideMaps.keyOf_string_mk Tryd.underlying9 h
theorem zero3 (w : World) : (zeroValue 3).run Tryd.prog w = .ok (.int .i64 0) w := by kernel_rfl
/-- Block b is a map of at most n entries that tells this number of a name. -/
def NumMap (w : World) (b n : Nat) (g : ByteArray → Option Nat) : Prop :=
  ∃ D : DataW Unit, w.ownsMap Tryd.prog 9 (plainElem Tryd.prog 3) b n D ∧ ∀ s, Maps.has D (keyL s) = (g s).isSome ∧ D.atKey (keyL s) (.lit (.int .i64 0)) = .lit (.int .i64 (((g s).getD 0 : Nat) : Int))
theorem NumMap.lt {w : World} {b n : Nat} {g : ByteArray → Option Nat} (h : NumMap w b n g) : b < w.heap.size := by
  obtain ⟨D, h, _⟩ := h
  exact h.lt
theorem NumMap.of_heap {w w' : World} {b n : Nat} {g : ByteArray → Option Nat} (h : NumMap w b n g) (hb : w'.heap[b]? = w.heap[b]?) : NumMap w' b n g := by
  obtain ⟨D, ⟨es, cl, h1, h2⟩, h3⟩ := h
  exact ⟨D, ⟨es, cl, hb.trans h1, h2⟩, h3⟩
theorem NumMap.keep {w w' : World} {b n : Nat} {g : ByteArray → Option Nat} (h : NumMap w b n g) (hb : Below w.heap.size w w') : NumMap w' b n g := h.of_heap (hb.block b h.lt)
theorem NumMap.look {w : World} {b n : Nat} {g : ByteArray → Option Nat} (h : NumMap w b n g) {s : ByteArray} (hs : s.size ≤ maxLen) :
    (Instr.lookup 58 (.map (some b)) (.string s) true).run Tryd.prog w = .ok (.tuple #[.int .i64 (((g s).getD 0 : Nat) : Int), .bool (g s).isSome]) w := by
  obtain ⟨D, h1, h2⟩ := h
  obtain ⟨v, ps, hr, hv⟩ := h1.look_ok law9 Tryd.underlying58 (zero3 w) (plainElem_int Tryd.underlying3 (by decide)) (key9 s hs)
  obtain ⟨c, rfl, hc, _⟩ := plainElem_int_inv Tryd.underlying3 hv
  rw [hr, (h2 s).1]
  have := congrArg Prod.fst hc
  simp only [(h2 s).2, DataW.lit.injEq, Lit.int.injEq, true_and] at this
  rw [this]
theorem NumMap.look1 {w : World} {b n : Nat} {g : ByteArray → Option Nat} (h : NumMap w b n g) {s : ByteArray} (hs : s.size ≤ maxLen) :
    (Instr.lookup 58 (.map (some b)) (.string s) false).run Tryd.prog w = .ok (.int .i64 (((g s).getD 0 : Nat) : Int)) w := by
  obtain ⟨D, h1, h2⟩ := h
  obtain ⟨c, hr, hc, _⟩ := h1.lookup_int law9 Tryd.underlying58 Tryd.underlying3 (zero3 w) (key9 s hs)
  rw [hr]
  simp only [(h2 s).2, DataW.lit.injEq, Lit.int.injEq, true_and] at hc
  rw [hc]
theorem isKey (s : ByteArray) : WideAt.IsKeyLit (keyL s) := by
  unfold keyL
  trivial
theorem NumMap.put {w : World} {b n : Nat} {g : ByteArray → Option Nat} (h : NumMap w b n g) (hn : n < maxLen) {s : ByteArray} (hs : s.size ≤ maxLen) {j : Nat} (hj : (j : Int) ≤ 9223372036854775807) :
    ∃ w', (Instr.mapUpdate 58 (.map (some b)) (.string s) (.int .i64 (j : Int))).run Tryd.prog w = .ok () w' ∧ NumMap w' b (n + 1) (fun x => if x = s then some j else g x) ∧ w.grownBy w' (some b) := by
  obtain ⟨D, h1, h2⟩ := h
  obtain ⟨w', hr, ho, hg⟩ := h1.update law9 Tryd.underlying58 hn (key9 s hs) (plainElem_int (a := (j : Int)) Tryd.underlying3 (WalkArith.wf_i64 (by omega)))
  refine ⟨w', hr, ⟨_, ho, fun x => ?_⟩, hg⟩
  by_cases hx : x = s
  · subst hx
    simp only [if_true]
    exact ⟨Go.Maps.has_put_same h1.isMap (isKey x) _, by rw [Go.Maps.atKey_put_same h1.isMap (isKey x)]; rfl⟩
  · simp only [if_neg hx]
    have hne : keyL x ≠ keyL s := fun e => hx (keyL_inj e)
    exact ⟨by rw [Go.Maps.has_put_other hne]; exact (h2 x).1, by rw [Go.Maps.atKey_put_other hne]; exact (h2 x).2⟩
theorem NumMap.made (w : World) : NumMap (w.alloc (.map #[] 0)) w.heap.size 0 (fun _ => none) :=
  ⟨_, World.ownsMap_made w _ _ _, fun s => ⟨rfl, rfl⟩⟩
theorem zeroU (w : World) : (zeroValue 97).run Tryd.prog w = .ok (.agg #[]) w := by kernel_rfl
/-- Block b is a set of at most n names: these. -/
def NameSet (w : World) (b n : Nat) (g : ByteArray → Bool) : Prop :=
  ∃ D : DataW Unit, w.ownsMap Tryd.prog 9 unitElem b n D ∧ ∀ s, Maps.has D (keyL s) = g s
theorem NameSet.lt {w : World} {b n : Nat} {g : ByteArray → Bool} (h : NameSet w b n g) : b < w.heap.size := by
  obtain ⟨D, h, _⟩ := h
  exact h.lt
theorem NameSet.of_heap {w w' : World} {b n : Nat} {g : ByteArray → Bool} (h : NameSet w b n g) (hb : w'.heap[b]? = w.heap[b]?) : NameSet w' b n g := by
  obtain ⟨D, ⟨es, cl, h1, h2⟩, h3⟩ := h
  exact ⟨D, ⟨es, cl, hb.trans h1, h2⟩, h3⟩
theorem NameSet.look {w : World} {b n : Nat} {g : ByteArray → Bool} (h : NameSet w b n g) {s : ByteArray} (hs : s.size ≤ maxLen) :
    (Instr.lookup 96 (.map (some b)) (.string s) true).run Tryd.prog w = .ok (.tuple #[.agg #[], .bool (g s)]) w := by
  obtain ⟨D, h1, h2⟩ := h
  obtain ⟨v, ps, hr, hv⟩ := h1.look_ok law9 Tryd.underlying96 (zeroU w) unitElem_mk (key9 s hs)
  obtain ⟨rfl, _⟩ := unitElem_inv hv
  rw [hr, h2 s]
theorem NameSet.put {w : World} {b n : Nat} {g : ByteArray → Bool} (h : NameSet w b n g) (hn : n < maxLen) {s : ByteArray} (hs : s.size ≤ maxLen) :
    ∃ w', (Instr.mapUpdate 96 (.map (some b)) (.string s) (.agg #[])).run Tryd.prog w = .ok () w' ∧ NameSet w' b (n + 1) (fun x => decide (x = s) || g x) ∧ w.grownBy w' (some b) := by
  obtain ⟨D, h1, h2⟩ := h
  obtain ⟨w', hr, ho, hg⟩ := h1.update law9 Tryd.underlying96 hn (key9 s hs) unitElem_mk
  refine ⟨w', hr, ⟨_, ho, fun x => ?_⟩, hg⟩
  by_cases hx : x = s
  · subst hx
    simp only [decide_true, Bool.true_or]
    exact Go.Maps.has_put_same h1.isMap (isKey x) _
  · simp only [decide_eq_false hx, Bool.false_or]
    have hne : keyL x ≠ keyL s := fun e => hx (keyL_inj e)
    rw [Go.Maps.has_put_other hne]
    exact h2 x
theorem NameSet.made (w : World) : NameSet (w.alloc (.map #[] 0)) w.heap.size 0 (fun _ => false) :=
  ⟨_, World.ownsMap_made w _ _ _, fun s => rfl⟩
theorem make_num (n : Int) (w : World) : (Instr.makeMap 58 (some (.int .i64 n))).run Tryd.prog w = .ok (.map (some w.heap.size)) (w.alloc (.map #[] 0)) := by
  simp [Instr.makeMap, run_underlying Tryd.underlying58, asInt, asIntOf, Result.andThen]
theorem make_set (n : Int) (w : World) : (Instr.makeMap 96 (some (.int .i64 n))).run Tryd.prog w = .ok (.map (some w.heap.size)) (w.alloc (.map #[] 0)) := by
  simp [Instr.makeMap, run_underlying Tryd.underlying96, asInt, asIntOf, Result.andThen]
end Go.Proofs.YtpedfnfangaelaaDoor
