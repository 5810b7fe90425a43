/- Package asm: the map of labels. -/
import Derived.Test.YtofnnpchobgapaaGreatDoorAsL
import Derived.Maps.OwnSet
import Derived.Maps.OwnOps
namespace Go.Proofs.YtofnnpchobgapaaGreatDoor
open Go.ChangeShapes Go.WideShapes Go.ChangeAt Go.RowKit
open Go.Maps (Keyed)
set_option linter.unusedSimpArgs false
set_option linter.unusedVariables false

def akey (k : Int) : Lit := .int .i64 k
theorem akey_inj {s t : Int} (h : akey s = akey t) : s = t := by
  simp only [akey, Lit.int.injEq] at h
  exact h.2
theorem alaw : Keyed Tryz.prog 3 := Go.Maps.int_keyed Tryz.underlying3
theorem akeyOf (k : Int) (h0 : -9223372036854775808 ≤ k) (h1 : k ≤ 9223372036854775807) : keyOf Tryz.prog 3 (.int .i64 k) = some (akey k) := Go.Maps.keyOf_int_mk Tryz.underlying3 (WalkArith.wf_i64 (by omega))
theorem aisKey (k : Int) : WideAt.IsKeyLit (akey k) := by
  unfold akey
  trivial
theorem azero (w : World) : (zeroValue 3).run Tryz.prog w = .ok (.int .i64 0) w := by kernel_rfl
/-- Block b is the map of labels, of at most n entries. -/
def LabMap (w : World) (b n : Nat) (st : PlS) : Prop :=
  ∃ D : DataW Unit, w.ownsMap Tryz.prog 3 (plainElem Tryz.prog 3) b n D ∧ Maps.size D = st.s ∧ ∀ k, Maps.has D (akey k) = (st.g k).isSome ∧ D.atKey (akey k) (.lit (.int .i64 0)) = .lit (.int .i64 (((st.g k).getD 0 : Nat) : Int))
theorem LabMap.lt {w : World} {b n : Nat} {st : PlS} (h : LabMap w b n st) : b < w.heap.size := by
  obtain ⟨D, h, _⟩ := h
  exact h.lt
theorem LabMap.of_heap {w w' : World} {b n : Nat} {st : PlS} (h : LabMap w b n st) (hb : w'.heap[b]? = w.heap[b]?) : LabMap w' b n st := by
  obtain ⟨D, ⟨es, cl, h1, h2⟩, h3⟩ := h
  exact ⟨D, ⟨es, cl, hb.trans h1, h2⟩, h3⟩
theorem LabMap.keep {w w' : World} {b n : Nat} {st : PlS} (h : LabMap w b n st) (hb : Below w.heap.size w w') : LabMap w' b n st := h.of_heap (hb.block b h.lt)
theorem LabMap.look {w : World} {b n : Nat} {st : PlS} (h : LabMap w b n st) {k : Int} (h0 : -9223372036854775808 ≤ k) (h1 : k ≤ 9223372036854775807) :
    (Instr.lookup 123 (.map (some b)) (.int .i64 k) true).run Tryz.prog w = .ok (.tuple #[.int .i64 (((st.g k).getD 0 : Nat) : Int), .bool (st.g k).isSome]) w := by
  obtain ⟨D, h1', _, h2⟩ := h
  obtain ⟨v, ps, hr, hv⟩ := h1'.look_ok alaw Tryz.underlying123 (azero w) (plainElem_int Tryz.underlying3 (by decide)) (akeyOf k h0 h1)
  obtain ⟨c, rfl, hc, _⟩ := plainElem_int_inv Tryz.underlying3 hv
  rw [hr, (h2 k).1]
  have := congrArg Prod.fst hc
  simp only [(h2 k).2, DataW.lit.injEq, Lit.int.injEq, true_and] at this
  rw [this]
theorem LabMap.len {w : World} {b n : Nat} {st : PlS} (h : LabMap w b n st) (ty : TypeId) : (Builtin.len_ #[123] ty #[.map (some b)]).run Tryz.prog w = .ok (.int .i64 (st.s : Int)) w := by
  obtain ⟨D, h1, h2, _⟩ := h
  rw [h1.len Tryz.underlying123 ty, h2]
theorem LabMap.put {w : World} {b n : Nat} {st : PlS} (h : LabMap w b n st) (hn : n < maxLen) {x : AIns} (hx : x.op = 20) (h0 : -9223372036854775808 ≤ x.l) (h1 : x.l ≤ 9223372036854775807) {j : Nat} (hj : (j : Int) ≤ 9223372036854775807) :
    ∃ w', (Instr.mapUpdate 123 (.map (some b)) (.int .i64 x.l) (.int .i64 (j : Int))).run Tryz.prog w = .ok () w' ∧ LabMap w' b (n + 1) (plStep st j x) ∧ w.grownBy w' (some b) := by
  obtain ⟨D, h1', hs, h2⟩ := h
  obtain ⟨w', hr, ho, hg⟩ := h1'.update alaw Tryz.underlying123 hn (akeyOf x.l h0 h1) (plainElem_int (a := (j : Int)) Tryz.underlying3 (WalkArith.wf_i64 (by omega)))
  refine ⟨w', hr, ⟨_, ho, ?_, fun k => ?_⟩, hg⟩
  · rw [Go.Maps.size_put (h1'.tidy alaw), (h2 x.l).1, hs]
    simp only [plStep, hx, if_true]
  · simp only [plStep, hx, if_true]
    by_cases e : k = x.l
    · subst e
      simp only [if_true]
      exact ⟨Go.Maps.has_put_same h1'.isMap (aisKey x.l) _, by rw [Go.Maps.atKey_put_same h1'.isMap (aisKey x.l)]; rfl⟩
    · simp only [if_neg e]
      have hne : akey k ≠ akey x.l := fun e' => e (akey_inj e')
      exact ⟨by rw [Go.Maps.has_put_other hne]; exact (h2 k).1, by rw [Go.Maps.atKey_put_other hne]; exact (h2 k).2⟩
theorem LabMap.made (w : World) : LabMap (w.alloc (.map #[] 0)) w.heap.size 0 ⟨fun _ => none, 0⟩ :=
  ⟨_, World.ownsMap_made w _ _ _, rfl, fun s => ⟨rfl, rfl⟩⟩
theorem amake (w : World) : (Instr.makeMap 123 none).run Tryz.prog w = .ok (.map (some w.heap.size)) (w.alloc (.map #[] 0)) := by
  simp [Instr.makeMap, run_underlying Tryz.underlying123, asInt, asIntOf, Result.andThen]
end Go.Proofs.YtofnnpchobgapaaGreatDoor
