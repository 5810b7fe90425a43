/- Contracts of package val's leaves that trace reaches: Of, Good, kind. -/
import Derived.Test.YtokdnjnkgflbcaaDoorRows
import Derived.Test.YtokdnjnkgflbcaaDoorPlain
import Derived.WalkKit
import Derived.ProofKit
import Derived.OpenShut
import Derived.WalkSpells
namespace Go.Proofs.YtokdnjnkgflbcaaDoor
open Go.ChangeShapes Go.WideShapes Go.ChangeAt Go.RowKit Pl
set_option linter.unusedSimpArgs false
set_option linter.unusedVariables false

/-- The answer is this value and this bool; of what was there nothing has turned. -/
def retV (v : V) (ok : Bool) (w : World) : Ending → World → Prop := fun e w' =>
  e = .returned (.tuple #[.agg #[.int .i64 v.k, .int .i64 v.n, .int .i64 v.b], .bool ok]) ∧ Below w.heap.size w w'
/-- The answer is this value. -/
def retA (v : V) (w : World) : Ending → World → Prop := fun e w' =>
  e = .returned (.agg #[.int .i64 v.k, .int .i64 v.n, .int .i64 v.b]) ∧ Below w.heap.size w w'
/-- The answer is this plain thing. -/
def retP (v : Value) (w : World) : Ending → World → Prop := fun e w' => e = .returned v ∧ Below w.heap.size w w'

theorem end_V {P : Program} {fn : Func} {a : Act} {w w' : World} {v : V} {ok : Bool} (hr : (results fn a.tmps).run P w' = .ok (.tuple #[.agg #[.int .i64 v.k, .int .i64 v.n, .int .i64 v.b], .bool ok]) w') (hd : a.defers = []) (hb : Below w.heap.size w w') :
    bodyPost P fn (retV v ok w) .ret a w' := bodyPost_ret hr hd ⟨rfl, hb⟩
theorem end_A {P : Program} {fn : Func} {a : Act} {w w' : World} {v : V} (hr : (results fn a.tmps).run P w' = .ok (.agg #[.int .i64 v.k, .int .i64 v.n, .int .i64 v.b]) w') (hd : a.defers = []) (hb : Below w.heap.size w w') :
    bodyPost P fn (retA v w) .ret a w' := bodyPost_ret hr hd ⟨rfl, hb⟩

theorem bcell {W w1 : World} (hb : Below W.heap.size W w1) : (∀ b o, b < W.heap.size → w1.cell? ⟨b, o, none⟩ = W.cell? ⟨b, o, none⟩) ∧ (∀ b o, b < W.heap.size → w1.frozen? ⟨b, o, none⟩ = W.frozen? ⟨b, o, none⟩) :=
  ⟨fun b o h => hb.cell (p := ⟨b, o, none⟩) h, fun b o h => hb.frozen (p := ⟨b, o, none⟩) h⟩
/-- A cell that is there stays as it is behind a call that writes nothing old; so does its mark. -/
theorem keep_cell {W w1 : World} (hb : Below W.heap.size W w1) {p : Addr} {v : Value} (h : W.cell? p = some v) : w1.cell? p = some v := by
  rw [hb.cell (p := p) (block_lt_of_cell h)]; exact h
theorem keep_frozen {W w1 : World} (hb : Below W.heap.size W w1) {p : Addr} {v : Value} (h : W.cell? p = some v) (hf : W.frozen? p = false) : w1.frozen? p = false := by
  rw [hb.frozen (p := p) (block_lt_of_cell h)]; exact hf
theorem keep_alloc {w : World} {p : Addr} {v : Value} (h : w.cell? p = some v) (o : Obj) : (w.alloc o).cell? p = some v := by
  rw [World.cell?_alloc_lt w o p (block_lt_of_cell h)]; exact h
theorem keep_set {w : World} {p q : Addr} {v u : Value} (h : w.cell? q = some v) (hne : q.block ≠ p.block) : (w.setCell p u).cell? q = some v := by
  rw [World.cell?_of_block (w := w) (Below.heap_setCell w p u q.block hne)]; exact h
theorem bsize {W w1 : World} (hb : Below W.heap.size W w1) : W.heap.size ≤ w1.heap.size := hb.size
theorem bel_alloc {w w' : World} (h : Below w.heap.size w w') (o : Obj) : Below w.heap.size w (w'.alloc o) := h.alloc h.size o
theorem bel_trans {w a b : World} (h : Below w.heap.size w a) (k : Below a.heap.size a b) : Below w.heap.size w b := h.trans (k.mono h.size)
theorem bel_set {w w' : World} (h : Below w.heap.size w w') {p : Addr} (hp : w.heap.size ≤ p.block) (u : Value) : Below w.heap.size w (w'.setCell p u) := h.setCell hp u

set_option maxHeartbeats 400000 in
theorem of_any (n : Int) (w : World) : Calls Tryd.prog 38 #[.int .i64 n] w (retA (ofF n) w) := by
  go_enter Tryd.func38, Tryd.ntmps38
  go_wp2
  exact end_A (by simp [results, Tryd.results38, go_sem, ofF]) rfl (by repeat (first | with_reducible exact Below.refl _ _ | with_reducible refine bel_alloc ?_ _ | with_reducible refine bel_set ?_ (by first | exact Nat.le_refl _ | (simp; done) | (simp; omega)) _ | with_reducible refine Below.drew ?_ | refine bel_trans ?_ (by assumption)))

set_option maxHeartbeats 400000 in
theorem good_any (k n b : Int) (w : World) : Calls Tryd.prog 43 #[.agg #[.int .i64 k, .int .i64 n, .int .i64 b]] w (retP (.bool (goodF ⟨k, n, b⟩)) w) := by
  by_cases h0 : k = 0
  · subst h0
    by_cases hn : n = 0
    · subst hn
      go_enter Tryd.func43, Tryd.ntmps43
      go_wp2
      go_ret
      exact ⟨by simp [goodF], (by repeat (first | with_reducible exact Below.refl _ _ | with_reducible refine bel_alloc ?_ _ | with_reducible refine bel_set ?_ (by first | exact Nat.le_refl _ | (simp; done) | (simp; omega)) _ | with_reducible refine Below.drew ?_ | refine bel_trans ?_ (by assumption)))⟩
    · go_enter Tryd.func43, Tryd.ntmps43
      go_wp2
      go_ret
      exact ⟨by simp [goodF, hn], (by repeat (first | with_reducible exact Below.refl _ _ | with_reducible refine bel_alloc ?_ _ | with_reducible refine bel_set ?_ (by first | exact Nat.le_refl _ | (simp; done) | (simp; omega)) _ | with_reducible refine Below.drew ?_ | refine bel_trans ?_ (by assumption)))⟩
  by_cases h1 : k = 1
  · subst h1
    go_enter Tryd.func43, Tryd.ntmps43
    go_wp2
    go_ret
    exact ⟨by simp [goodF], (by repeat (first | with_reducible exact Below.refl _ _ | with_reducible refine bel_alloc ?_ _ | with_reducible refine bel_set ?_ (by first | exact Nat.le_refl _ | (simp; done) | (simp; omega)) _ | with_reducible refine Below.drew ?_ | refine bel_trans ?_ (by assumption)))⟩
  by_cases h2 : k = 2
  · subst h2
    go_enter Tryd.func43, Tryd.ntmps43
    go_wp2
    go_ret
    exact ⟨by simp [goodF], (by repeat (first | with_reducible exact Below.refl _ _ | with_reducible refine bel_alloc ?_ _ | with_reducible refine bel_set ?_ (by first | exact Nat.le_refl _ | (simp; done) | (simp; omega)) _ | with_reducible refine Below.drew ?_ | refine bel_trans ?_ (by assumption)))⟩
  · go_enter Tryd.func43, Tryd.ntmps43
    go_wp2
    go_ret
    exact ⟨by simp [goodF, h0, h1, h2], (by repeat (first | with_reducible exact Below.refl _ _ | with_reducible refine bel_alloc ?_ _ | with_reducible refine bel_set ?_ (by first | exact Nat.le_refl _ | (simp; done) | (simp; omega)) _ | with_reducible refine Below.drew ?_ | refine bel_trans ?_ (by assumption)))⟩

set_option maxHeartbeats 400000 in
theorem kind_any (k n b : Int) (w : World) : Calls Tryd.prog 40 #[.agg #[.int .i64 k, .int .i64 n, .int .i64 b]] w (retP (.int .i64 (kindF ⟨k, n, b⟩)) w) := by
  cases hg : goodF ⟨k, n, b⟩
  all_goals
    go_enter Tryd.func40, Tryd.ntmps40
    go_wp2_with (go_at_call 43; refine (good_any _ _ _ _).mono ?_; rintro e w1 ⟨rfl, hb1⟩; obtain ⟨hc1, hf1⟩ := bcell hb1; have hz1 := bsize hb1; try simp only [World.size_alloc, World.size_drew, World.cell?_drew, World.frozen?_drew] at hz1 hc1 hf1)
    go_ret
    exact ⟨by simp [kindF, hg], (by repeat (first | with_reducible exact Below.refl _ _ | with_reducible refine bel_alloc ?_ _ | with_reducible refine bel_set ?_ (by first | exact Nat.le_refl _ | (simp; done) | (simp; omega)) _ | with_reducible refine Below.drew ?_ | refine bel_trans ?_ (by assumption)))⟩

end Go.Proofs.YtokdnjnkgflbcaaDoor
