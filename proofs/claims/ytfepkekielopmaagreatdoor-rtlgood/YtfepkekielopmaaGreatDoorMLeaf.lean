/- Contracts of package val's leaves Of, Good, and of the document's own Of, At, Good, Ext. -/
import Derived.Test.YtfepkekielopmaaGreatDoorRows
import Derived.Test.YtfepkekielopmaaGreatDoorRefM
import Derived.Deep.RegionHeld3
import Derived.Deep.DeepCutAuto
import Derived.Deep.Light
import Derived.Deep.Draws
import Derived.WalkKit
import Derived.ProofKit
import Derived.OpenShut
import Derived.WalkSpells
namespace Go.Proofs.YtfepkekielopmaaGreatDoor
open Go.ChangeShapes Go.WideShapes Go.ChangeAt Go.RowKit Pl
set_option linter.unusedSimpArgs false
set_option linter.unusedVariables false

/-- The answer is this value and this bool; of what was there nothing has turned. -/
def retV (v : V) (ok : Bool) (w : World) : Ending → World → Prop := fun e w' =>
  e = .returned (.tuple #[.agg #[.int .i64 v.k, .int .i64 v.n, .int .i64 v.b], .bool ok]) ∧ Below w.heap.size w w'
/-- The answer is this value. -/
def retA (v : V) (w : World) : Ending → World → Prop := fun e w' =>
  e = .returned (.agg #[.int .i64 v.k, .int .i64 v.n, .int .i64 v.b]) ∧ Below w.heap.size w w'
/-- The answer is this plain thing. -/
def retP (v : Value) (w : World) : Ending → World → Prop := fun e w' => e = .returned v ∧ Below w.heap.size w w'

theorem end_V {P : Program} {fn : Func} {a : Act} {w w' : World} {v : V} {ok : Bool} (hr : (results fn a.tmps).run P w' = .ok (.tuple #[.agg #[.int .i64 v.k, .int .i64 v.n, .int .i64 v.b], .bool ok]) w') (hd : a.defers = []) (hb : Below w.heap.size w w') :
    bodyPost P fn (retV v ok w) .ret a w' := bodyPost_ret hr hd ⟨rfl, hb⟩
theorem end_A {P : Program} {fn : Func} {a : Act} {w w' : World} {v : V} (hr : (results fn a.tmps).run P w' = .ok (.agg #[.int .i64 v.k, .int .i64 v.n, .int .i64 v.b]) w') (hd : a.defers = []) (hb : Below w.heap.size w w') :
    bodyPost P fn (retA v w) .ret a w' := bodyPost_ret hr hd ⟨rfl, hb⟩

theorem bcell {W w1 : World} (hb : Below W.heap.size W w1) : (∀ b o, b < W.heap.size → w1.cell? ⟨b, o, none⟩ = W.cell? ⟨b, o, none⟩) ∧ (∀ b o, b < W.heap.size → w1.frozen? ⟨b, o, none⟩ = W.frozen? ⟨b, o, none⟩) :=
  ⟨fun b o h => hb.cell (p := ⟨b, o, none⟩) h, fun b o h => hb.frozen (p := ⟨b, o, none⟩) h⟩
/-- A cell that is there stays as it is behind a call that writes nothing old; so does its mark. -/
theorem keep_cell {W w1 : World} (hb : Below W.heap.size W w1) {p : Addr} {v : Value} (h : W.cell? p = some v) : w1.cell? p = some v := by
  rw [hb.cell (p := p) (block_lt_of_cell h)]; exact h
theorem keep_frozen {W w1 : World} (hb : Below W.heap.size W w1) {p : Addr} {v : Value} (h : W.cell? p = some v) (hf : W.frozen? p = false) : w1.frozen? p = false := by
  rw [hb.frozen (p := p) (block_lt_of_cell h)]; exact hf
theorem keep_alloc {w : World} {p : Addr} {v : Value} (h : w.cell? p = some v) (o : Obj) : (w.alloc o).cell? p = some v := by
  rw [World.cell?_alloc_lt w o p (block_lt_of_cell h)]; exact h
theorem keep_set {w : World} {p q : Addr} {v u : Value} (h : w.cell? q = some v) (hne : q.block ≠ p.block) : (w.setCell p u).cell? q = some v := by
  rw [World.cell?_of_block (w := w) (Below.heap_setCell w p u q.block hne)]; exact h
theorem bsize {W w1 : World} (hb : Below W.heap.size W w1) : W.heap.size ≤ w1.heap.size := hb.size
theorem bel_alloc {w w' : World} (h : Below w.heap.size w w') (o : Obj) : Below w.heap.size w (w'.alloc o) := h.alloc h.size o
theorem bel_trans {w a b : World} (h : Below w.heap.size w a) (k : Below a.heap.size a b) : Below w.heap.size w b := h.trans (k.mono h.size)
theorem bel_set {w w' : World} (h : Below w.heap.size w w') {p : Addr} (hp : w.heap.size ≤ p.block) (u : Value) : Below w.heap.size w (w'.setCell p u) := h.setCell hp u

theorem bel_drewN {B : Nat} {a w : World} (h : Below B a w) (n : Nat) : Below B a (w.drewN n) := ⟨h.os, h.tape, h.output, h.size, h.block⟩

set_option maxHeartbeats 400000 in
theorem of_any (n : Int) (w : World) : Calls Tryz.prog 58 #[.int .i64 n] w (retA (ofF n) w) := by
  go_enter Tryz.func58, Tryz.ntmps58
  go_wp2
  exact end_A (by simp [results, Tryz.results58, go_sem, ofF]) rfl (by repeat (first | with_reducible exact Below.refl _ _ | with_reducible refine bel_alloc ?_ _ | with_reducible refine bel_set ?_ (by first | exact Nat.le_refl _ | (simp; done) | (simp; omega)) _ | with_reducible refine Below.drew ?_ | refine bel_trans ?_ (by assumption)))

set_option maxHeartbeats 400000 in
theorem good_any (k n b : Int) (w : World) : Calls Tryz.prog 161 #[.agg #[.int .i64 k, .int .i64 n, .int .i64 b]] w (retP (.bool (goodF ⟨k, n, b⟩)) w) := by
  by_cases h0 : k = 0
  · subst h0
    by_cases hn : n = 0
    · subst hn
      go_enter Tryz.func161, Tryz.ntmps161
      go_wp2
      go_ret
      exact ⟨by simp [goodF], (by repeat (first | with_reducible exact Below.refl _ _ | with_reducible refine bel_alloc ?_ _ | with_reducible refine bel_set ?_ (by first | exact Nat.le_refl _ | (simp; done) | (simp; omega)) _ | with_reducible refine Below.drew ?_ | refine bel_trans ?_ (by assumption)))⟩
    · go_enter Tryz.func161, Tryz.ntmps161
      go_wp2
      go_ret
      exact ⟨by simp [goodF, hn], (by repeat (first | with_reducible exact Below.refl _ _ | with_reducible refine bel_alloc ?_ _ | with_reducible refine bel_set ?_ (by first | exact Nat.le_refl _ | (simp; done) | (simp; omega)) _ | with_reducible refine Below.drew ?_ | refine bel_trans ?_ (by assumption)))⟩
  by_cases h1 : k = 1
  · subst h1
    go_enter Tryz.func161, Tryz.ntmps161
    go_wp2
    go_ret
    exact ⟨by simp [goodF], (by repeat (first | with_reducible exact Below.refl _ _ | with_reducible refine bel_alloc ?_ _ | with_reducible refine bel_set ?_ (by first | exact Nat.le_refl _ | (simp; done) | (simp; omega)) _ | with_reducible refine Below.drew ?_ | refine bel_trans ?_ (by assumption)))⟩
  by_cases h2 : k = 2
  · subst h2
    go_enter Tryz.func161, Tryz.ntmps161
    go_wp2
    go_ret
    exact ⟨by simp [goodF], (by repeat (first | with_reducible exact Below.refl _ _ | with_reducible refine bel_alloc ?_ _ | with_reducible refine bel_set ?_ (by first | exact Nat.le_refl _ | (simp; done) | (simp; omega)) _ | with_reducible refine Below.drew ?_ | refine bel_trans ?_ (by assumption)))⟩
  · go_enter Tryz.func161, Tryz.ntmps161
    go_wp2
    go_ret
    exact ⟨by simp [goodF, h0, h1, h2], (by repeat (first | with_reducible exact Below.refl _ _ | with_reducible refine bel_alloc ?_ _ | with_reducible refine bel_set ?_ (by first | exact Nat.le_refl _ | (simp; done) | (simp; omega)) _ | with_reducible refine Below.drew ?_ | refine bel_trans ?_ (by assumption)))⟩

set_option maxHeartbeats 400000 in
theorem rgood_any (k n b : Int) (w : World) : Calls Tryz.prog 95 #[.agg #[.int .i64 k, .int .i64 n, .int .i64 b]] w (retP (.bool (goodF ⟨k, n, b⟩)) w) := by
  by_cases h0 : k = 0
  · subst h0
    by_cases hn : n = 0
    · subst hn
      go_enter Tryz.func95, Tryz.ntmps95
      go_wp2
      go_ret
      exact ⟨by simp [goodF], (by repeat (first | with_reducible exact Below.refl _ _ | with_reducible refine bel_alloc ?_ _ | with_reducible refine bel_set ?_ (by first | exact Nat.le_refl _ | (simp; done) | (simp; omega)) _ | with_reducible refine Below.drew ?_ | refine bel_trans ?_ (by assumption)))⟩
    · go_enter Tryz.func95, Tryz.ntmps95
      go_wp2
      go_ret
      exact ⟨by simp [goodF, hn], (by repeat (first | with_reducible exact Below.refl _ _ | with_reducible refine bel_alloc ?_ _ | with_reducible refine bel_set ?_ (by first | exact Nat.le_refl _ | (simp; done) | (simp; omega)) _ | with_reducible refine Below.drew ?_ | refine bel_trans ?_ (by assumption)))⟩
  by_cases h1 : k = 1
  · subst h1
    go_enter Tryz.func95, Tryz.ntmps95
    go_wp2
    go_ret
    exact ⟨by simp [goodF], (by repeat (first | with_reducible exact Below.refl _ _ | with_reducible refine bel_alloc ?_ _ | with_reducible refine bel_set ?_ (by first | exact Nat.le_refl _ | (simp; done) | (simp; omega)) _ | with_reducible refine Below.drew ?_ | refine bel_trans ?_ (by assumption)))⟩
  by_cases h2 : k = 2
  · subst h2
    go_enter Tryz.func95, Tryz.ntmps95
    go_wp2
    go_ret
    exact ⟨by simp [goodF], (by repeat (first | with_reducible exact Below.refl _ _ | with_reducible refine bel_alloc ?_ _ | with_reducible refine bel_set ?_ (by first | exact Nat.le_refl _ | (simp; done) | (simp; omega)) _ | with_reducible refine Below.drew ?_ | refine bel_trans ?_ (by assumption)))⟩
  · go_enter Tryz.func95, Tryz.ntmps95
    go_wp2
    go_ret
    exact ⟨by simp [goodF, h0, h1, h2], (by repeat (first | with_reducible exact Below.refl _ _ | with_reducible refine bel_alloc ?_ _ | with_reducible refine bel_set ?_ (by first | exact Nat.le_refl _ | (simp; done) | (simp; omega)) _ | with_reducible refine Below.drew ?_ | refine bel_trans ?_ (by assumption)))⟩


set_option maxHeartbeats 400000 in
theorem rof_any (n : Int) (w : World) : Calls Tryz.prog 35 #[.int .i64 n] w (retA (ofF n) w) := by
  go_enter Tryz.func35, Tryz.ntmps35
  go_wp2
  exact end_A (by simp [results, Tryz.results35, go_sem, ofF]) rfl (by repeat (first | with_reducible exact Below.refl _ _ | with_reducible refine bel_alloc ?_ _ | with_reducible refine bel_set ?_ (by first | exact Nat.le_refl _ | (simp; done) | (simp; omega)) _ | with_reducible refine Below.drew ?_ | refine bel_trans ?_ (by assumption)))
set_option maxHeartbeats 400000 in
theorem rat_any (b n : Int) (w : World) : Calls Tryz.prog 68 #[.int .i64 b, .int .i64 n] w (retA (atF b n) w) := by
  by_cases h : b < 1
  · go_enter Tryz.func68, Tryz.ntmps68
    go_wp2
    exact end_A (by simp [results, Tryz.results68, go_sem, atF, h, noV]) rfl (by repeat (first | with_reducible exact Below.refl _ _ | with_reducible refine bel_alloc ?_ _ | with_reducible refine bel_set ?_ (by first | exact Nat.le_refl _ | (simp; done) | (simp; omega)) _ | with_reducible refine Below.drew ?_ | refine bel_trans ?_ (by assumption)))
  · go_enter Tryz.func68, Tryz.ntmps68
    go_wp2
    exact end_A (by simp [results, Tryz.results68, go_sem, atF, show ¬ b < 1 by omega]) rfl (by repeat (first | with_reducible exact Below.refl _ _ | with_reducible refine bel_alloc ?_ _ | with_reducible refine bel_set ?_ (by first | exact Nat.le_refl _ | (simp; done) | (simp; omega)) _ | with_reducible refine Below.drew ?_ | refine bel_trans ?_ (by assumption)))
set_option maxHeartbeats 400000 in
theorem ext8_any (n : Int) (w : World) : Calls Tryz.prog 96 #[.int .i64 n, .int .u64 8] w fun e w' => e = .returned (.int .i64 (wrap64 (IntKind.i8.wrap n))) ∧ w' = w := by
  obtain ⟨m, hm⟩ : ∃ m, bits .and .i64 n 255 = m := ⟨_, rfl⟩
  have hv := hm.symm.trans (and_255 n)
  have h0 : 0 ≤ m := by omega
  have h1 : m ≤ 255 := by omega
  have he : wrap64 (IntKind.i8.wrap n) = if 128 ≤ m then m - 256 else m := by
    rw [i8w]; unfold wrap64
    split <;> omega
  rw [he]
  have HV : Hid (m = n % 256) := hv
  clear hv he
  by_cases hc : 128 ≤ m
  · rw [if_pos hc]
    go_enter Tryz.func96, Tryz.ntmps96
    go_wp2
    go_ret
    exact ⟨rfl, rfl⟩
  · rw [if_neg hc]
    go_enter Tryz.func96, Tryz.ntmps96
    go_wp2
    go_ret
    exact ⟨rfl, rfl⟩
set_option maxHeartbeats 400000 in
theorem ext32_any (n : Int) (w : World) : Calls Tryz.prog 96 #[.int .i64 n, .int .u64 32] w fun e w' => e = .returned (.int .i64 (wrap64 (wrap32 n))) ∧ w' = w := by
  obtain ⟨m, hm⟩ : ∃ m, bits .and .i64 n 4294967295 = m := ⟨_, rfl⟩
  have hv := hm.symm.trans (and_32 n)
  have h0 : 0 ≤ m := by omega
  have h1 : m ≤ 4294967295 := by omega
  have he : wrap64 (wrap32 n) = if 2147483648 ≤ m then m - 4294967296 else m := by
    unfold wrap64 wrap32
    split <;> omega
  rw [he]
  have HV : Hid (m = n % 4294967296) := hv
  clear hv he
  by_cases hc : 2147483648 ≤ m
  · rw [if_pos hc]
    go_enter Tryz.func96, Tryz.ntmps96
    go_wp2
    go_ret
    exact ⟨rfl, rfl⟩
  · rw [if_neg hc]
    go_enter Tryz.func96, Tryz.ntmps96
    go_wp2
    go_ret
    exact ⟨rfl, rfl⟩

end Go.Proofs.YtfepkekielopmaaGreatDoor
