/- Being the same, leaking the same, beginnings: their laws; TraceOrder at long runs. -/
import Derived.Test.YtokdnjnkgflbcaaDoorTFrame
import Derived.Deep.DeepCutAuto
namespace Go.Proofs.YtokdnjnkgflbcaaDoor
open Go.ChangeShapes Go.WideShapes Go.ChangeAt Go.RowKit Go.Joins Go.Deep Pl
set_option linter.unusedSimpArgs false
set_option linter.unusedVariables false

theorem RunAt.shape {w : World} {r : RD} (h : RunAt w r) : ∃ (a : Option Addr) (n cap : Nat), r.ev = .slice a n cap ∧ n = r.es.length ∧ (n : Int) ≤ 9223372036854775807 := by
  obtain ⟨⟨a, cap, h1, h2, h3, _⟩, _⟩ := h
  exact ⟨a, _, cap, h1, rfl, by omega⟩
theorem same_refl (a : RD) : sameR a a = true := by simp [sameR, evEq]
theorem same_symm (a b : RD) : sameR b a = sameR a b := by
  unfold sameR evEq
  rw [Bool.eq_iff_iff]
  simp only [Bool.and_eq_true, decide_eq_true_eq]
  constructor <;> (rintro ⟨⟨h1, h2⟩, h3⟩; exact ⟨⟨h1.symm, h2.symm⟩, h3.symm⟩)
theorem same_trans {a b c : RD} (h1 : sameR a b = true) (h2 : sameR b c = true) : sameR a c = true := by
  simp only [sameR, evEq, Bool.and_eq_true, decide_eq_true_eq] at h1 h2 ⊢
  exact ⟨⟨h1.1.1.trans h2.1.1, h1.1.2.trans h2.1.2⟩, h1.2.trans h2.2⟩
theorem leaks_refl (a : RD) : leaksR a a = true := by simp [leaksR, lkEq]
theorem leaks_trans {a b c : RD} (h1 : leaksR a b = true) (h2 : leaksR b c = true) : leaksR a c = true := by
  simp only [leaksR, lkEq, Bool.and_eq_true, decide_eq_true_eq] at h1 h2 ⊢
  exact ⟨h1.1.trans h2.1, h1.2.trans h2.2⟩
theorem pre_refl (l : List Ev) : evPre l l = true := by simp [evPre]
theorem pre_trans {a b c : List Ev} (h1 : evPre a b = true) (h2 : evPre b c = true) : evPre a c = true := by
  simp only [evPre, decide_eq_true_eq] at h1 h2 ⊢
  have hl : a.length ≤ b.length := by
    have := congrArg List.length h1
    rw [List.length_take] at this
    omega
  have : (c.take b.length).take a.length = c.take a.length := by rw [List.take_take, Nat.min_eq_left hl]
  rw [← this, ← h2]
  exact h1
theorem ref_refl (a : RD) (h : a.k = 1 ∨ a.k = 2 ∨ a.k = 3) : refR a a = true := by
  unfold refR
  rcases h with h | h | h <;> simp [h, same_refl, pre_refl]


set_option maxHeartbeats 4000000 in
theorem traceOrder_long (k0 x0 s0 : Int) (e0 : Option Addr) (n0 d0 : Nat) (l0 : Value) (es0 : List Ev) (ls0 : List Lk) (k1 x1 s1 : Int) (e1 : Option Addr) (n1 d1 : Nat) (l1 : Value) (es1 : List Ev) (ls1 : List Lk) (k2 x2 s2 : Int) (e2 : Option Addr) (n2 d2 : Nat) (l2 : Value) (es2 : List Ev) (ls2 : List Lk) (w : World) (H0 : Hid (RunAt w ⟨k0, x0, .slice e0 n0 d0, l0, s0, es0, ls0⟩)) (H1 : Hid (RunAt w ⟨k1, x1, .slice e1 n1 d1, l1, s1, es1, ls1⟩)) (H2 : Hid (RunAt w ⟨k2, x2, .slice e2 n2 d2, l2, s2, es2, ls2⟩)) (HT : Hid (Tab w)) (m0 : (n0 : Int) ≤ 9223372036854775807) (m1 : (n1 : Int) ≤ 9223372036854775807) (m2 : (n2 : Int) ≤ 9223372036854775807) (hn : 100 < n0 ∨ 100 < n1 ∨ 100 < n2) :
    Calls Tryd.prog 6 #[.agg #[.int .i64 k0, .int .i64 x0, .slice e0 n0 d0, l0, .int .i64 s0], .agg #[.int .i64 k1, .int .i64 x1, .slice e1 n1 d1, l1, .int .i64 s1], .agg #[.int .i64 k2, .int .i64 x2, .slice e2 n2 d2, l2, .int .i64 s2]] w (retP (.bool true) w) := by
  by_cases h0 : 100 < n0
  · have g0 : (100 : Int) < n0 := by omega
    go_enter Tryd.func6, Tryd.ntmps6
    go_wp2_with fail
    refine (awake_any _ (tab_keep HT.out (by repeat (first | with_reducible exact Below.refl _ _ | with_reducible refine bel_alloc ?_ _ | with_reducible refine bel_set ?_ (by first | exact Nat.le_refl _ | (simp; done) | (simp; omega)) _ | with_reducible refine Below.drew ?_ | refine bel_trans ?_ (by assumption))))).mono ?_
    rintro e w1 ⟨rfl, hb⟩
    have ac0 : w1.cell? ⟨w.heap.size, 0, none⟩ = some (.int .i64 k0) := keep_cell hb (by go_simp)
    have ac1 : w1.cell? ⟨w.heap.size, 1, none⟩ = some (.int .i64 x0) := keep_cell hb (by go_simp)
    have ac2 : w1.cell? ⟨w.heap.size, 2, none⟩ = some (.slice e0 n0 d0) := keep_cell hb (by go_simp)
    have ac3 : w1.cell? ⟨w.heap.size, 3, none⟩ = some (l0) := keep_cell hb (by go_simp)
    have ac4 : w1.cell? ⟨w.heap.size, 4, none⟩ = some (.int .i64 s0) := keep_cell hb (by go_simp)
    have bc0 : w1.cell? ⟨(w.heap.size + 1), 0, none⟩ = some (.int .i64 k1) := keep_cell hb (by go_simp)
    have bc1 : w1.cell? ⟨(w.heap.size + 1), 1, none⟩ = some (.int .i64 x1) := keep_cell hb (by go_simp)
    have bc2 : w1.cell? ⟨(w.heap.size + 1), 2, none⟩ = some (.slice e1 n1 d1) := keep_cell hb (by go_simp)
    have bc3 : w1.cell? ⟨(w.heap.size + 1), 3, none⟩ = some (l1) := keep_cell hb (by go_simp)
    have bc4 : w1.cell? ⟨(w.heap.size + 1), 4, none⟩ = some (.int .i64 s1) := keep_cell hb (by go_simp)
    have cc0 : w1.cell? ⟨(w.heap.size + 1 + 1), 0, none⟩ = some (.int .i64 k2) := keep_cell hb (by go_simp)
    have cc1 : w1.cell? ⟨(w.heap.size + 1 + 1), 1, none⟩ = some (.int .i64 x2) := keep_cell hb (by go_simp)
    have cc2 : w1.cell? ⟨(w.heap.size + 1 + 1), 2, none⟩ = some (.slice e2 n2 d2) := keep_cell hb (by go_simp)
    have cc3 : w1.cell? ⟨(w.heap.size + 1 + 1), 3, none⟩ = some (l2) := keep_cell hb (by go_simp)
    have cc4 : w1.cell? ⟨(w.heap.size + 1 + 1), 4, none⟩ = some (.int .i64 s2) := keep_cell hb (by go_simp)
    have aL : w.heap.size < w1.heap.size := block_lt_of_cell ac0
    have bL : (w.heap.size + 1) < w1.heap.size := block_lt_of_cell bc0
    have cL : (w.heap.size + 1 + 1) < w1.heap.size := block_lt_of_cell cc0
    have HB : Hid (Below w.heap.size w w1) := (by repeat (first | with_reducible exact Below.refl _ _ | with_reducible refine bel_alloc ?_ _ | with_reducible refine bel_set ?_ (by first | exact Nat.le_refl _ | (simp; done) | (simp; omega)) _ | with_reducible refine Below.drew ?_ | refine bel_trans ?_ (by assumption)))
    clear hb
    go_wp2
    go_ret
    exact ⟨rfl, HB.out⟩
  have g0 : ¬ (100 : Int) < n0 := by omega
  by_cases h1 : 100 < n1
  · have g1 : (100 : Int) < n1 := by omega
    go_enter Tryd.func6, Tryd.ntmps6
    go_wp2_with fail
    refine (awake_any _ (tab_keep HT.out (by repeat (first | with_reducible exact Below.refl _ _ | with_reducible refine bel_alloc ?_ _ | with_reducible refine bel_set ?_ (by first | exact Nat.le_refl _ | (simp; done) | (simp; omega)) _ | with_reducible refine Below.drew ?_ | refine bel_trans ?_ (by assumption))))).mono ?_
    rintro e w1 ⟨rfl, hb⟩
    have ac0 : w1.cell? ⟨w.heap.size, 0, none⟩ = some (.int .i64 k0) := keep_cell hb (by go_simp)
    have ac1 : w1.cell? ⟨w.heap.size, 1, none⟩ = some (.int .i64 x0) := keep_cell hb (by go_simp)
    have ac2 : w1.cell? ⟨w.heap.size, 2, none⟩ = some (.slice e0 n0 d0) := keep_cell hb (by go_simp)
    have ac3 : w1.cell? ⟨w.heap.size, 3, none⟩ = some (l0) := keep_cell hb (by go_simp)
    have ac4 : w1.cell? ⟨w.heap.size, 4, none⟩ = some (.int .i64 s0) := keep_cell hb (by go_simp)
    have bc0 : w1.cell? ⟨(w.heap.size + 1), 0, none⟩ = some (.int .i64 k1) := keep_cell hb (by go_simp)
    have bc1 : w1.cell? ⟨(w.heap.size + 1), 1, none⟩ = some (.int .i64 x1) := keep_cell hb (by go_simp)
    have bc2 : w1.cell? ⟨(w.heap.size + 1), 2, none⟩ = some (.slice e1 n1 d1) := keep_cell hb (by go_simp)
    have bc3 : w1.cell? ⟨(w.heap.size + 1), 3, none⟩ = some (l1) := keep_cell hb (by go_simp)
    have bc4 : w1.cell? ⟨(w.heap.size + 1), 4, none⟩ = some (.int .i64 s1) := keep_cell hb (by go_simp)
    have cc0 : w1.cell? ⟨(w.heap.size + 1 + 1), 0, none⟩ = some (.int .i64 k2) := keep_cell hb (by go_simp)
    have cc1 : w1.cell? ⟨(w.heap.size + 1 + 1), 1, none⟩ = some (.int .i64 x2) := keep_cell hb (by go_simp)
    have cc2 : w1.cell? ⟨(w.heap.size + 1 + 1), 2, none⟩ = some (.slice e2 n2 d2) := keep_cell hb (by go_simp)
    have cc3 : w1.cell? ⟨(w.heap.size + 1 + 1), 3, none⟩ = some (l2) := keep_cell hb (by go_simp)
    have cc4 : w1.cell? ⟨(w.heap.size + 1 + 1), 4, none⟩ = some (.int .i64 s2) := keep_cell hb (by go_simp)
    have aL : w.heap.size < w1.heap.size := block_lt_of_cell ac0
    have bL : (w.heap.size + 1) < w1.heap.size := block_lt_of_cell bc0
    have cL : (w.heap.size + 1 + 1) < w1.heap.size := block_lt_of_cell cc0
    have HB : Hid (Below w.heap.size w w1) := (by repeat (first | with_reducible exact Below.refl _ _ | with_reducible refine bel_alloc ?_ _ | with_reducible refine bel_set ?_ (by first | exact Nat.le_refl _ | (simp; done) | (simp; omega)) _ | with_reducible refine Below.drew ?_ | refine bel_trans ?_ (by assumption)))
    clear hb
    go_wp2
    go_ret
    exact ⟨rfl, HB.out⟩
  have g1 : ¬ (100 : Int) < n1 := by omega
  have g2 : (100 : Int) < n2 := by omega
  go_enter Tryd.func6, Tryd.ntmps6
  go_wp2_with fail
  refine (awake_any _ (tab_keep HT.out (by repeat (first | with_reducible exact Below.refl _ _ | with_reducible refine bel_alloc ?_ _ | with_reducible refine bel_set ?_ (by first | exact Nat.le_refl _ | (simp; done) | (simp; omega)) _ | with_reducible refine Below.drew ?_ | refine bel_trans ?_ (by assumption))))).mono ?_
  rintro e w1 ⟨rfl, hb⟩
  have ac0 : w1.cell? ⟨w.heap.size, 0, none⟩ = some (.int .i64 k0) := keep_cell hb (by go_simp)
  have ac1 : w1.cell? ⟨w.heap.size, 1, none⟩ = some (.int .i64 x0) := keep_cell hb (by go_simp)
  have ac2 : w1.cell? ⟨w.heap.size, 2, none⟩ = some (.slice e0 n0 d0) := keep_cell hb (by go_simp)
  have ac3 : w1.cell? ⟨w.heap.size, 3, none⟩ = some (l0) := keep_cell hb (by go_simp)
  have ac4 : w1.cell? ⟨w.heap.size, 4, none⟩ = some (.int .i64 s0) := keep_cell hb (by go_simp)
  have bc0 : w1.cell? ⟨(w.heap.size + 1), 0, none⟩ = some (.int .i64 k1) := keep_cell hb (by go_simp)
  have bc1 : w1.cell? ⟨(w.heap.size + 1), 1, none⟩ = some (.int .i64 x1) := keep_cell hb (by go_simp)
  have bc2 : w1.cell? ⟨(w.heap.size + 1), 2, none⟩ = some (.slice e1 n1 d1) := keep_cell hb (by go_simp)
  have bc3 : w1.cell? ⟨(w.heap.size + 1), 3, none⟩ = some (l1) := keep_cell hb (by go_simp)
  have bc4 : w1.cell? ⟨(w.heap.size + 1), 4, none⟩ = some (.int .i64 s1) := keep_cell hb (by go_simp)
  have cc0 : w1.cell? ⟨(w.heap.size + 1 + 1), 0, none⟩ = some (.int .i64 k2) := keep_cell hb (by go_simp)
  have cc1 : w1.cell? ⟨(w.heap.size + 1 + 1), 1, none⟩ = some (.int .i64 x2) := keep_cell hb (by go_simp)
  have cc2 : w1.cell? ⟨(w.heap.size + 1 + 1), 2, none⟩ = some (.slice e2 n2 d2) := keep_cell hb (by go_simp)
  have cc3 : w1.cell? ⟨(w.heap.size + 1 + 1), 3, none⟩ = some (l2) := keep_cell hb (by go_simp)
  have cc4 : w1.cell? ⟨(w.heap.size + 1 + 1), 4, none⟩ = some (.int .i64 s2) := keep_cell hb (by go_simp)
  have aL : w.heap.size < w1.heap.size := block_lt_of_cell ac0
  have bL : (w.heap.size + 1) < w1.heap.size := block_lt_of_cell bc0
  have cL : (w.heap.size + 1 + 1) < w1.heap.size := block_lt_of_cell cc0
  have HB : Hid (Below w.heap.size w w1) := (by repeat (first | with_reducible exact Below.refl _ _ | with_reducible refine bel_alloc ?_ _ | with_reducible refine bel_set ?_ (by first | exact Nat.le_refl _ | (simp; done) | (simp; omega)) _ | with_reducible refine Below.drew ?_ | refine bel_trans ?_ (by assumption)))
  clear hb
  go_wp2
  go_ret
  exact ⟨rfl, HB.out⟩

end Go.Proofs.YtokdnjnkgflbcaaDoor
