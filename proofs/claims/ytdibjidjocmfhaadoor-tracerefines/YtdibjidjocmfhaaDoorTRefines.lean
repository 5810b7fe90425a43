/- For all runs: a run that refines one that halts has no events but its; if it halts, too, it is the same; of one without meaning all do: the statement TraceRefines returns true. Conditions: the three tables of the library that the row lists start as the program's text lays them (the card ties them). -/
import Derived.Test.YtdibjidjocmfhaaDoorTFrame
namespace Go.Proofs.YtdibjidjocmfhaaDoor
open Go.ChangeShapes Go.WideShapes Go.ChangeAt Go.RowKit Go.Joins Go.Deep Pl
set_option linter.unusedSimpArgs false
set_option linter.unusedVariables false

theorem RunAt.shape {w : World} {r : RD} (h : RunAt w r) : ∃ (a : Option Addr) (n cap : Nat), r.ev = .slice a n cap ∧ n = r.es.length ∧ (n : Int) ≤ 9223372036854775807 := by
  obtain ⟨⟨a, cap, h1, h2, h3, _⟩, _⟩ := h
  exact ⟨a, _, cap, h1, rfl, by omega⟩


set_option maxHeartbeats 4000000 in
theorem traceRefines_long (k x st : Int) (ea : Option Addr) (n ec : Nat) (lk : Value) (es : List Ev) (ls : List Lk) (k' x' st' : Int) (ea' : Option Addr) (n' ec' : Nat) (lk' : Value) (es' : List Ev) (ls' : List Lk) (w : World) (HA : Hid (RunAt w ⟨k, x, .slice ea n ec, lk, st, es, ls⟩)) (HA' : Hid (RunAt w ⟨k', x', .slice ea' n' ec', lk', st', es', ls'⟩)) (HT : Hid (Tab w)) (m1 : (n : Int) ≤ 9223372036854775807) (m2 : (n' : Int) ≤ 9223372036854775807) (hn : 100 < n ∨ 100 < n') :
    Calls Tryd.prog 8 #[.agg #[.int .i64 k, .int .i64 x, .slice ea n ec, lk, .int .i64 st], .agg #[.int .i64 k', .int .i64 x', .slice ea' n' ec', lk', .int .i64 st']] w (retP (.bool true) w) := by
  by_cases h1 : 100 < n
  · have g1 : (100 : Int) < n := by omega
    go_enter Tryd.func8, Tryd.ntmps8
    go_wp2_with fail
    refine (awake_any _ (tab_keep HT.out (by repeat (first | with_reducible exact Below.refl _ _ | with_reducible refine bel_alloc ?_ _ | with_reducible refine bel_set ?_ (by first | exact Nat.le_refl _ | (simp; done) | (simp; omega)) _ | with_reducible refine Below.drew ?_ | refine bel_trans ?_ (by assumption))))).mono ?_
    rintro e w1 ⟨rfl, hb1⟩
    have t0 : w1.cell? ⟨w.heap.size, 0, none⟩ = some (.int .i64 k) := keep_cell hb1 (by go_simp)
    have t1 : w1.cell? ⟨w.heap.size, 1, none⟩ = some (.int .i64 x) := keep_cell hb1 (by go_simp)
    have t2 : w1.cell? ⟨w.heap.size, 2, none⟩ = some (.slice ea n ec) := keep_cell hb1 (by go_simp)
    have t3 : w1.cell? ⟨w.heap.size, 3, none⟩ = some (lk) := keep_cell hb1 (by go_simp)
    have t4 : w1.cell? ⟨w.heap.size, 4, none⟩ = some (.int .i64 st) := keep_cell hb1 (by go_simp)
    have tL : w.heap.size < w1.heap.size := block_lt_of_cell t0
    have s0 : w1.cell? ⟨(w.heap.size + 1), 0, none⟩ = some (.int .i64 k') := keep_cell hb1 (by go_simp)
    have s1 : w1.cell? ⟨(w.heap.size + 1), 1, none⟩ = some (.int .i64 x') := keep_cell hb1 (by go_simp)
    have s2 : w1.cell? ⟨(w.heap.size + 1), 2, none⟩ = some (.slice ea' n' ec') := keep_cell hb1 (by go_simp)
    have s3 : w1.cell? ⟨(w.heap.size + 1), 3, none⟩ = some (lk') := keep_cell hb1 (by go_simp)
    have s4 : w1.cell? ⟨(w.heap.size + 1), 4, none⟩ = some (.int .i64 st') := keep_cell hb1 (by go_simp)
    have sL : (w.heap.size + 1) < w1.heap.size := block_lt_of_cell s0
    have HB : Hid (Below w.heap.size w w1) := (by repeat (first | with_reducible exact Below.refl _ _ | with_reducible refine bel_alloc ?_ _ | with_reducible refine bel_set ?_ (by first | exact Nat.le_refl _ | (simp; done) | (simp; omega)) _ | with_reducible refine Below.drew ?_ | refine bel_trans ?_ (by assumption)))
    clear hb1
    go_wp2
    go_ret
    exact ⟨rfl, HB.out⟩
  · have g1 : ¬ (100 : Int) < n := by omega
    have g2 : (100 : Int) < n' := by omega
    go_enter Tryd.func8, Tryd.ntmps8
    go_wp2_with fail
    refine (awake_any _ (tab_keep HT.out (by repeat (first | with_reducible exact Below.refl _ _ | with_reducible refine bel_alloc ?_ _ | with_reducible refine bel_set ?_ (by first | exact Nat.le_refl _ | (simp; done) | (simp; omega)) _ | with_reducible refine Below.drew ?_ | refine bel_trans ?_ (by assumption))))).mono ?_
    rintro e w1 ⟨rfl, hb1⟩
    have t0 : w1.cell? ⟨w.heap.size, 0, none⟩ = some (.int .i64 k) := keep_cell hb1 (by go_simp)
    have t1 : w1.cell? ⟨w.heap.size, 1, none⟩ = some (.int .i64 x) := keep_cell hb1 (by go_simp)
    have t2 : w1.cell? ⟨w.heap.size, 2, none⟩ = some (.slice ea n ec) := keep_cell hb1 (by go_simp)
    have t3 : w1.cell? ⟨w.heap.size, 3, none⟩ = some (lk) := keep_cell hb1 (by go_simp)
    have t4 : w1.cell? ⟨w.heap.size, 4, none⟩ = some (.int .i64 st) := keep_cell hb1 (by go_simp)
    have tL : w.heap.size < w1.heap.size := block_lt_of_cell t0
    have s0 : w1.cell? ⟨(w.heap.size + 1), 0, none⟩ = some (.int .i64 k') := keep_cell hb1 (by go_simp)
    have s1 : w1.cell? ⟨(w.heap.size + 1), 1, none⟩ = some (.int .i64 x') := keep_cell hb1 (by go_simp)
    have s2 : w1.cell? ⟨(w.heap.size + 1), 2, none⟩ = some (.slice ea' n' ec') := keep_cell hb1 (by go_simp)
    have s3 : w1.cell? ⟨(w.heap.size + 1), 3, none⟩ = some (lk') := keep_cell hb1 (by go_simp)
    have s4 : w1.cell? ⟨(w.heap.size + 1), 4, none⟩ = some (.int .i64 st') := keep_cell hb1 (by go_simp)
    have sL : (w.heap.size + 1) < w1.heap.size := block_lt_of_cell s0
    have HB : Hid (Below w.heap.size w w1) := (by repeat (first | with_reducible exact Below.refl _ _ | with_reducible refine bel_alloc ?_ _ | with_reducible refine bel_set ?_ (by first | exact Nat.le_refl _ | (simp; done) | (simp; omega)) _ | with_reducible refine Below.drew ?_ | refine bel_trans ?_ (by assumption)))
    clear hb1
    go_wp2
    go_ret
    exact ⟨rfl, HB.out⟩

set_option maxHeartbeats 8000000 in
theorem traceRefines_short (k x st : Int) (ea : Option Addr) (n ec : Nat) (lk : Value) (es : List Ev) (ls : List Lk) (k' x' st' : Int) (ea' : Option Addr) (n' ec' : Nat) (lk' : Value) (es' : List Ev) (ls' : List Lk) (w : World) (HA : Hid (RunAt w ⟨k, x, .slice ea n ec, lk, st, es, ls⟩)) (HA' : Hid (RunAt w ⟨k', x', .slice ea' n' ec', lk', st', es', ls'⟩)) (HT : Hid (Tab w)) (g1 : ¬ (100 : Int) < n) (g2 : ¬ (100 : Int) < n') :
    Calls Tryd.prog 8 #[.agg #[.int .i64 k, .int .i64 x, .slice ea n ec, lk, .int .i64 st], .agg #[.int .i64 k', .int .i64 x', .slice ea' n' ec', lk', .int .i64 st']] w (retP (.bool true) w) := by
  obtain ⟨r, hr⟩ : ∃ r, refR ⟨k, x, .slice ea n ec, lk, st, es, ls⟩ ⟨k', x', .slice ea' n' ec', lk', st', es', ls'⟩ = r := ⟨_, rfl⟩
  have HR : Hid (refR ⟨k, x, .slice ea n ec, lk, st, es, ls⟩ ⟨k', x', .slice ea' n' ec', lk', st', es', ls'⟩ = r) := hr
  clear hr
  by_cases h3 : k' = 3
  · subst h3
    have hr : r = true := by rw [← HR.out]; simp [refR]
    subst hr
    go_enter Tryd.func8, Tryd.ntmps8
    go_wp2_with fail
    refine (awake_any _ (tab_keep HT.out (by repeat (first | with_reducible exact Below.refl _ _ | with_reducible refine bel_alloc ?_ _ | with_reducible refine bel_set ?_ (by first | exact Nat.le_refl _ | (simp; done) | (simp; omega)) _ | with_reducible refine Below.drew ?_ | refine bel_trans ?_ (by assumption))))).mono ?_
    rintro e w1 ⟨rfl, hb1⟩
    have t0 : w1.cell? ⟨w.heap.size, 0, none⟩ = some (.int .i64 k) := keep_cell hb1 (by go_simp)
    have t1 : w1.cell? ⟨w.heap.size, 1, none⟩ = some (.int .i64 x) := keep_cell hb1 (by go_simp)
    have t2 : w1.cell? ⟨w.heap.size, 2, none⟩ = some (.slice ea n ec) := keep_cell hb1 (by go_simp)
    have t3 : w1.cell? ⟨w.heap.size, 3, none⟩ = some (lk) := keep_cell hb1 (by go_simp)
    have t4 : w1.cell? ⟨w.heap.size, 4, none⟩ = some (.int .i64 st) := keep_cell hb1 (by go_simp)
    have tL : w.heap.size < w1.heap.size := block_lt_of_cell t0
    have s0 : w1.cell? ⟨(w.heap.size + 1), 0, none⟩ = some (.int .i64 3) := keep_cell hb1 (by go_simp)
    have s1 : w1.cell? ⟨(w.heap.size + 1), 1, none⟩ = some (.int .i64 x') := keep_cell hb1 (by go_simp)
    have s2 : w1.cell? ⟨(w.heap.size + 1), 2, none⟩ = some (.slice ea' n' ec') := keep_cell hb1 (by go_simp)
    have s3 : w1.cell? ⟨(w.heap.size + 1), 3, none⟩ = some (lk') := keep_cell hb1 (by go_simp)
    have s4 : w1.cell? ⟨(w.heap.size + 1), 4, none⟩ = some (.int .i64 st') := keep_cell hb1 (by go_simp)
    have sL : (w.heap.size + 1) < w1.heap.size := block_lt_of_cell s0
    have HB : Hid (Below w.heap.size w w1) := (by repeat (first | with_reducible exact Below.refl _ _ | with_reducible refine bel_alloc ?_ _ | with_reducible refine bel_set ?_ (by first | exact Nat.le_refl _ | (simp; done) | (simp; omega)) _ | with_reducible refine Below.drew ?_ | refine bel_trans ?_ (by assumption)))
    clear hb1
    go_wp2_with fail
    refine (refines_to ⟨k, x, .slice ea n ec, lk, st, es, ls⟩ ⟨3, x', .slice ea' n' ec', lk', st', es', ls'⟩ _ (HA.out.keep HB.out) (HA'.out.keep HB.out) true HR).mono ?_
    rintro e w2 ⟨rfl, hb2⟩
    replace t0 : w2.cell? ⟨w.heap.size, 0, none⟩ = some (.int .i64 k) := keep_cell hb2 (by go_simp)
    replace t1 : w2.cell? ⟨w.heap.size, 1, none⟩ = some (.int .i64 x) := keep_cell hb2 (by go_simp)
    replace t2 : w2.cell? ⟨w.heap.size, 2, none⟩ = some (.slice ea n ec) := keep_cell hb2 (by go_simp)
    replace t3 : w2.cell? ⟨w.heap.size, 3, none⟩ = some (lk) := keep_cell hb2 (by go_simp)
    replace t4 : w2.cell? ⟨w.heap.size, 4, none⟩ = some (.int .i64 st) := keep_cell hb2 (by go_simp)
    replace tL : w.heap.size < w2.heap.size := block_lt_of_cell t0
    replace s0 : w2.cell? ⟨(w.heap.size + 1), 0, none⟩ = some (.int .i64 3) := keep_cell hb2 (by go_simp)
    replace s1 : w2.cell? ⟨(w.heap.size + 1), 1, none⟩ = some (.int .i64 x') := keep_cell hb2 (by go_simp)
    replace s2 : w2.cell? ⟨(w.heap.size + 1), 2, none⟩ = some (.slice ea' n' ec') := keep_cell hb2 (by go_simp)
    replace s3 : w2.cell? ⟨(w.heap.size + 1), 3, none⟩ = some (lk') := keep_cell hb2 (by go_simp)
    replace s4 : w2.cell? ⟨(w.heap.size + 1), 4, none⟩ = some (.int .i64 st') := keep_cell hb2 (by go_simp)
    replace sL : (w.heap.size + 1) < w2.heap.size := block_lt_of_cell s0
    replace HB : Hid (Below w.heap.size w w2) := bel_trans HB.out hb2
    clear hb2
    go_wp2
    go_ret
    exact ⟨rfl, HB.out⟩
  have q3 : (k' == 3) = false := by simpa using h3
  by_cases h4 : k' = 4
  · subst h4
    have hr : r = false := by rw [← HR.out]; simp [refR]
    subst hr
    clear q3
    go_enter Tryd.func8, Tryd.ntmps8
    go_wp2_with fail
    refine (awake_any _ (tab_keep HT.out (by repeat (first | with_reducible exact Below.refl _ _ | with_reducible refine bel_alloc ?_ _ | with_reducible refine bel_set ?_ (by first | exact Nat.le_refl _ | (simp; done) | (simp; omega)) _ | with_reducible refine Below.drew ?_ | refine bel_trans ?_ (by assumption))))).mono ?_
    rintro e w1 ⟨rfl, hb1⟩
    have t0 : w1.cell? ⟨w.heap.size, 0, none⟩ = some (.int .i64 k) := keep_cell hb1 (by go_simp)
    have t1 : w1.cell? ⟨w.heap.size, 1, none⟩ = some (.int .i64 x) := keep_cell hb1 (by go_simp)
    have t2 : w1.cell? ⟨w.heap.size, 2, none⟩ = some (.slice ea n ec) := keep_cell hb1 (by go_simp)
    have t3 : w1.cell? ⟨w.heap.size, 3, none⟩ = some (lk) := keep_cell hb1 (by go_simp)
    have t4 : w1.cell? ⟨w.heap.size, 4, none⟩ = some (.int .i64 st) := keep_cell hb1 (by go_simp)
    have tL : w.heap.size < w1.heap.size := block_lt_of_cell t0
    have s0 : w1.cell? ⟨(w.heap.size + 1), 0, none⟩ = some (.int .i64 4) := keep_cell hb1 (by go_simp)
    have s1 : w1.cell? ⟨(w.heap.size + 1), 1, none⟩ = some (.int .i64 x') := keep_cell hb1 (by go_simp)
    have s2 : w1.cell? ⟨(w.heap.size + 1), 2, none⟩ = some (.slice ea' n' ec') := keep_cell hb1 (by go_simp)
    have s3 : w1.cell? ⟨(w.heap.size + 1), 3, none⟩ = some (lk') := keep_cell hb1 (by go_simp)
    have s4 : w1.cell? ⟨(w.heap.size + 1), 4, none⟩ = some (.int .i64 st') := keep_cell hb1 (by go_simp)
    have sL : (w.heap.size + 1) < w1.heap.size := block_lt_of_cell s0
    have HB : Hid (Below w.heap.size w w1) := (by repeat (first | with_reducible exact Below.refl _ _ | with_reducible refine bel_alloc ?_ _ | with_reducible refine bel_set ?_ (by first | exact Nat.le_refl _ | (simp; done) | (simp; omega)) _ | with_reducible refine Below.drew ?_ | refine bel_trans ?_ (by assumption)))
    clear hb1
    go_wp2_with fail
    refine (refines_to ⟨k, x, .slice ea n ec, lk, st, es, ls⟩ ⟨4, x', .slice ea' n' ec', lk', st', es', ls'⟩ _ (HA.out.keep HB.out) (HA'.out.keep HB.out) false HR).mono ?_
    rintro e w2 ⟨rfl, hb2⟩
    replace t0 : w2.cell? ⟨w.heap.size, 0, none⟩ = some (.int .i64 k) := keep_cell hb2 (by go_simp)
    replace t1 : w2.cell? ⟨w.heap.size, 1, none⟩ = some (.int .i64 x) := keep_cell hb2 (by go_simp)
    replace t2 : w2.cell? ⟨w.heap.size, 2, none⟩ = some (.slice ea n ec) := keep_cell hb2 (by go_simp)
    replace t3 : w2.cell? ⟨w.heap.size, 3, none⟩ = some (lk) := keep_cell hb2 (by go_simp)
    replace t4 : w2.cell? ⟨w.heap.size, 4, none⟩ = some (.int .i64 st) := keep_cell hb2 (by go_simp)
    replace tL : w.heap.size < w2.heap.size := block_lt_of_cell t0
    replace s0 : w2.cell? ⟨(w.heap.size + 1), 0, none⟩ = some (.int .i64 4) := keep_cell hb2 (by go_simp)
    replace s1 : w2.cell? ⟨(w.heap.size + 1), 1, none⟩ = some (.int .i64 x') := keep_cell hb2 (by go_simp)
    replace s2 : w2.cell? ⟨(w.heap.size + 1), 2, none⟩ = some (.slice ea' n' ec') := keep_cell hb2 (by go_simp)
    replace s3 : w2.cell? ⟨(w.heap.size + 1), 3, none⟩ = some (lk') := keep_cell hb2 (by go_simp)
    replace s4 : w2.cell? ⟨(w.heap.size + 1), 4, none⟩ = some (.int .i64 st') := keep_cell hb2 (by go_simp)
    replace sL : (w.heap.size + 1) < w2.heap.size := block_lt_of_cell s0
    replace HB : Hid (Below w.heap.size w w2) := bel_trans HB.out hb2
    clear hb2
    go_wp2
    go_ret
    exact ⟨rfl, HB.out⟩
  have q4 : (k' == 4) = false := by simpa using h4
  by_cases h1 : k' = 1
  · subst h1
    clear q3 q4
    cases r
    · go_enter Tryd.func8, Tryd.ntmps8
      go_wp2_with fail
      refine (awake_any _ (tab_keep HT.out (by repeat (first | with_reducible exact Below.refl _ _ | with_reducible refine bel_alloc ?_ _ | with_reducible refine bel_set ?_ (by first | exact Nat.le_refl _ | (simp; done) | (simp; omega)) _ | with_reducible refine Below.drew ?_ | refine bel_trans ?_ (by assumption))))).mono ?_
      rintro e w1 ⟨rfl, hb1⟩
      have t0 : w1.cell? ⟨w.heap.size, 0, none⟩ = some (.int .i64 k) := keep_cell hb1 (by go_simp)
      have t1 : w1.cell? ⟨w.heap.size, 1, none⟩ = some (.int .i64 x) := keep_cell hb1 (by go_simp)
      have t2 : w1.cell? ⟨w.heap.size, 2, none⟩ = some (.slice ea n ec) := keep_cell hb1 (by go_simp)
      have t3 : w1.cell? ⟨w.heap.size, 3, none⟩ = some (lk) := keep_cell hb1 (by go_simp)
      have t4 : w1.cell? ⟨w.heap.size, 4, none⟩ = some (.int .i64 st) := keep_cell hb1 (by go_simp)
      have tL : w.heap.size < w1.heap.size := block_lt_of_cell t0
      have s0 : w1.cell? ⟨(w.heap.size + 1), 0, none⟩ = some (.int .i64 1) := keep_cell hb1 (by go_simp)
      have s1 : w1.cell? ⟨(w.heap.size + 1), 1, none⟩ = some (.int .i64 x') := keep_cell hb1 (by go_simp)
      have s2 : w1.cell? ⟨(w.heap.size + 1), 2, none⟩ = some (.slice ea' n' ec') := keep_cell hb1 (by go_simp)
      have s3 : w1.cell? ⟨(w.heap.size + 1), 3, none⟩ = some (lk') := keep_cell hb1 (by go_simp)
      have s4 : w1.cell? ⟨(w.heap.size + 1), 4, none⟩ = some (.int .i64 st') := keep_cell hb1 (by go_simp)
      have sL : (w.heap.size + 1) < w1.heap.size := block_lt_of_cell s0
      have HB : Hid (Below w.heap.size w w1) := (by repeat (first | with_reducible exact Below.refl _ _ | with_reducible refine bel_alloc ?_ _ | with_reducible refine bel_set ?_ (by first | exact Nat.le_refl _ | (simp; done) | (simp; omega)) _ | with_reducible refine Below.drew ?_ | refine bel_trans ?_ (by assumption)))
      clear hb1
      go_wp2_with fail
      refine (refines_to ⟨k, x, .slice ea n ec, lk, st, es, ls⟩ ⟨1, x', .slice ea' n' ec', lk', st', es', ls'⟩ _ (HA.out.keep HB.out) (HA'.out.keep HB.out) false HR).mono ?_
      rintro e w2 ⟨rfl, hb2⟩
      replace t0 : w2.cell? ⟨w.heap.size, 0, none⟩ = some (.int .i64 k) := keep_cell hb2 (by go_simp)
      replace t1 : w2.cell? ⟨w.heap.size, 1, none⟩ = some (.int .i64 x) := keep_cell hb2 (by go_simp)
      replace t2 : w2.cell? ⟨w.heap.size, 2, none⟩ = some (.slice ea n ec) := keep_cell hb2 (by go_simp)
      replace t3 : w2.cell? ⟨w.heap.size, 3, none⟩ = some (lk) := keep_cell hb2 (by go_simp)
      replace t4 : w2.cell? ⟨w.heap.size, 4, none⟩ = some (.int .i64 st) := keep_cell hb2 (by go_simp)
      replace tL : w.heap.size < w2.heap.size := block_lt_of_cell t0
      replace s0 : w2.cell? ⟨(w.heap.size + 1), 0, none⟩ = some (.int .i64 1) := keep_cell hb2 (by go_simp)
      replace s1 : w2.cell? ⟨(w.heap.size + 1), 1, none⟩ = some (.int .i64 x') := keep_cell hb2 (by go_simp)
      replace s2 : w2.cell? ⟨(w.heap.size + 1), 2, none⟩ = some (.slice ea' n' ec') := keep_cell hb2 (by go_simp)
      replace s3 : w2.cell? ⟨(w.heap.size + 1), 3, none⟩ = some (lk') := keep_cell hb2 (by go_simp)
      replace s4 : w2.cell? ⟨(w.heap.size + 1), 4, none⟩ = some (.int .i64 st') := keep_cell hb2 (by go_simp)
      replace sL : (w.heap.size + 1) < w2.heap.size := block_lt_of_cell s0
      replace HB : Hid (Below w.heap.size w w2) := bel_trans HB.out hb2
      clear hb2
      go_wp2
      go_ret
      exact ⟨rfl, HB.out⟩
    · have h := HR.out
      simp only [refR, if_true, Bool.or_eq_true, Bool.and_eq_true] at h
      have hpre : evPre es es' = true := by
        rcases h with h | h
        · simp only [sameR, evEq, Bool.and_eq_true, decide_eq_true_eq] at h
          simp [evPre, h.2]
        · exact h.2
      by_cases hk : k = 1
      · subst hk
        have hs : sameR ⟨1, x, .slice ea n ec, lk, st, es, ls⟩ ⟨1, x', .slice ea' n' ec', lk', st', es', ls'⟩ = true := by
          rcases h with h | h
          · exact h
          · simp [cutR] at h
        have HS : Hid (sameR ⟨1, x, .slice ea n ec, lk, st, es, ls⟩ ⟨1, x', .slice ea' n' ec', lk', st', es', ls'⟩ = true) := hs
        have HP : Hid (true = evPre es es') := hpre.symm
        clear h hpre hs
        go_enter Tryd.func8, Tryd.ntmps8
        go_wp2_with fail
        refine (awake_any _ (tab_keep HT.out (by repeat (first | with_reducible exact Below.refl _ _ | with_reducible refine bel_alloc ?_ _ | with_reducible refine bel_set ?_ (by first | exact Nat.le_refl _ | (simp; done) | (simp; omega)) _ | with_reducible refine Below.drew ?_ | refine bel_trans ?_ (by assumption))))).mono ?_
        rintro e w1 ⟨rfl, hb1⟩
        have t0 : w1.cell? ⟨w.heap.size, 0, none⟩ = some (.int .i64 1) := keep_cell hb1 (by go_simp)
        have t1 : w1.cell? ⟨w.heap.size, 1, none⟩ = some (.int .i64 x) := keep_cell hb1 (by go_simp)
        have t2 : w1.cell? ⟨w.heap.size, 2, none⟩ = some (.slice ea n ec) := keep_cell hb1 (by go_simp)
        have t3 : w1.cell? ⟨w.heap.size, 3, none⟩ = some (lk) := keep_cell hb1 (by go_simp)
        have t4 : w1.cell? ⟨w.heap.size, 4, none⟩ = some (.int .i64 st) := keep_cell hb1 (by go_simp)
        have tL : w.heap.size < w1.heap.size := block_lt_of_cell t0
        have s0 : w1.cell? ⟨(w.heap.size + 1), 0, none⟩ = some (.int .i64 1) := keep_cell hb1 (by go_simp)
        have s1 : w1.cell? ⟨(w.heap.size + 1), 1, none⟩ = some (.int .i64 x') := keep_cell hb1 (by go_simp)
        have s2 : w1.cell? ⟨(w.heap.size + 1), 2, none⟩ = some (.slice ea' n' ec') := keep_cell hb1 (by go_simp)
        have s3 : w1.cell? ⟨(w.heap.size + 1), 3, none⟩ = some (lk') := keep_cell hb1 (by go_simp)
        have s4 : w1.cell? ⟨(w.heap.size + 1), 4, none⟩ = some (.int .i64 st') := keep_cell hb1 (by go_simp)
        have sL : (w.heap.size + 1) < w1.heap.size := block_lt_of_cell s0
        have HB : Hid (Below w.heap.size w w1) := (by repeat (first | with_reducible exact Below.refl _ _ | with_reducible refine bel_alloc ?_ _ | with_reducible refine bel_set ?_ (by first | exact Nat.le_refl _ | (simp; done) | (simp; omega)) _ | with_reducible refine Below.drew ?_ | refine bel_trans ?_ (by assumption)))
        clear hb1
        go_wp2_with fail
        refine (refines_to ⟨1, x, .slice ea n ec, lk, st, es, ls⟩ ⟨1, x', .slice ea' n' ec', lk', st', es', ls'⟩ _ (HA.out.keep HB.out) (HA'.out.keep HB.out) true HR).mono ?_
        rintro e w2 ⟨rfl, hb2⟩
        replace t0 : w2.cell? ⟨w.heap.size, 0, none⟩ = some (.int .i64 1) := keep_cell hb2 (by go_simp)
        replace t1 : w2.cell? ⟨w.heap.size, 1, none⟩ = some (.int .i64 x) := keep_cell hb2 (by go_simp)
        replace t2 : w2.cell? ⟨w.heap.size, 2, none⟩ = some (.slice ea n ec) := keep_cell hb2 (by go_simp)
        replace t3 : w2.cell? ⟨w.heap.size, 3, none⟩ = some (lk) := keep_cell hb2 (by go_simp)
        replace t4 : w2.cell? ⟨w.heap.size, 4, none⟩ = some (.int .i64 st) := keep_cell hb2 (by go_simp)
        replace tL : w.heap.size < w2.heap.size := block_lt_of_cell t0
        replace s0 : w2.cell? ⟨(w.heap.size + 1), 0, none⟩ = some (.int .i64 1) := keep_cell hb2 (by go_simp)
        replace s1 : w2.cell? ⟨(w.heap.size + 1), 1, none⟩ = some (.int .i64 x') := keep_cell hb2 (by go_simp)
        replace s2 : w2.cell? ⟨(w.heap.size + 1), 2, none⟩ = some (.slice ea' n' ec') := keep_cell hb2 (by go_simp)
        replace s3 : w2.cell? ⟨(w.heap.size + 1), 3, none⟩ = some (lk') := keep_cell hb2 (by go_simp)
        replace s4 : w2.cell? ⟨(w.heap.size + 1), 4, none⟩ = some (.int .i64 st') := keep_cell hb2 (by go_simp)
        replace sL : (w.heap.size + 1) < w2.heap.size := block_lt_of_cell s0
        replace HB : Hid (Below w.heap.size w w2) := bel_trans HB.out hb2
        clear hb2
        go_wp2_with fail
        refine (prefix_to (EvAt.keep HA.out.1 HB.out) (EvAt.keep HA'.out.1 HB.out) (r := true) HP).mono ?_
        rintro e w3 ⟨rfl, hb3⟩
        replace t0 : w3.cell? ⟨w.heap.size, 0, none⟩ = some (.int .i64 1) := keep_cell hb3 (by go_simp)
        replace t1 : w3.cell? ⟨w.heap.size, 1, none⟩ = some (.int .i64 x) := keep_cell hb3 (by go_simp)
        replace t2 : w3.cell? ⟨w.heap.size, 2, none⟩ = some (.slice ea n ec) := keep_cell hb3 (by go_simp)
        replace t3 : w3.cell? ⟨w.heap.size, 3, none⟩ = some (lk) := keep_cell hb3 (by go_simp)
        replace t4 : w3.cell? ⟨w.heap.size, 4, none⟩ = some (.int .i64 st) := keep_cell hb3 (by go_simp)
        replace tL : w.heap.size < w3.heap.size := block_lt_of_cell t0
        replace s0 : w3.cell? ⟨(w.heap.size + 1), 0, none⟩ = some (.int .i64 1) := keep_cell hb3 (by go_simp)
        replace s1 : w3.cell? ⟨(w.heap.size + 1), 1, none⟩ = some (.int .i64 x') := keep_cell hb3 (by go_simp)
        replace s2 : w3.cell? ⟨(w.heap.size + 1), 2, none⟩ = some (.slice ea' n' ec') := keep_cell hb3 (by go_simp)
        replace s3 : w3.cell? ⟨(w.heap.size + 1), 3, none⟩ = some (lk') := keep_cell hb3 (by go_simp)
        replace s4 : w3.cell? ⟨(w.heap.size + 1), 4, none⟩ = some (.int .i64 st') := keep_cell hb3 (by go_simp)
        replace sL : (w.heap.size + 1) < w3.heap.size := block_lt_of_cell s0
        replace HB : Hid (Below w.heap.size w w3) := bel_trans HB.out hb3
        clear hb3
        go_wp2_with fail
        refine (same_to ⟨1, x, .slice ea n ec, lk, st, es, ls⟩ ⟨1, x', .slice ea' n' ec', lk', st', es', ls'⟩ _ (HA.out.keep HB.out) (HA'.out.keep HB.out) true HS).mono ?_
        rintro e w4 ⟨rfl, hb4⟩
        replace t0 : w4.cell? ⟨w.heap.size, 0, none⟩ = some (.int .i64 1) := keep_cell hb4 (by go_simp)
        replace t1 : w4.cell? ⟨w.heap.size, 1, none⟩ = some (.int .i64 x) := keep_cell hb4 (by go_simp)
        replace t2 : w4.cell? ⟨w.heap.size, 2, none⟩ = some (.slice ea n ec) := keep_cell hb4 (by go_simp)
        replace t3 : w4.cell? ⟨w.heap.size, 3, none⟩ = some (lk) := keep_cell hb4 (by go_simp)
        replace t4 : w4.cell? ⟨w.heap.size, 4, none⟩ = some (.int .i64 st) := keep_cell hb4 (by go_simp)
        replace tL : w.heap.size < w4.heap.size := block_lt_of_cell t0
        replace s0 : w4.cell? ⟨(w.heap.size + 1), 0, none⟩ = some (.int .i64 1) := keep_cell hb4 (by go_simp)
        replace s1 : w4.cell? ⟨(w.heap.size + 1), 1, none⟩ = some (.int .i64 x') := keep_cell hb4 (by go_simp)
        replace s2 : w4.cell? ⟨(w.heap.size + 1), 2, none⟩ = some (.slice ea' n' ec') := keep_cell hb4 (by go_simp)
        replace s3 : w4.cell? ⟨(w.heap.size + 1), 3, none⟩ = some (lk') := keep_cell hb4 (by go_simp)
        replace s4 : w4.cell? ⟨(w.heap.size + 1), 4, none⟩ = some (.int .i64 st') := keep_cell hb4 (by go_simp)
        replace sL : (w.heap.size + 1) < w4.heap.size := block_lt_of_cell s0
        replace HB : Hid (Below w.heap.size w w4) := bel_trans HB.out hb4
        clear hb4
        go_wp2
        go_ret
        exact ⟨rfl, HB.out⟩
      · have qk : (k == 1) = false := by simpa using hk
        have qk' : (k != 1) = true := by simpa using hk
        have hk3 : (k != 3) = true := by
          rcases h with h | h
          · simp [sameR, hk] at h
          · simp only [cutR, decide_eq_true_eq] at h; simp; omega
        have qk3 : (k == 3) = false := by simpa using hk3
        have HP : Hid (true = evPre es es') := hpre.symm
        clear h hpre hk
        go_enter Tryd.func8, Tryd.ntmps8
        go_wp2_with fail
        refine (awake_any _ (tab_keep HT.out (by repeat (first | with_reducible exact Below.refl _ _ | with_reducible refine bel_alloc ?_ _ | with_reducible refine bel_set ?_ (by first | exact Nat.le_refl _ | (simp; done) | (simp; omega)) _ | with_reducible refine Below.drew ?_ | refine bel_trans ?_ (by assumption))))).mono ?_
        rintro e w1 ⟨rfl, hb1⟩
        have t0 : w1.cell? ⟨w.heap.size, 0, none⟩ = some (.int .i64 k) := keep_cell hb1 (by go_simp)
        have t1 : w1.cell? ⟨w.heap.size, 1, none⟩ = some (.int .i64 x) := keep_cell hb1 (by go_simp)
        have t2 : w1.cell? ⟨w.heap.size, 2, none⟩ = some (.slice ea n ec) := keep_cell hb1 (by go_simp)
        have t3 : w1.cell? ⟨w.heap.size, 3, none⟩ = some (lk) := keep_cell hb1 (by go_simp)
        have t4 : w1.cell? ⟨w.heap.size, 4, none⟩ = some (.int .i64 st) := keep_cell hb1 (by go_simp)
        have tL : w.heap.size < w1.heap.size := block_lt_of_cell t0
        have s0 : w1.cell? ⟨(w.heap.size + 1), 0, none⟩ = some (.int .i64 1) := keep_cell hb1 (by go_simp)
        have s1 : w1.cell? ⟨(w.heap.size + 1), 1, none⟩ = some (.int .i64 x') := keep_cell hb1 (by go_simp)
        have s2 : w1.cell? ⟨(w.heap.size + 1), 2, none⟩ = some (.slice ea' n' ec') := keep_cell hb1 (by go_simp)
        have s3 : w1.cell? ⟨(w.heap.size + 1), 3, none⟩ = some (lk') := keep_cell hb1 (by go_simp)
        have s4 : w1.cell? ⟨(w.heap.size + 1), 4, none⟩ = some (.int .i64 st') := keep_cell hb1 (by go_simp)
        have sL : (w.heap.size + 1) < w1.heap.size := block_lt_of_cell s0
        have HB : Hid (Below w.heap.size w w1) := (by repeat (first | with_reducible exact Below.refl _ _ | with_reducible refine bel_alloc ?_ _ | with_reducible refine bel_set ?_ (by first | exact Nat.le_refl _ | (simp; done) | (simp; omega)) _ | with_reducible refine Below.drew ?_ | refine bel_trans ?_ (by assumption)))
        clear hb1
        go_wp2_with fail
        refine (refines_to ⟨k, x, .slice ea n ec, lk, st, es, ls⟩ ⟨1, x', .slice ea' n' ec', lk', st', es', ls'⟩ _ (HA.out.keep HB.out) (HA'.out.keep HB.out) true HR).mono ?_
        rintro e w2 ⟨rfl, hb2⟩
        replace t0 : w2.cell? ⟨w.heap.size, 0, none⟩ = some (.int .i64 k) := keep_cell hb2 (by go_simp)
        replace t1 : w2.cell? ⟨w.heap.size, 1, none⟩ = some (.int .i64 x) := keep_cell hb2 (by go_simp)
        replace t2 : w2.cell? ⟨w.heap.size, 2, none⟩ = some (.slice ea n ec) := keep_cell hb2 (by go_simp)
        replace t3 : w2.cell? ⟨w.heap.size, 3, none⟩ = some (lk) := keep_cell hb2 (by go_simp)
        replace t4 : w2.cell? ⟨w.heap.size, 4, none⟩ = some (.int .i64 st) := keep_cell hb2 (by go_simp)
        replace tL : w.heap.size < w2.heap.size := block_lt_of_cell t0
        replace s0 : w2.cell? ⟨(w.heap.size + 1), 0, none⟩ = some (.int .i64 1) := keep_cell hb2 (by go_simp)
        replace s1 : w2.cell? ⟨(w.heap.size + 1), 1, none⟩ = some (.int .i64 x') := keep_cell hb2 (by go_simp)
        replace s2 : w2.cell? ⟨(w.heap.size + 1), 2, none⟩ = some (.slice ea' n' ec') := keep_cell hb2 (by go_simp)
        replace s3 : w2.cell? ⟨(w.heap.size + 1), 3, none⟩ = some (lk') := keep_cell hb2 (by go_simp)
        replace s4 : w2.cell? ⟨(w.heap.size + 1), 4, none⟩ = some (.int .i64 st') := keep_cell hb2 (by go_simp)
        replace sL : (w.heap.size + 1) < w2.heap.size := block_lt_of_cell s0
        replace HB : Hid (Below w.heap.size w w2) := bel_trans HB.out hb2
        clear hb2
        go_wp2_with fail
        refine (prefix_to (EvAt.keep HA.out.1 HB.out) (EvAt.keep HA'.out.1 HB.out) (r := true) HP).mono ?_
        rintro e w3 ⟨rfl, hb3⟩
        replace t0 : w3.cell? ⟨w.heap.size, 0, none⟩ = some (.int .i64 k) := keep_cell hb3 (by go_simp)
        replace t1 : w3.cell? ⟨w.heap.size, 1, none⟩ = some (.int .i64 x) := keep_cell hb3 (by go_simp)
        replace t2 : w3.cell? ⟨w.heap.size, 2, none⟩ = some (.slice ea n ec) := keep_cell hb3 (by go_simp)
        replace t3 : w3.cell? ⟨w.heap.size, 3, none⟩ = some (lk) := keep_cell hb3 (by go_simp)
        replace t4 : w3.cell? ⟨w.heap.size, 4, none⟩ = some (.int .i64 st) := keep_cell hb3 (by go_simp)
        replace tL : w.heap.size < w3.heap.size := block_lt_of_cell t0
        replace s0 : w3.cell? ⟨(w.heap.size + 1), 0, none⟩ = some (.int .i64 1) := keep_cell hb3 (by go_simp)
        replace s1 : w3.cell? ⟨(w.heap.size + 1), 1, none⟩ = some (.int .i64 x') := keep_cell hb3 (by go_simp)
        replace s2 : w3.cell? ⟨(w.heap.size + 1), 2, none⟩ = some (.slice ea' n' ec') := keep_cell hb3 (by go_simp)
        replace s3 : w3.cell? ⟨(w.heap.size + 1), 3, none⟩ = some (lk') := keep_cell hb3 (by go_simp)
        replace s4 : w3.cell? ⟨(w.heap.size + 1), 4, none⟩ = some (.int .i64 st') := keep_cell hb3 (by go_simp)
        replace sL : (w.heap.size + 1) < w3.heap.size := block_lt_of_cell s0
        replace HB : Hid (Below w.heap.size w w3) := bel_trans HB.out hb3
        clear hb3
        go_wp2
        go_ret
        exact ⟨rfl, HB.out⟩
  have q1 : (k' == 1) = false := by simpa using h1
  by_cases h2 : k' = 2
  · subst h2
    clear q3 q4 q1
    cases r
    · go_enter Tryd.func8, Tryd.ntmps8
      go_wp2_with fail
      refine (awake_any _ (tab_keep HT.out (by repeat (first | with_reducible exact Below.refl _ _ | with_reducible refine bel_alloc ?_ _ | with_reducible refine bel_set ?_ (by first | exact Nat.le_refl _ | (simp; done) | (simp; omega)) _ | with_reducible refine Below.drew ?_ | refine bel_trans ?_ (by assumption))))).mono ?_
      rintro e w1 ⟨rfl, hb1⟩
      have t0 : w1.cell? ⟨w.heap.size, 0, none⟩ = some (.int .i64 k) := keep_cell hb1 (by go_simp)
      have t1 : w1.cell? ⟨w.heap.size, 1, none⟩ = some (.int .i64 x) := keep_cell hb1 (by go_simp)
      have t2 : w1.cell? ⟨w.heap.size, 2, none⟩ = some (.slice ea n ec) := keep_cell hb1 (by go_simp)
      have t3 : w1.cell? ⟨w.heap.size, 3, none⟩ = some (lk) := keep_cell hb1 (by go_simp)
      have t4 : w1.cell? ⟨w.heap.size, 4, none⟩ = some (.int .i64 st) := keep_cell hb1 (by go_simp)
      have tL : w.heap.size < w1.heap.size := block_lt_of_cell t0
      have s0 : w1.cell? ⟨(w.heap.size + 1), 0, none⟩ = some (.int .i64 2) := keep_cell hb1 (by go_simp)
      have s1 : w1.cell? ⟨(w.heap.size + 1), 1, none⟩ = some (.int .i64 x') := keep_cell hb1 (by go_simp)
      have s2 : w1.cell? ⟨(w.heap.size + 1), 2, none⟩ = some (.slice ea' n' ec') := keep_cell hb1 (by go_simp)
      have s3 : w1.cell? ⟨(w.heap.size + 1), 3, none⟩ = some (lk') := keep_cell hb1 (by go_simp)
      have s4 : w1.cell? ⟨(w.heap.size + 1), 4, none⟩ = some (.int .i64 st') := keep_cell hb1 (by go_simp)
      have sL : (w.heap.size + 1) < w1.heap.size := block_lt_of_cell s0
      have HB : Hid (Below w.heap.size w w1) := (by repeat (first | with_reducible exact Below.refl _ _ | with_reducible refine bel_alloc ?_ _ | with_reducible refine bel_set ?_ (by first | exact Nat.le_refl _ | (simp; done) | (simp; omega)) _ | with_reducible refine Below.drew ?_ | refine bel_trans ?_ (by assumption)))
      clear hb1
      go_wp2_with fail
      refine (refines_to ⟨k, x, .slice ea n ec, lk, st, es, ls⟩ ⟨2, x', .slice ea' n' ec', lk', st', es', ls'⟩ _ (HA.out.keep HB.out) (HA'.out.keep HB.out) false HR).mono ?_
      rintro e w2 ⟨rfl, hb2⟩
      replace t0 : w2.cell? ⟨w.heap.size, 0, none⟩ = some (.int .i64 k) := keep_cell hb2 (by go_simp)
      replace t1 : w2.cell? ⟨w.heap.size, 1, none⟩ = some (.int .i64 x) := keep_cell hb2 (by go_simp)
      replace t2 : w2.cell? ⟨w.heap.size, 2, none⟩ = some (.slice ea n ec) := keep_cell hb2 (by go_simp)
      replace t3 : w2.cell? ⟨w.heap.size, 3, none⟩ = some (lk) := keep_cell hb2 (by go_simp)
      replace t4 : w2.cell? ⟨w.heap.size, 4, none⟩ = some (.int .i64 st) := keep_cell hb2 (by go_simp)
      replace tL : w.heap.size < w2.heap.size := block_lt_of_cell t0
      replace s0 : w2.cell? ⟨(w.heap.size + 1), 0, none⟩ = some (.int .i64 2) := keep_cell hb2 (by go_simp)
      replace s1 : w2.cell? ⟨(w.heap.size + 1), 1, none⟩ = some (.int .i64 x') := keep_cell hb2 (by go_simp)
      replace s2 : w2.cell? ⟨(w.heap.size + 1), 2, none⟩ = some (.slice ea' n' ec') := keep_cell hb2 (by go_simp)
      replace s3 : w2.cell? ⟨(w.heap.size + 1), 3, none⟩ = some (lk') := keep_cell hb2 (by go_simp)
      replace s4 : w2.cell? ⟨(w.heap.size + 1), 4, none⟩ = some (.int .i64 st') := keep_cell hb2 (by go_simp)
      replace sL : (w.heap.size + 1) < w2.heap.size := block_lt_of_cell s0
      replace HB : Hid (Below w.heap.size w w2) := bel_trans HB.out hb2
      clear hb2
      go_wp2
      go_ret
      exact ⟨rfl, HB.out⟩
    · have h := HR.out
      simp only [refR] at h
      obtain ⟨r1, hr1⟩ : ∃ r, evPre es es' = r := ⟨_, rfl⟩
      have HP : Hid (r1 = evPre es es') := hr1.symm
      cases r1
      · have HP2 : Hid (true = evPre es' es) := by simp [hr1] at h; exact h.symm
        clear h hr1
        go_enter Tryd.func8, Tryd.ntmps8
        go_wp2_with fail
        refine (awake_any _ (tab_keep HT.out (by repeat (first | with_reducible exact Below.refl _ _ | with_reducible refine bel_alloc ?_ _ | with_reducible refine bel_set ?_ (by first | exact Nat.le_refl _ | (simp; done) | (simp; omega)) _ | with_reducible refine Below.drew ?_ | refine bel_trans ?_ (by assumption))))).mono ?_
        rintro e w1 ⟨rfl, hb1⟩
        have t0 : w1.cell? ⟨w.heap.size, 0, none⟩ = some (.int .i64 k) := keep_cell hb1 (by go_simp)
        have t1 : w1.cell? ⟨w.heap.size, 1, none⟩ = some (.int .i64 x) := keep_cell hb1 (by go_simp)
        have t2 : w1.cell? ⟨w.heap.size, 2, none⟩ = some (.slice ea n ec) := keep_cell hb1 (by go_simp)
        have t3 : w1.cell? ⟨w.heap.size, 3, none⟩ = some (lk) := keep_cell hb1 (by go_simp)
        have t4 : w1.cell? ⟨w.heap.size, 4, none⟩ = some (.int .i64 st) := keep_cell hb1 (by go_simp)
        have tL : w.heap.size < w1.heap.size := block_lt_of_cell t0
        have s0 : w1.cell? ⟨(w.heap.size + 1), 0, none⟩ = some (.int .i64 2) := keep_cell hb1 (by go_simp)
        have s1 : w1.cell? ⟨(w.heap.size + 1), 1, none⟩ = some (.int .i64 x') := keep_cell hb1 (by go_simp)
        have s2 : w1.cell? ⟨(w.heap.size + 1), 2, none⟩ = some (.slice ea' n' ec') := keep_cell hb1 (by go_simp)
        have s3 : w1.cell? ⟨(w.heap.size + 1), 3, none⟩ = some (lk') := keep_cell hb1 (by go_simp)
        have s4 : w1.cell? ⟨(w.heap.size + 1), 4, none⟩ = some (.int .i64 st') := keep_cell hb1 (by go_simp)
        have sL : (w.heap.size + 1) < w1.heap.size := block_lt_of_cell s0
        have HB : Hid (Below w.heap.size w w1) := (by repeat (first | with_reducible exact Below.refl _ _ | with_reducible refine bel_alloc ?_ _ | with_reducible refine bel_set ?_ (by first | exact Nat.le_refl _ | (simp; done) | (simp; omega)) _ | with_reducible refine Below.drew ?_ | refine bel_trans ?_ (by assumption)))
        clear hb1
        go_wp2_with fail
        refine (refines_to ⟨k, x, .slice ea n ec, lk, st, es, ls⟩ ⟨2, x', .slice ea' n' ec', lk', st', es', ls'⟩ _ (HA.out.keep HB.out) (HA'.out.keep HB.out) true HR).mono ?_
        rintro e w2 ⟨rfl, hb2⟩
        replace t0 : w2.cell? ⟨w.heap.size, 0, none⟩ = some (.int .i64 k) := keep_cell hb2 (by go_simp)
        replace t1 : w2.cell? ⟨w.heap.size, 1, none⟩ = some (.int .i64 x) := keep_cell hb2 (by go_simp)
        replace t2 : w2.cell? ⟨w.heap.size, 2, none⟩ = some (.slice ea n ec) := keep_cell hb2 (by go_simp)
        replace t3 : w2.cell? ⟨w.heap.size, 3, none⟩ = some (lk) := keep_cell hb2 (by go_simp)
        replace t4 : w2.cell? ⟨w.heap.size, 4, none⟩ = some (.int .i64 st) := keep_cell hb2 (by go_simp)
        replace tL : w.heap.size < w2.heap.size := block_lt_of_cell t0
        replace s0 : w2.cell? ⟨(w.heap.size + 1), 0, none⟩ = some (.int .i64 2) := keep_cell hb2 (by go_simp)
        replace s1 : w2.cell? ⟨(w.heap.size + 1), 1, none⟩ = some (.int .i64 x') := keep_cell hb2 (by go_simp)
        replace s2 : w2.cell? ⟨(w.heap.size + 1), 2, none⟩ = some (.slice ea' n' ec') := keep_cell hb2 (by go_simp)
        replace s3 : w2.cell? ⟨(w.heap.size + 1), 3, none⟩ = some (lk') := keep_cell hb2 (by go_simp)
        replace s4 : w2.cell? ⟨(w.heap.size + 1), 4, none⟩ = some (.int .i64 st') := keep_cell hb2 (by go_simp)
        replace sL : (w.heap.size + 1) < w2.heap.size := block_lt_of_cell s0
        replace HB : Hid (Below w.heap.size w w2) := bel_trans HB.out hb2
        clear hb2
        go_wp2_with fail
        refine (prefix_to (EvAt.keep HA.out.1 HB.out) (EvAt.keep HA'.out.1 HB.out) (r := false) HP).mono ?_
        rintro e w3 ⟨rfl, hb3⟩
        replace t0 : w3.cell? ⟨w.heap.size, 0, none⟩ = some (.int .i64 k) := keep_cell hb3 (by go_simp)
        replace t1 : w3.cell? ⟨w.heap.size, 1, none⟩ = some (.int .i64 x) := keep_cell hb3 (by go_simp)
        replace t2 : w3.cell? ⟨w.heap.size, 2, none⟩ = some (.slice ea n ec) := keep_cell hb3 (by go_simp)
        replace t3 : w3.cell? ⟨w.heap.size, 3, none⟩ = some (lk) := keep_cell hb3 (by go_simp)
        replace t4 : w3.cell? ⟨w.heap.size, 4, none⟩ = some (.int .i64 st) := keep_cell hb3 (by go_simp)
        replace tL : w.heap.size < w3.heap.size := block_lt_of_cell t0
        replace s0 : w3.cell? ⟨(w.heap.size + 1), 0, none⟩ = some (.int .i64 2) := keep_cell hb3 (by go_simp)
        replace s1 : w3.cell? ⟨(w.heap.size + 1), 1, none⟩ = some (.int .i64 x') := keep_cell hb3 (by go_simp)
        replace s2 : w3.cell? ⟨(w.heap.size + 1), 2, none⟩ = some (.slice ea' n' ec') := keep_cell hb3 (by go_simp)
        replace s3 : w3.cell? ⟨(w.heap.size + 1), 3, none⟩ = some (lk') := keep_cell hb3 (by go_simp)
        replace s4 : w3.cell? ⟨(w.heap.size + 1), 4, none⟩ = some (.int .i64 st') := keep_cell hb3 (by go_simp)
        replace sL : (w.heap.size + 1) < w3.heap.size := block_lt_of_cell s0
        replace HB : Hid (Below w.heap.size w w3) := bel_trans HB.out hb3
        clear hb3
        go_wp2_with fail
        refine (prefix_to (EvAt.keep HA'.out.1 HB.out) (EvAt.keep HA.out.1 HB.out) (r := true) HP2).mono ?_
        rintro e w4 ⟨rfl, hb4⟩
        replace t0 : w4.cell? ⟨w.heap.size, 0, none⟩ = some (.int .i64 k) := keep_cell hb4 (by go_simp)
        replace t1 : w4.cell? ⟨w.heap.size, 1, none⟩ = some (.int .i64 x) := keep_cell hb4 (by go_simp)
        replace t2 : w4.cell? ⟨w.heap.size, 2, none⟩ = some (.slice ea n ec) := keep_cell hb4 (by go_simp)
        replace t3 : w4.cell? ⟨w.heap.size, 3, none⟩ = some (lk) := keep_cell hb4 (by go_simp)
        replace t4 : w4.cell? ⟨w.heap.size, 4, none⟩ = some (.int .i64 st) := keep_cell hb4 (by go_simp)
        replace tL : w.heap.size < w4.heap.size := block_lt_of_cell t0
        replace s0 : w4.cell? ⟨(w.heap.size + 1), 0, none⟩ = some (.int .i64 2) := keep_cell hb4 (by go_simp)
        replace s1 : w4.cell? ⟨(w.heap.size + 1), 1, none⟩ = some (.int .i64 x') := keep_cell hb4 (by go_simp)
        replace s2 : w4.cell? ⟨(w.heap.size + 1), 2, none⟩ = some (.slice ea' n' ec') := keep_cell hb4 (by go_simp)
        replace s3 : w4.cell? ⟨(w.heap.size + 1), 3, none⟩ = some (lk') := keep_cell hb4 (by go_simp)
        replace s4 : w4.cell? ⟨(w.heap.size + 1), 4, none⟩ = some (.int .i64 st') := keep_cell hb4 (by go_simp)
        replace sL : (w.heap.size + 1) < w4.heap.size := block_lt_of_cell s0
        replace HB : Hid (Below w.heap.size w w4) := bel_trans HB.out hb4
        clear hb4
        go_wp2
        go_ret
        exact ⟨rfl, HB.out⟩
      · clear h hr1
        go_enter Tryd.func8, Tryd.ntmps8
        go_wp2_with fail
        refine (awake_any _ (tab_keep HT.out (by repeat (first | with_reducible exact Below.refl _ _ | with_reducible refine bel_alloc ?_ _ | with_reducible refine bel_set ?_ (by first | exact Nat.le_refl _ | (simp; done) | (simp; omega)) _ | with_reducible refine Below.drew ?_ | refine bel_trans ?_ (by assumption))))).mono ?_
        rintro e w1 ⟨rfl, hb1⟩
        have t0 : w1.cell? ⟨w.heap.size, 0, none⟩ = some (.int .i64 k) := keep_cell hb1 (by go_simp)
        have t1 : w1.cell? ⟨w.heap.size, 1, none⟩ = some (.int .i64 x) := keep_cell hb1 (by go_simp)
        have t2 : w1.cell? ⟨w.heap.size, 2, none⟩ = some (.slice ea n ec) := keep_cell hb1 (by go_simp)
        have t3 : w1.cell? ⟨w.heap.size, 3, none⟩ = some (lk) := keep_cell hb1 (by go_simp)
        have t4 : w1.cell? ⟨w.heap.size, 4, none⟩ = some (.int .i64 st) := keep_cell hb1 (by go_simp)
        have tL : w.heap.size < w1.heap.size := block_lt_of_cell t0
        have s0 : w1.cell? ⟨(w.heap.size + 1), 0, none⟩ = some (.int .i64 2) := keep_cell hb1 (by go_simp)
        have s1 : w1.cell? ⟨(w.heap.size + 1), 1, none⟩ = some (.int .i64 x') := keep_cell hb1 (by go_simp)
        have s2 : w1.cell? ⟨(w.heap.size + 1), 2, none⟩ = some (.slice ea' n' ec') := keep_cell hb1 (by go_simp)
        have s3 : w1.cell? ⟨(w.heap.size + 1), 3, none⟩ = some (lk') := keep_cell hb1 (by go_simp)
        have s4 : w1.cell? ⟨(w.heap.size + 1), 4, none⟩ = some (.int .i64 st') := keep_cell hb1 (by go_simp)
        have sL : (w.heap.size + 1) < w1.heap.size := block_lt_of_cell s0
        have HB : Hid (Below w.heap.size w w1) := (by repeat (first | with_reducible exact Below.refl _ _ | with_reducible refine bel_alloc ?_ _ | with_reducible refine bel_set ?_ (by first | exact Nat.le_refl _ | (simp; done) | (simp; omega)) _ | with_reducible refine Below.drew ?_ | refine bel_trans ?_ (by assumption)))
        clear hb1
        go_wp2_with fail
        refine (refines_to ⟨k, x, .slice ea n ec, lk, st, es, ls⟩ ⟨2, x', .slice ea' n' ec', lk', st', es', ls'⟩ _ (HA.out.keep HB.out) (HA'.out.keep HB.out) true HR).mono ?_
        rintro e w2 ⟨rfl, hb2⟩
        replace t0 : w2.cell? ⟨w.heap.size, 0, none⟩ = some (.int .i64 k) := keep_cell hb2 (by go_simp)
        replace t1 : w2.cell? ⟨w.heap.size, 1, none⟩ = some (.int .i64 x) := keep_cell hb2 (by go_simp)
        replace t2 : w2.cell? ⟨w.heap.size, 2, none⟩ = some (.slice ea n ec) := keep_cell hb2 (by go_simp)
        replace t3 : w2.cell? ⟨w.heap.size, 3, none⟩ = some (lk) := keep_cell hb2 (by go_simp)
        replace t4 : w2.cell? ⟨w.heap.size, 4, none⟩ = some (.int .i64 st) := keep_cell hb2 (by go_simp)
        replace tL : w.heap.size < w2.heap.size := block_lt_of_cell t0
        replace s0 : w2.cell? ⟨(w.heap.size + 1), 0, none⟩ = some (.int .i64 2) := keep_cell hb2 (by go_simp)
        replace s1 : w2.cell? ⟨(w.heap.size + 1), 1, none⟩ = some (.int .i64 x') := keep_cell hb2 (by go_simp)
        replace s2 : w2.cell? ⟨(w.heap.size + 1), 2, none⟩ = some (.slice ea' n' ec') := keep_cell hb2 (by go_simp)
        replace s3 : w2.cell? ⟨(w.heap.size + 1), 3, none⟩ = some (lk') := keep_cell hb2 (by go_simp)
        replace s4 : w2.cell? ⟨(w.heap.size + 1), 4, none⟩ = some (.int .i64 st') := keep_cell hb2 (by go_simp)
        replace sL : (w.heap.size + 1) < w2.heap.size := block_lt_of_cell s0
        replace HB : Hid (Below w.heap.size w w2) := bel_trans HB.out hb2
        clear hb2
        go_wp2_with fail
        refine (prefix_to (EvAt.keep HA.out.1 HB.out) (EvAt.keep HA'.out.1 HB.out) (r := true) HP).mono ?_
        rintro e w3 ⟨rfl, hb3⟩
        replace t0 : w3.cell? ⟨w.heap.size, 0, none⟩ = some (.int .i64 k) := keep_cell hb3 (by go_simp)
        replace t1 : w3.cell? ⟨w.heap.size, 1, none⟩ = some (.int .i64 x) := keep_cell hb3 (by go_simp)
        replace t2 : w3.cell? ⟨w.heap.size, 2, none⟩ = some (.slice ea n ec) := keep_cell hb3 (by go_simp)
        replace t3 : w3.cell? ⟨w.heap.size, 3, none⟩ = some (lk) := keep_cell hb3 (by go_simp)
        replace t4 : w3.cell? ⟨w.heap.size, 4, none⟩ = some (.int .i64 st) := keep_cell hb3 (by go_simp)
        replace tL : w.heap.size < w3.heap.size := block_lt_of_cell t0
        replace s0 : w3.cell? ⟨(w.heap.size + 1), 0, none⟩ = some (.int .i64 2) := keep_cell hb3 (by go_simp)
        replace s1 : w3.cell? ⟨(w.heap.size + 1), 1, none⟩ = some (.int .i64 x') := keep_cell hb3 (by go_simp)
        replace s2 : w3.cell? ⟨(w.heap.size + 1), 2, none⟩ = some (.slice ea' n' ec') := keep_cell hb3 (by go_simp)
        replace s3 : w3.cell? ⟨(w.heap.size + 1), 3, none⟩ = some (lk') := keep_cell hb3 (by go_simp)
        replace s4 : w3.cell? ⟨(w.heap.size + 1), 4, none⟩ = some (.int .i64 st') := keep_cell hb3 (by go_simp)
        replace sL : (w.heap.size + 1) < w3.heap.size := block_lt_of_cell s0
        replace HB : Hid (Below w.heap.size w w3) := bel_trans HB.out hb3
        clear hb3
        go_wp2
        go_ret
        exact ⟨rfl, HB.out⟩
  · have q2 : (k' == 2) = false := by simpa using h2
    clear h1 h2 h3 h4
    go_enter Tryd.func8, Tryd.ntmps8
    go_wp2_with fail
    refine (awake_any _ (tab_keep HT.out (by repeat (first | with_reducible exact Below.refl _ _ | with_reducible refine bel_alloc ?_ _ | with_reducible refine bel_set ?_ (by first | exact Nat.le_refl _ | (simp; done) | (simp; omega)) _ | with_reducible refine Below.drew ?_ | refine bel_trans ?_ (by assumption))))).mono ?_
    rintro e w1 ⟨rfl, hb1⟩
    have t0 : w1.cell? ⟨w.heap.size, 0, none⟩ = some (.int .i64 k) := keep_cell hb1 (by go_simp)
    have t1 : w1.cell? ⟨w.heap.size, 1, none⟩ = some (.int .i64 x) := keep_cell hb1 (by go_simp)
    have t2 : w1.cell? ⟨w.heap.size, 2, none⟩ = some (.slice ea n ec) := keep_cell hb1 (by go_simp)
    have t3 : w1.cell? ⟨w.heap.size, 3, none⟩ = some (lk) := keep_cell hb1 (by go_simp)
    have t4 : w1.cell? ⟨w.heap.size, 4, none⟩ = some (.int .i64 st) := keep_cell hb1 (by go_simp)
    have tL : w.heap.size < w1.heap.size := block_lt_of_cell t0
    have s0 : w1.cell? ⟨(w.heap.size + 1), 0, none⟩ = some (.int .i64 k') := keep_cell hb1 (by go_simp)
    have s1 : w1.cell? ⟨(w.heap.size + 1), 1, none⟩ = some (.int .i64 x') := keep_cell hb1 (by go_simp)
    have s2 : w1.cell? ⟨(w.heap.size + 1), 2, none⟩ = some (.slice ea' n' ec') := keep_cell hb1 (by go_simp)
    have s3 : w1.cell? ⟨(w.heap.size + 1), 3, none⟩ = some (lk') := keep_cell hb1 (by go_simp)
    have s4 : w1.cell? ⟨(w.heap.size + 1), 4, none⟩ = some (.int .i64 st') := keep_cell hb1 (by go_simp)
    have sL : (w.heap.size + 1) < w1.heap.size := block_lt_of_cell s0
    have HB : Hid (Below w.heap.size w w1) := (by repeat (first | with_reducible exact Below.refl _ _ | with_reducible refine bel_alloc ?_ _ | with_reducible refine bel_set ?_ (by first | exact Nat.le_refl _ | (simp; done) | (simp; omega)) _ | with_reducible refine Below.drew ?_ | refine bel_trans ?_ (by assumption)))
    clear hb1
    go_wp2_with fail
    refine (refines_to ⟨k, x, .slice ea n ec, lk, st, es, ls⟩ ⟨k', x', .slice ea' n' ec', lk', st', es', ls'⟩ _ (HA.out.keep HB.out) (HA'.out.keep HB.out) r HR).mono ?_
    rintro e w2 ⟨rfl, hb2⟩
    replace t0 : w2.cell? ⟨w.heap.size, 0, none⟩ = some (.int .i64 k) := keep_cell hb2 (by go_simp)
    replace t1 : w2.cell? ⟨w.heap.size, 1, none⟩ = some (.int .i64 x) := keep_cell hb2 (by go_simp)
    replace t2 : w2.cell? ⟨w.heap.size, 2, none⟩ = some (.slice ea n ec) := keep_cell hb2 (by go_simp)
    replace t3 : w2.cell? ⟨w.heap.size, 3, none⟩ = some (lk) := keep_cell hb2 (by go_simp)
    replace t4 : w2.cell? ⟨w.heap.size, 4, none⟩ = some (.int .i64 st) := keep_cell hb2 (by go_simp)
    replace tL : w.heap.size < w2.heap.size := block_lt_of_cell t0
    replace s0 : w2.cell? ⟨(w.heap.size + 1), 0, none⟩ = some (.int .i64 k') := keep_cell hb2 (by go_simp)
    replace s1 : w2.cell? ⟨(w.heap.size + 1), 1, none⟩ = some (.int .i64 x') := keep_cell hb2 (by go_simp)
    replace s2 : w2.cell? ⟨(w.heap.size + 1), 2, none⟩ = some (.slice ea' n' ec') := keep_cell hb2 (by go_simp)
    replace s3 : w2.cell? ⟨(w.heap.size + 1), 3, none⟩ = some (lk') := keep_cell hb2 (by go_simp)
    replace s4 : w2.cell? ⟨(w.heap.size + 1), 4, none⟩ = some (.int .i64 st') := keep_cell hb2 (by go_simp)
    replace sL : (w.heap.size + 1) < w2.heap.size := block_lt_of_cell s0
    replace HB : Hid (Below w.heap.size w w2) := bel_trans HB.out hb2
    clear hb2
    go_wp2
    go_ret
    exact ⟨rfl, HB.out⟩

theorem traceRefines_walk (A B : RD) (w : World) (ha : RunAt w A) (hb : RunAt w B) (ht : Tab w) : Calls Tryd.prog 8 #[A.v, B.v] w (retP (.bool true) w) := by
  obtain ⟨ea, n, ec, he, hn, hm⟩ := ha.shape
  obtain ⟨ea', n', ec', he', hn', hm'⟩ := hb.shape
  obtain ⟨k, x, ev, lk, st, es, ls⟩ := A
  obtain ⟨k', x', ev', lk', st', es', ls'⟩ := B
  simp only [] at he he'
  subst he he'
  by_cases h : 100 < n ∨ 100 < n'
  · exact traceRefines_long k x st ea n ec lk es ls k' x' st' ea' n' ec' lk' es' ls' w ha hb ht hm hm' h
  · exact traceRefines_short k x st ea n ec lk es ls k' x' st' ea' n' ec' lk' es' ls' w ha hb ht (by omega) (by omega)

set_option maxRecDepth 100000 in
theorem traceRefines_lifted (os : Os) (started : os.Started) (H : Type) (enc : TypeId × Value → H) :
    ReturnsInHanded {} Tryd.checked os 8 .any (fun w args => (Rows.traceRefinesSpec.pre enc Tryd.prog Tryd.f8 [] false w args ∧ laidMetH Tryd.prog laid3 w) ∧ sizedMet enc Tryd.prog Tryd.f8 (OpenSpec.ofChange Rows.traceRefinesSpec) false w args)
      (Rows.traceRefinesSpec.post enc Tryd.prog Tryd.f8 false true false false) := by
  refine returnsInHanded_of_change_and (C := Tryd.checked) (X := fun w _ => laidMetH Tryd.prog laid3 w) (fun _ _ _ hh h => h.of_heap hh) own started (by kernel_rfl) Tryd.func8
    (ChangeSpec.witness_shaped (enc := enc) (C := Tryd.checked) (os := os) (X := fun w _ => laidMetH Tryd.prog laid3 w) false (World.doorLaid Tryd.prog 400 os) #[.agg #[.int .i64 0, .int .i64 0, .slice none 0 0, .slice none 0 0, .int .i64 0], .agg #[.int .i64 0, .int .i64 0, .slice none 0 0, .slice none 0 0, .int .i64 0]] 8 rfl (World.shaped_of_RefB (by kernel_rfl) (by kernel_rfl)) (by kernel_rfl) (by kernel_rfl) (by kernel_rfl) (door_met os _)) ?_
  intro W base args ds gs before hval0 hW _ _ hL _
  have hval : ∀ (j : Nat) t v, Tryd.f8.params[j]? = some t → args[j]? = some v → Value.okWide Tryd.prog W .any base t v := hval0
  have hW' := hW
  obtain ⟨p, q, hA0, hV, rfl, hfz, hnd⟩ := hW
  have hA : DataW.TrodAll enc Tryd.prog W 0 (fun _ => true) true Tryd.f8.params.toList args.toList ds p := hA0
  rw [Tryd.params8] at hA hval
  obtain ⟨v0, vs0, d0, ds0, p0, q0, hargs, rfl, rfl, h0, r0⟩ := trodAll_cons hA
  obtain ⟨v1, vs1, d1, ds1, p1, q1, rfl, rfl, rfl, h1, r1⟩ := trodAll_cons r0
  obtain ⟨rfl, rfl, rfl⟩ := trodAll_nil r1
  obtain rfl : args = #[v0, v1] := by cases args; simp_all
  obtain ⟨rfl, rfl⟩ := trodVars_none hV
  have hlt0 : ∀ x ∈ p0, x.block < W.heap.size := fun x hx => by simpa using hW'.lt x (by simp [hx])
  have hargs0 : ∀ (W' : World), Below W.heap.size W W' → DataW.Trod enc Tryd.prog W' 0 (fun b => decide (b < W.heap.size)) true 27 v0 d0 p0 := fun W' hn => Below.trod laidOut (by kernel_rfl) (of_decide_eq_true (by kernel_rfl)) h0 hn hlt0
  obtain ⟨R0, hv0, a0, o0, wk0, wx0⟩ := open_run (hval 0 27 v0 rfl rfl) h0
  subst hv0
  have hlt1 : ∀ x ∈ p1, x.block < W.heap.size := fun x hx => by simpa using hW'.lt x (by simp [hx])
  have hargs1 : ∀ (W' : World), Below W.heap.size W W' → DataW.Trod enc Tryd.prog W' 0 (fun b => decide (b < W.heap.size)) true 27 v1 d1 p1 := fun W' hn => Below.trod laidOut (by kernel_rfl) (of_decide_eq_true (by kernel_rfl)) h1 hn hlt1
  obtain ⟨R1, hv1, a1, o1, wk1, wx1⟩ := open_run (hval 1 27 v1 rfl rfl) h1
  subst hv1
  clear hA0 hval0
  simp only [List.append_nil] at hW'
  refine (traceRefines_walk R0 R1 W a0 a1 (tab_of_laid hL)).mono fun e W' ⟨he, hb⟩ => ?_
  subst he
  exact ⟨_, rfl, _, _, _, [], _, [], hW', (trodAll_cons_mk (shut_bool Tryd.underlying4 _) trodAll_mk0), (trodAll_cons_mk (hargs0 _ hb) (trodAll_cons_mk (hargs1 _ hb) trodAll_mk0)), rfl, hb.frame _, fun h => by cases h⟩

theorem traceRefines_row : Rows.TraceRefinesSaid :=
  OpenClaim.holds_of_wide 8 Tryd.f8 rfl rfl rfl rfl rfl rfl rfl ⟨rfl, rfl, rfl, rfl, rfl⟩ rfl rfl rfl rfl rfl (by kernel_rfl) Tryd.func8 (by kernel_rfl)
    (of_decide_eq_true (by kernel_rfl)) (by unfold Func.isWrapper; first | (rw [if_pos (by decide +kernel)]; kernel_rfl) | (rw [if_neg (by decide +kernel)]; exact ⟨rfl, rfl⟩))
    (fun os started H enc _ => traceRefines_lifted os started H enc)

/-- THE STATEMENT. -/
theorem traceRefines_holds : Rows.TraceRefinesCardSaid :=
  Claim7.holds_tied_plain_at .later [] [.data, .data, .data] true (true, "1eda6df1707c50841f6cd8d75dc7a6165e0984391ccf47f29fcd572f8f1e9166") false
    traceRefines_row (fun _ h => by cases h) (by kernel_rfl) (fun _ h => by cases h) traceRefines_row_tie rfl ⟨rfl, rfl⟩ (by kernel_rfl) rfl
    (fun f fn hf hfn => by
      obtain rfl : f = 8 := Option.some.inj ((show Tryd.prog.funcNamed "plumbob/plumboblaw3.TraceRefines" = some 8 by kernel_rfl).symm.trans hf) |>.symm
      obtain rfl : fn = Tryd.f8 := (Option.some.inj (Tryd.func8.symm.trans hfn)).symm
      exact ⟨by kernel_rfl, fun j t ht => by
        rw [Tryd.params8] at ht
        have hm : t ∈ [27, 27] := by simpa using Array.mem_of_getElem? ht
        have hall : ([27, 27].all fun u => !Tryd.prog.wantsStandIn u) = true := by kernel_rfl
        exact (show Tryd.prog.wantsStandIn t = false by simpa using List.all_eq_true.1 hall t hm)⟩)
    (by kernel_rfl)
#print axioms traceRefines_holds

end Go.Proofs.YtdibjidjocmfhaaDoor
