/- For all runs: two runs, of events that are ins and outs, have the same text just if they are the same (of the four kinds; Exit counts for those that halt): the statement TraceTexts returns true. Conditions: the three tables of the library that the row lists start as the program's text lays them (the card ties them). -/
import Derived.Test.YtdibjidjocmfhaaDoorTFrame
import Derived.Test.YtdibjidjocmfhaaDoorTRefs
import Derived.Test.YtdibjidjocmfhaaDoorTTextM
import Derived.Deep.DeepCutAuto
namespace Go.Proofs.YtdibjidjocmfhaaDoor
open Go.ChangeShapes Go.WideShapes Go.ChangeAt Go.RowKit Go.Joins Go.Deep Pl
set_option linter.unusedSimpArgs false
set_option linter.unusedVariables false

theorem RunAt.shapeT {w : World} {r : RD} (h : RunAt w r) : ∃ (a : Option Addr) (n cap : Nat), r.ev = .slice a n cap ∧ n = r.es.length ∧ (n : Int) ≤ 9223372036854775807 ∧ EvL w a r.es := by
  obtain ⟨⟨a, cap, h1, h2, h3, h4⟩, _⟩ := h
  exact ⟨a, _, cap, h1, rfl, by omega, h4⟩
theorem ret_bool {a b : Bool} (h : a = b) : Ending.returned (.bool a) = .returned (.bool b) := by rw [h]
theorem toList_inj {s t : ByteArray} (h : s.toList = t.toList) : s = t := by
  have e : ∀ u : ByteArray, u.toList = u.data.toList := fun u => by
    exact ByteArray.toList_eq u
  rw [e, e] at h
  apply ByteArray.ext
  exact Array.toList_inj.1 h
theorem inOut_take {l : List Ev} {i : Nat} {x : Ev} (h : InOut (l.take i)) (hg : l[i]? = some x) (hx : x.1 = 1 ∨ x.1 = 2) : InOut (l.take (i + 1)) := by
  rw [List.take_add_one, hg]
  intro y hy
  simp only [Option.toList_some, List.mem_append, List.mem_singleton] at hy
  rcases hy with hy | rfl
  · exact h y hy
  · exact hx


set_option maxHeartbeats 4000000 in
theorem traceTexts_long (k x st : Int) (ea : Option Addr) (n ec : Nat) (lk : Value) (es : List Ev) (ls : List Lk) (k' x' st' : Int) (ea' : Option Addr) (n' ec' : Nat) (lk' : Value) (es' : List Ev) (ls' : List Lk) (w : World) (HA : Hid (RunAt w ⟨k, x, .slice ea n ec, lk, st, es, ls⟩)) (HA' : Hid (RunAt w ⟨k', x', .slice ea' n' ec', lk', st', es', ls'⟩)) (HT : Hid (Tab w)) (m1 : (n : Int) ≤ 9223372036854775807) (m2 : (n' : Int) ≤ 9223372036854775807) (hc : (100 : Int) < n ∨ (100 : Int) < n' ∨ k < 1 ∨ 4 < k ∨ k' < 1 ∨ 4 < k') :
    Calls Tryd.prog 7 #[.agg #[.int .i64 k, .int .i64 x, .slice ea n ec, lk, .int .i64 st], .agg #[.int .i64 k', .int .i64 x', .slice ea' n' ec', lk', .int .i64 st']] w (retP (.bool true) w) := by
  by_cases c0 : (100 : Int) < n
  · clear hc
    go_enter Tryd.func7, Tryd.ntmps7
    go_wp2_with fail
    refine (awake_any _ (tab_keep HT.out (by repeat (first | with_reducible exact Below.refl _ _ | with_reducible refine bel_alloc ?_ _ | with_reducible refine bel_set ?_ (by first | exact Nat.le_refl _ | (simp; done) | (simp; omega)) _ | with_reducible refine Below.drew ?_ | refine bel_trans ?_ (by assumption))))).mono ?_
    rintro e w1 ⟨rfl, hb1⟩
    have t0 : w1.cell? ⟨w.heap.size, 0, none⟩ = some (.int .i64 k) := keep_cell hb1 (by go_simp)
    have t1 : w1.cell? ⟨w.heap.size, 1, none⟩ = some (.int .i64 x) := keep_cell hb1 (by go_simp)
    have t2 : w1.cell? ⟨w.heap.size, 2, none⟩ = some (.slice ea n ec) := keep_cell hb1 (by go_simp)
    have t3 : w1.cell? ⟨w.heap.size, 3, none⟩ = some (lk) := keep_cell hb1 (by go_simp)
    have t4 : w1.cell? ⟨w.heap.size, 4, none⟩ = some (.int .i64 st) := keep_cell hb1 (by go_simp)
    have y0 : w1.cell? ⟨(w.heap.size + 1), 0, none⟩ = some (.int .i64 k') := keep_cell hb1 (by go_simp)
    have y1 : w1.cell? ⟨(w.heap.size + 1), 1, none⟩ = some (.int .i64 x') := keep_cell hb1 (by go_simp)
    have y2 : w1.cell? ⟨(w.heap.size + 1), 2, none⟩ = some (.slice ea' n' ec') := keep_cell hb1 (by go_simp)
    have y3 : w1.cell? ⟨(w.heap.size + 1), 3, none⟩ = some (lk') := keep_cell hb1 (by go_simp)
    have y4 : w1.cell? ⟨(w.heap.size + 1), 4, none⟩ = some (.int .i64 st') := keep_cell hb1 (by go_simp)
    have tL : w.heap.size < w1.heap.size := block_lt_of_cell t0
    have sL : (w.heap.size + 1) < w1.heap.size := block_lt_of_cell y0
    have HB : Hid (Below w.heap.size w w1) := (by repeat (first | with_reducible exact Below.refl _ _ | with_reducible refine bel_alloc ?_ _ | with_reducible refine bel_set ?_ (by first | exact Nat.le_refl _ | (simp; done) | (simp; omega)) _ | with_reducible refine Below.drew ?_ | refine bel_trans ?_ (by assumption)))
    clear hb1
    go_wp2
    go_ret
    exact ⟨rfl, HB.out⟩
  by_cases c1 : (100 : Int) < n'
  · clear hc
    go_enter Tryd.func7, Tryd.ntmps7
    go_wp2_with fail
    refine (awake_any _ (tab_keep HT.out (by repeat (first | with_reducible exact Below.refl _ _ | with_reducible refine bel_alloc ?_ _ | with_reducible refine bel_set ?_ (by first | exact Nat.le_refl _ | (simp; done) | (simp; omega)) _ | with_reducible refine Below.drew ?_ | refine bel_trans ?_ (by assumption))))).mono ?_
    rintro e w1 ⟨rfl, hb1⟩
    have t0 : w1.cell? ⟨w.heap.size, 0, none⟩ = some (.int .i64 k) := keep_cell hb1 (by go_simp)
    have t1 : w1.cell? ⟨w.heap.size, 1, none⟩ = some (.int .i64 x) := keep_cell hb1 (by go_simp)
    have t2 : w1.cell? ⟨w.heap.size, 2, none⟩ = some (.slice ea n ec) := keep_cell hb1 (by go_simp)
    have t3 : w1.cell? ⟨w.heap.size, 3, none⟩ = some (lk) := keep_cell hb1 (by go_simp)
    have t4 : w1.cell? ⟨w.heap.size, 4, none⟩ = some (.int .i64 st) := keep_cell hb1 (by go_simp)
    have y0 : w1.cell? ⟨(w.heap.size + 1), 0, none⟩ = some (.int .i64 k') := keep_cell hb1 (by go_simp)
    have y1 : w1.cell? ⟨(w.heap.size + 1), 1, none⟩ = some (.int .i64 x') := keep_cell hb1 (by go_simp)
    have y2 : w1.cell? ⟨(w.heap.size + 1), 2, none⟩ = some (.slice ea' n' ec') := keep_cell hb1 (by go_simp)
    have y3 : w1.cell? ⟨(w.heap.size + 1), 3, none⟩ = some (lk') := keep_cell hb1 (by go_simp)
    have y4 : w1.cell? ⟨(w.heap.size + 1), 4, none⟩ = some (.int .i64 st') := keep_cell hb1 (by go_simp)
    have tL : w.heap.size < w1.heap.size := block_lt_of_cell t0
    have sL : (w.heap.size + 1) < w1.heap.size := block_lt_of_cell y0
    have HB : Hid (Below w.heap.size w w1) := (by repeat (first | with_reducible exact Below.refl _ _ | with_reducible refine bel_alloc ?_ _ | with_reducible refine bel_set ?_ (by first | exact Nat.le_refl _ | (simp; done) | (simp; omega)) _ | with_reducible refine Below.drew ?_ | refine bel_trans ?_ (by assumption)))
    clear hb1
    go_wp2
    go_ret
    exact ⟨rfl, HB.out⟩
  by_cases c2 : k < 1
  · clear hc
    go_enter Tryd.func7, Tryd.ntmps7
    go_wp2_with fail
    refine (awake_any _ (tab_keep HT.out (by repeat (first | with_reducible exact Below.refl _ _ | with_reducible refine bel_alloc ?_ _ | with_reducible refine bel_set ?_ (by first | exact Nat.le_refl _ | (simp; done) | (simp; omega)) _ | with_reducible refine Below.drew ?_ | refine bel_trans ?_ (by assumption))))).mono ?_
    rintro e w1 ⟨rfl, hb1⟩
    have t0 : w1.cell? ⟨w.heap.size, 0, none⟩ = some (.int .i64 k) := keep_cell hb1 (by go_simp)
    have t1 : w1.cell? ⟨w.heap.size, 1, none⟩ = some (.int .i64 x) := keep_cell hb1 (by go_simp)
    have t2 : w1.cell? ⟨w.heap.size, 2, none⟩ = some (.slice ea n ec) := keep_cell hb1 (by go_simp)
    have t3 : w1.cell? ⟨w.heap.size, 3, none⟩ = some (lk) := keep_cell hb1 (by go_simp)
    have t4 : w1.cell? ⟨w.heap.size, 4, none⟩ = some (.int .i64 st) := keep_cell hb1 (by go_simp)
    have y0 : w1.cell? ⟨(w.heap.size + 1), 0, none⟩ = some (.int .i64 k') := keep_cell hb1 (by go_simp)
    have y1 : w1.cell? ⟨(w.heap.size + 1), 1, none⟩ = some (.int .i64 x') := keep_cell hb1 (by go_simp)
    have y2 : w1.cell? ⟨(w.heap.size + 1), 2, none⟩ = some (.slice ea' n' ec') := keep_cell hb1 (by go_simp)
    have y3 : w1.cell? ⟨(w.heap.size + 1), 3, none⟩ = some (lk') := keep_cell hb1 (by go_simp)
    have y4 : w1.cell? ⟨(w.heap.size + 1), 4, none⟩ = some (.int .i64 st') := keep_cell hb1 (by go_simp)
    have tL : w.heap.size < w1.heap.size := block_lt_of_cell t0
    have sL : (w.heap.size + 1) < w1.heap.size := block_lt_of_cell y0
    have HB : Hid (Below w.heap.size w w1) := (by repeat (first | with_reducible exact Below.refl _ _ | with_reducible refine bel_alloc ?_ _ | with_reducible refine bel_set ?_ (by first | exact Nat.le_refl _ | (simp; done) | (simp; omega)) _ | with_reducible refine Below.drew ?_ | refine bel_trans ?_ (by assumption)))
    clear hb1
    go_wp2
    go_ret
    exact ⟨rfl, HB.out⟩
  by_cases c3 : 4 < k
  · clear hc
    go_enter Tryd.func7, Tryd.ntmps7
    go_wp2_with fail
    refine (awake_any _ (tab_keep HT.out (by repeat (first | with_reducible exact Below.refl _ _ | with_reducible refine bel_alloc ?_ _ | with_reducible refine bel_set ?_ (by first | exact Nat.le_refl _ | (simp; done) | (simp; omega)) _ | with_reducible refine Below.drew ?_ | refine bel_trans ?_ (by assumption))))).mono ?_
    rintro e w1 ⟨rfl, hb1⟩
    have t0 : w1.cell? ⟨w.heap.size, 0, none⟩ = some (.int .i64 k) := keep_cell hb1 (by go_simp)
    have t1 : w1.cell? ⟨w.heap.size, 1, none⟩ = some (.int .i64 x) := keep_cell hb1 (by go_simp)
    have t2 : w1.cell? ⟨w.heap.size, 2, none⟩ = some (.slice ea n ec) := keep_cell hb1 (by go_simp)
    have t3 : w1.cell? ⟨w.heap.size, 3, none⟩ = some (lk) := keep_cell hb1 (by go_simp)
    have t4 : w1.cell? ⟨w.heap.size, 4, none⟩ = some (.int .i64 st) := keep_cell hb1 (by go_simp)
    have y0 : w1.cell? ⟨(w.heap.size + 1), 0, none⟩ = some (.int .i64 k') := keep_cell hb1 (by go_simp)
    have y1 : w1.cell? ⟨(w.heap.size + 1), 1, none⟩ = some (.int .i64 x') := keep_cell hb1 (by go_simp)
    have y2 : w1.cell? ⟨(w.heap.size + 1), 2, none⟩ = some (.slice ea' n' ec') := keep_cell hb1 (by go_simp)
    have y3 : w1.cell? ⟨(w.heap.size + 1), 3, none⟩ = some (lk') := keep_cell hb1 (by go_simp)
    have y4 : w1.cell? ⟨(w.heap.size + 1), 4, none⟩ = some (.int .i64 st') := keep_cell hb1 (by go_simp)
    have tL : w.heap.size < w1.heap.size := block_lt_of_cell t0
    have sL : (w.heap.size + 1) < w1.heap.size := block_lt_of_cell y0
    have HB : Hid (Below w.heap.size w w1) := (by repeat (first | with_reducible exact Below.refl _ _ | with_reducible refine bel_alloc ?_ _ | with_reducible refine bel_set ?_ (by first | exact Nat.le_refl _ | (simp; done) | (simp; omega)) _ | with_reducible refine Below.drew ?_ | refine bel_trans ?_ (by assumption)))
    clear hb1
    go_wp2
    go_ret
    exact ⟨rfl, HB.out⟩
  by_cases c4 : k' < 1
  · clear hc
    go_enter Tryd.func7, Tryd.ntmps7
    go_wp2_with fail
    refine (awake_any _ (tab_keep HT.out (by repeat (first | with_reducible exact Below.refl _ _ | with_reducible refine bel_alloc ?_ _ | with_reducible refine bel_set ?_ (by first | exact Nat.le_refl _ | (simp; done) | (simp; omega)) _ | with_reducible refine Below.drew ?_ | refine bel_trans ?_ (by assumption))))).mono ?_
    rintro e w1 ⟨rfl, hb1⟩
    have t0 : w1.cell? ⟨w.heap.size, 0, none⟩ = some (.int .i64 k) := keep_cell hb1 (by go_simp)
    have t1 : w1.cell? ⟨w.heap.size, 1, none⟩ = some (.int .i64 x) := keep_cell hb1 (by go_simp)
    have t2 : w1.cell? ⟨w.heap.size, 2, none⟩ = some (.slice ea n ec) := keep_cell hb1 (by go_simp)
    have t3 : w1.cell? ⟨w.heap.size, 3, none⟩ = some (lk) := keep_cell hb1 (by go_simp)
    have t4 : w1.cell? ⟨w.heap.size, 4, none⟩ = some (.int .i64 st) := keep_cell hb1 (by go_simp)
    have y0 : w1.cell? ⟨(w.heap.size + 1), 0, none⟩ = some (.int .i64 k') := keep_cell hb1 (by go_simp)
    have y1 : w1.cell? ⟨(w.heap.size + 1), 1, none⟩ = some (.int .i64 x') := keep_cell hb1 (by go_simp)
    have y2 : w1.cell? ⟨(w.heap.size + 1), 2, none⟩ = some (.slice ea' n' ec') := keep_cell hb1 (by go_simp)
    have y3 : w1.cell? ⟨(w.heap.size + 1), 3, none⟩ = some (lk') := keep_cell hb1 (by go_simp)
    have y4 : w1.cell? ⟨(w.heap.size + 1), 4, none⟩ = some (.int .i64 st') := keep_cell hb1 (by go_simp)
    have tL : w.heap.size < w1.heap.size := block_lt_of_cell t0
    have sL : (w.heap.size + 1) < w1.heap.size := block_lt_of_cell y0
    have HB : Hid (Below w.heap.size w w1) := (by repeat (first | with_reducible exact Below.refl _ _ | with_reducible refine bel_alloc ?_ _ | with_reducible refine bel_set ?_ (by first | exact Nat.le_refl _ | (simp; done) | (simp; omega)) _ | with_reducible refine Below.drew ?_ | refine bel_trans ?_ (by assumption)))
    clear hb1
    go_wp2
    go_ret
    exact ⟨rfl, HB.out⟩
  have c5 : 4 < k' := by omega
  clear hc
  go_enter Tryd.func7, Tryd.ntmps7
  go_wp2_with fail
  refine (awake_any _ (tab_keep HT.out (by repeat (first | with_reducible exact Below.refl _ _ | with_reducible refine bel_alloc ?_ _ | with_reducible refine bel_set ?_ (by first | exact Nat.le_refl _ | (simp; done) | (simp; omega)) _ | with_reducible refine Below.drew ?_ | refine bel_trans ?_ (by assumption))))).mono ?_
  rintro e w1 ⟨rfl, hb1⟩
  have t0 : w1.cell? ⟨w.heap.size, 0, none⟩ = some (.int .i64 k) := keep_cell hb1 (by go_simp)
  have t1 : w1.cell? ⟨w.heap.size, 1, none⟩ = some (.int .i64 x) := keep_cell hb1 (by go_simp)
  have t2 : w1.cell? ⟨w.heap.size, 2, none⟩ = some (.slice ea n ec) := keep_cell hb1 (by go_simp)
  have t3 : w1.cell? ⟨w.heap.size, 3, none⟩ = some (lk) := keep_cell hb1 (by go_simp)
  have t4 : w1.cell? ⟨w.heap.size, 4, none⟩ = some (.int .i64 st) := keep_cell hb1 (by go_simp)
  have y0 : w1.cell? ⟨(w.heap.size + 1), 0, none⟩ = some (.int .i64 k') := keep_cell hb1 (by go_simp)
  have y1 : w1.cell? ⟨(w.heap.size + 1), 1, none⟩ = some (.int .i64 x') := keep_cell hb1 (by go_simp)
  have y2 : w1.cell? ⟨(w.heap.size + 1), 2, none⟩ = some (.slice ea' n' ec') := keep_cell hb1 (by go_simp)
  have y3 : w1.cell? ⟨(w.heap.size + 1), 3, none⟩ = some (lk') := keep_cell hb1 (by go_simp)
  have y4 : w1.cell? ⟨(w.heap.size + 1), 4, none⟩ = some (.int .i64 st') := keep_cell hb1 (by go_simp)
  have tL : w.heap.size < w1.heap.size := block_lt_of_cell t0
  have sL : (w.heap.size + 1) < w1.heap.size := block_lt_of_cell y0
  have HB : Hid (Below w.heap.size w w1) := (by repeat (first | with_reducible exact Below.refl _ _ | with_reducible refine bel_alloc ?_ _ | with_reducible refine bel_set ?_ (by first | exact Nat.le_refl _ | (simp; done) | (simp; omega)) _ | with_reducible refine Below.drew ?_ | refine bel_trans ?_ (by assumption)))
  clear hb1
  go_wp2
  go_ret
  exact ⟨rfl, HB.out⟩


set_option maxRecDepth 100000 in
set_option maxHeartbeats 40000000 in
theorem traceTexts_short (k x st : Int) (ea : Option Addr) (n ec : Nat) (lk : Value) (es : List Ev) (ls : List Lk) (k' x' st' : Int) (ea' : Option Addr) (n' ec' : Nat) (lk' : Value) (es' : List Ev) (ls' : List Lk) (w : World) (HA : Hid (RunAt w ⟨k, x, .slice ea n ec, lk, st, es, ls⟩)) (HA' : Hid (RunAt w ⟨k', x', .slice ea' n' ec', lk', st', es', ls'⟩)) (HT : Hid (Tab w)) (HE : Hid (EvL w ea es)) (HE' : Hid (EvL w ea' es')) (HN : Hid (n = es.length)) (HN' : Hid (n' = es'.length)) (OA : EvOk es) (OB : EvOk es') (k0 : -9223372036854775808 ≤ x) (k1 : x ≤ 9223372036854775807) (k2 : -9223372036854775808 ≤ x') (k3 : x' ≤ 9223372036854775807) (c0 : ¬ (100 : Int) < n) (c1 : ¬ (100 : Int) < n') (c2 : ¬ k < 1) (c3 : ¬ 4 < k) (c4 : ¬ k' < 1) (c5 : ¬ 4 < k') :
    Calls Tryd.prog 7 #[.agg #[.int .i64 k, .int .i64 x, .slice ea n ec, lk, .int .i64 st], .agg #[.int .i64 k', .int .i64 x', .slice ea' n' ec', lk', .int .i64 st']] w (retP (.bool true) w) := by
  have hn : n ≤ 100 := by omega
  have hn' : n' ≤ 100 := by omega
  go_enter Tryd.func7, Tryd.ntmps7
  go_wp2_with fail
  refine (awake_any _ (tab_keep HT.out (by repeat (first | with_reducible exact Below.refl _ _ | with_reducible refine bel_alloc ?_ _ | with_reducible refine bel_set ?_ (by first | exact Nat.le_refl _ | (simp; done) | (simp; omega)) _ | with_reducible refine Below.drew ?_ | refine bel_trans ?_ (by assumption))))).mono ?_
  rintro e w1 ⟨rfl, hb1⟩
  have t0 : w1.cell? ⟨w.heap.size, 0, none⟩ = some (.int .i64 k) := keep_cell hb1 (by go_simp)
  have t1 : w1.cell? ⟨w.heap.size, 1, none⟩ = some (.int .i64 x) := keep_cell hb1 (by go_simp)
  have t2 : w1.cell? ⟨w.heap.size, 2, none⟩ = some (.slice ea n ec) := keep_cell hb1 (by go_simp)
  have t3 : w1.cell? ⟨w.heap.size, 3, none⟩ = some (lk) := keep_cell hb1 (by go_simp)
  have t4 : w1.cell? ⟨w.heap.size, 4, none⟩ = some (.int .i64 st) := keep_cell hb1 (by go_simp)
  have y0 : w1.cell? ⟨(w.heap.size + 1), 0, none⟩ = some (.int .i64 k') := keep_cell hb1 (by go_simp)
  have y1 : w1.cell? ⟨(w.heap.size + 1), 1, none⟩ = some (.int .i64 x') := keep_cell hb1 (by go_simp)
  have y2 : w1.cell? ⟨(w.heap.size + 1), 2, none⟩ = some (.slice ea' n' ec') := keep_cell hb1 (by go_simp)
  have y3 : w1.cell? ⟨(w.heap.size + 1), 3, none⟩ = some (lk') := keep_cell hb1 (by go_simp)
  have y4 : w1.cell? ⟨(w.heap.size + 1), 4, none⟩ = some (.int .i64 st') := keep_cell hb1 (by go_simp)
  have tL : w.heap.size < w1.heap.size := block_lt_of_cell t0
  have sL : (w.heap.size + 1) < w1.heap.size := block_lt_of_cell y0
  have HB : Hid (Below w.heap.size w w1) := (by repeat (first | with_reducible exact Below.refl _ _ | with_reducible refine bel_alloc ?_ _ | with_reducible refine bel_set ?_ (by first | exact Nat.le_refl _ | (simp; done) | (simp; omega)) _ | with_reducible refine Below.drew ?_ | refine bel_trans ?_ (by assumption)))
  clear hb1
  go_wp2
  go_loopw [5] (fun v wz => ∃ i : Nat, i ≤ n ∧ v = .int .i64 i ∧ Hid (InOut (es.take i)) ∧ wz = w1) (fun v _ => n - (intOf v).toNat)
  case atStart => exact ⟨0, by omega, rfl, by show InOut _; intro y hy; simp at hy, rfl⟩
  case round =>
    obtain ⟨i, hi, rfl, HI, rfl⟩ := hrel
    by_cases hin : i < n
    · have i0 : (0 : Int) ≤ i := by omega
      have i1 : (i : Int) < n := by omega
      have hget := List.getElem?_eq_getElem (l := es) (show i < es.length by rw [← HN.out]; exact hin)
      generalize es[i]'(by rw [← HN.out]; exact hin) = ev at hget
      obtain ⟨b, off, rfl, hc⟩ := HE.out (fun e => by rw [e] at hget; simp at hget)
      obtain ⟨ek, en⟩ := ev
      have c0 := keep_cell HB.out (hc i _ hget).1
      simp only [] at c0
      have HG : Hid (es[i]? = some (ek, en)) := hget
      clear hc hget
      by_cases h1 : ek = 1
      · subst h1
        go_wp2
        go_roundw
        case rel => exact ⟨i + 1, by omega, by simp, inOut_take HI.out HG.out (Or.inl rfl), by first | rfl | trivial⟩
        case measure => simp [intOf]; omega
      have g1 : (ek != 1) = true := by simpa using h1
      have g1' : (ek == 1) = false := by simpa using h1
      by_cases h2 : ek = 2
      · subst h2
        clear g1 g1'
        go_wp2
        go_roundw
        case rel => exact ⟨i + 1, by omega, by simp, inOut_take HI.out HG.out (Or.inr rfl), by first | rfl | trivial⟩
        case measure => simp [intOf]; omega
      have g2 : (ek != 2) = true := by simpa using h2
      have g2' : (ek == 2) = false := by simpa using h2
      go_wp2
      go_ret
      exact ⟨rfl, HB.out⟩
    · have hall : Hid (InOut es) := by
        have h := HI.out
        rw [List.take_of_length_le (by rw [← HN.out]; omega)] at h
        exact h
      clear HI
      have HI1 : Hid (InOut es) := hall
      clear hall
      go_wp2
      go_loopw [6] (fun v wz => ∃ i : Nat, i ≤ n' ∧ v = .int .i64 i ∧ Hid (InOut (es'.take i)) ∧ wz = wr) (fun v _ => n' - (intOf v).toNat)
      case atStart => exact ⟨0, by omega, rfl, by show InOut _; intro y hy; simp at hy, rfl⟩
      case round =>
        obtain ⟨i, hi, rfl, HI, rfl⟩ := hrel
        by_cases hin : i < n'
        · have i0 : (0 : Int) ≤ i := by omega
          have i1 : (i : Int) < n' := by omega
          have hget := List.getElem?_eq_getElem (l := es') (show i < es'.length by rw [← HN'.out]; exact hin)
          generalize es'[i]'(by rw [← HN'.out]; exact hin) = ev at hget
          obtain ⟨b, off, rfl, hc⟩ := HE'.out (fun e => by rw [e] at hget; simp at hget)
          obtain ⟨ek, en⟩ := ev
          have c0 := keep_cell HB.out (hc i _ hget).1
          simp only [] at c0
          have HG : Hid (es'[i]? = some (ek, en)) := hget
          clear hc hget
          by_cases h1 : ek = 1
          · subst h1
            go_wp2
            go_roundw
            case rel => exact ⟨i + 1, by omega, by simp, inOut_take HI.out HG.out (Or.inl rfl), by first | rfl | trivial⟩
            case measure => simp [intOf]; omega
          have g1 : (ek != 1) = true := by simpa using h1
          have g1' : (ek == 1) = false := by simpa using h1
          by_cases h2 : ek = 2
          · subst h2
            clear g1 g1'
            go_wp2
            go_roundw
            case rel => exact ⟨i + 1, by omega, by simp, inOut_take HI.out HG.out (Or.inr rfl), by first | rfl | trivial⟩
            case measure => simp [intOf]; omega
          have g2 : (ek != 2) = true := by simpa using h2
          have g2' : (ek == 2) = false := by simpa using h2
          go_wp2
          go_ret
          exact ⟨rfl, HB.out⟩
        · have hall : Hid (InOut es') := by
            have h := HI.out
            rw [List.take_of_length_le (by rw [← HN'.out]; omega)] at h
            exact h
          clear HI
          have HI2 : Hid (InOut es') := hall
          clear hall
          obtain ⟨sT, hsT⟩ : ∃ b, sameT ⟨k, x, .slice ea n ec, lk, st, es, ls⟩ ⟨k', x', .slice ea' n' ec', lk', st', es', ls'⟩ = b := ⟨_, rfl⟩
          have HST : Hid (sameT ⟨k, x, .slice ea n ec, lk, st, es, ls⟩ ⟨k', x', .slice ea' n' ec', lk', st', es', ls'⟩ = sT) := hsT
          clear hsT
          go_upto_region 15 with fail
          go_cut [7] (fun sv w' => sv = .bool sT ∧ w'.cell? ⟨w.heap.size, 0, none⟩ = some (.int .i64 k) ∧ w'.cell? ⟨w.heap.size, 1, none⟩ = some (.int .i64 x) ∧ w'.cell? ⟨w.heap.size, 2, none⟩ = some (.slice ea n ec) ∧ w'.cell? ⟨w.heap.size, 3, none⟩ = some (lk) ∧ w'.cell? ⟨w.heap.size, 4, none⟩ = some (.int .i64 st) ∧ w'.cell? ⟨(w.heap.size + 1), 0, none⟩ = some (.int .i64 k') ∧ w'.cell? ⟨(w.heap.size + 1), 1, none⟩ = some (.int .i64 x') ∧ w'.cell? ⟨(w.heap.size + 1), 2, none⟩ = some (.slice ea' n' ec') ∧ w'.cell? ⟨(w.heap.size + 1), 3, none⟩ = some (lk') ∧ w'.cell? ⟨(w.heap.size + 1), 4, none⟩ = some (.int .i64 st') ∧ Below w.heap.size w w')
          case first =>
            obtain ⟨r, hr⟩ : ∃ r, evEq es es' = r := ⟨_, rfl⟩
            have HR : Hid (r = evRef true es es') := hr.symm
            cases r
            · have e : sT = false := by rw [← HST.out]; simp [sameT, hr]
              subst e
              clear hr
              go_wp2_with fail
              refine (events_to (EvAt.keep HA.out.1 HB.out) (EvAt.keep HA'.out.1 HB.out) true (r := false) HR).mono ?_
              rintro e w2 ⟨rfl, hb2⟩
              replace t0 : w2.cell? ⟨w.heap.size, 0, none⟩ = some (.int .i64 k) := keep_cell hb2 (by go_simp)
              replace t1 : w2.cell? ⟨w.heap.size, 1, none⟩ = some (.int .i64 x) := keep_cell hb2 (by go_simp)
              replace t2 : w2.cell? ⟨w.heap.size, 2, none⟩ = some (.slice ea n ec) := keep_cell hb2 (by go_simp)
              replace t3 : w2.cell? ⟨w.heap.size, 3, none⟩ = some (lk) := keep_cell hb2 (by go_simp)
              replace t4 : w2.cell? ⟨w.heap.size, 4, none⟩ = some (.int .i64 st) := keep_cell hb2 (by go_simp)
              replace y0 : w2.cell? ⟨(w.heap.size + 1), 0, none⟩ = some (.int .i64 k') := keep_cell hb2 (by go_simp)
              replace y1 : w2.cell? ⟨(w.heap.size + 1), 1, none⟩ = some (.int .i64 x') := keep_cell hb2 (by go_simp)
              replace y2 : w2.cell? ⟨(w.heap.size + 1), 2, none⟩ = some (.slice ea' n' ec') := keep_cell hb2 (by go_simp)
              replace y3 : w2.cell? ⟨(w.heap.size + 1), 3, none⟩ = some (lk') := keep_cell hb2 (by go_simp)
              replace y4 : w2.cell? ⟨(w.heap.size + 1), 4, none⟩ = some (.int .i64 st') := keep_cell hb2 (by go_simp)
              replace tL : w.heap.size < w2.heap.size := block_lt_of_cell t0
              replace sL : (w.heap.size + 1) < w2.heap.size := block_lt_of_cell y0
              replace HB : Hid (Below w.heap.size w w2) := bel_trans HB.out hb2
              clear hb2
              go_wp2
              go_meet
              case rel => exact ⟨rfl, t0, t1, t2, t3, t4, y0, y1, y2, y3, y4, HB.out⟩
            by_cases hk : k = k'
            · subst hk
              by_cases hk1 : k = 1
              · subst hk1
                have e : sT = (x == x') := by rw [← HST.out]; simp only [sameT, hr]; rw [Bool.eq_iff_iff]; simp
                subst e
                clear hr
                go_wp2_with fail
                refine (events_to (EvAt.keep HA.out.1 HB.out) (EvAt.keep HA'.out.1 HB.out) true (r := true) HR).mono ?_
                rintro e w2 ⟨rfl, hb2⟩
                replace t0 : w2.cell? ⟨w.heap.size, 0, none⟩ = some (.int .i64 1) := keep_cell hb2 (by go_simp)
                replace t1 : w2.cell? ⟨w.heap.size, 1, none⟩ = some (.int .i64 x) := keep_cell hb2 (by go_simp)
                replace t2 : w2.cell? ⟨w.heap.size, 2, none⟩ = some (.slice ea n ec) := keep_cell hb2 (by go_simp)
                replace t3 : w2.cell? ⟨w.heap.size, 3, none⟩ = some (lk) := keep_cell hb2 (by go_simp)
                replace t4 : w2.cell? ⟨w.heap.size, 4, none⟩ = some (.int .i64 st) := keep_cell hb2 (by go_simp)
                replace y0 : w2.cell? ⟨(w.heap.size + 1), 0, none⟩ = some (.int .i64 1) := keep_cell hb2 (by go_simp)
                replace y1 : w2.cell? ⟨(w.heap.size + 1), 1, none⟩ = some (.int .i64 x') := keep_cell hb2 (by go_simp)
                replace y2 : w2.cell? ⟨(w.heap.size + 1), 2, none⟩ = some (.slice ea' n' ec') := keep_cell hb2 (by go_simp)
                replace y3 : w2.cell? ⟨(w.heap.size + 1), 3, none⟩ = some (lk') := keep_cell hb2 (by go_simp)
                replace y4 : w2.cell? ⟨(w.heap.size + 1), 4, none⟩ = some (.int .i64 st') := keep_cell hb2 (by go_simp)
                replace tL : w.heap.size < w2.heap.size := block_lt_of_cell t0
                replace sL : (w.heap.size + 1) < w2.heap.size := block_lt_of_cell y0
                replace HB : Hid (Below w.heap.size w w2) := bel_trans HB.out hb2
                clear hb2
                go_wp2
                go_meet
                case rel => exact ⟨rfl, t0, t1, t2, t3, t4, y0, y1, y2, y3, y4, HB.out⟩
              · have e : sT = true := by rw [← HST.out]; simp [sameT, hr, hk1]
                subst e
                have g : (k != 1) = true := by simpa using hk1
                have g' : (k == 1) = false := by simpa using hk1
                clear hr hk1
                go_wp2_with fail
                refine (events_to (EvAt.keep HA.out.1 HB.out) (EvAt.keep HA'.out.1 HB.out) true (r := true) HR).mono ?_
                rintro e w2 ⟨rfl, hb2⟩
                replace t0 : w2.cell? ⟨w.heap.size, 0, none⟩ = some (.int .i64 k) := keep_cell hb2 (by go_simp)
                replace t1 : w2.cell? ⟨w.heap.size, 1, none⟩ = some (.int .i64 x) := keep_cell hb2 (by go_simp)
                replace t2 : w2.cell? ⟨w.heap.size, 2, none⟩ = some (.slice ea n ec) := keep_cell hb2 (by go_simp)
                replace t3 : w2.cell? ⟨w.heap.size, 3, none⟩ = some (lk) := keep_cell hb2 (by go_simp)
                replace t4 : w2.cell? ⟨w.heap.size, 4, none⟩ = some (.int .i64 st) := keep_cell hb2 (by go_simp)
                replace y0 : w2.cell? ⟨(w.heap.size + 1), 0, none⟩ = some (.int .i64 k) := keep_cell hb2 (by go_simp)
                replace y1 : w2.cell? ⟨(w.heap.size + 1), 1, none⟩ = some (.int .i64 x') := keep_cell hb2 (by go_simp)
                replace y2 : w2.cell? ⟨(w.heap.size + 1), 2, none⟩ = some (.slice ea' n' ec') := keep_cell hb2 (by go_simp)
                replace y3 : w2.cell? ⟨(w.heap.size + 1), 3, none⟩ = some (lk') := keep_cell hb2 (by go_simp)
                replace y4 : w2.cell? ⟨(w.heap.size + 1), 4, none⟩ = some (.int .i64 st') := keep_cell hb2 (by go_simp)
                replace tL : w.heap.size < w2.heap.size := block_lt_of_cell t0
                replace sL : (w.heap.size + 1) < w2.heap.size := block_lt_of_cell y0
                replace HB : Hid (Below w.heap.size w w2) := bel_trans HB.out hb2
                clear hb2
                go_wp2
                go_meet
                case rel => exact ⟨rfl, t0, t1, t2, t3, t4, y0, y1, y2, y3, y4, HB.out⟩
            · have e : sT = false := by rw [← HST.out]; simp [sameT, hr, hk]
              subst e
              have g : (k == k') = false := by simpa using hk
              clear hr hk
              go_wp2_with fail
              refine (events_to (EvAt.keep HA.out.1 HB.out) (EvAt.keep HA'.out.1 HB.out) true (r := true) HR).mono ?_
              rintro e w2 ⟨rfl, hb2⟩
              replace t0 : w2.cell? ⟨w.heap.size, 0, none⟩ = some (.int .i64 k) := keep_cell hb2 (by go_simp)
              replace t1 : w2.cell? ⟨w.heap.size, 1, none⟩ = some (.int .i64 x) := keep_cell hb2 (by go_simp)
              replace t2 : w2.cell? ⟨w.heap.size, 2, none⟩ = some (.slice ea n ec) := keep_cell hb2 (by go_simp)
              replace t3 : w2.cell? ⟨w.heap.size, 3, none⟩ = some (lk) := keep_cell hb2 (by go_simp)
              replace t4 : w2.cell? ⟨w.heap.size, 4, none⟩ = some (.int .i64 st) := keep_cell hb2 (by go_simp)
              replace y0 : w2.cell? ⟨(w.heap.size + 1), 0, none⟩ = some (.int .i64 k') := keep_cell hb2 (by go_simp)
              replace y1 : w2.cell? ⟨(w.heap.size + 1), 1, none⟩ = some (.int .i64 x') := keep_cell hb2 (by go_simp)
              replace y2 : w2.cell? ⟨(w.heap.size + 1), 2, none⟩ = some (.slice ea' n' ec') := keep_cell hb2 (by go_simp)
              replace y3 : w2.cell? ⟨(w.heap.size + 1), 3, none⟩ = some (lk') := keep_cell hb2 (by go_simp)
              replace y4 : w2.cell? ⟨(w.heap.size + 1), 4, none⟩ = some (.int .i64 st') := keep_cell hb2 (by go_simp)
              replace tL : w.heap.size < w2.heap.size := block_lt_of_cell t0
              replace sL : (w.heap.size + 1) < w2.heap.size := block_lt_of_cell y0
              replace HB : Hid (Below w.heap.size w w2) := bel_trans HB.out hb2
              clear hb2
              go_wp2
              go_meet
              case rel => exact ⟨rfl, t0, t1, t2, t3, t4, y0, y1, y2, y3, y4, HB.out⟩
          case rest =>
            obtain ⟨rfl, t0, t1, t2, t3, t4, y0, y1, y2, y3, y4, hbc⟩ := hcut
            have HBc : Hid (Below w.heap.size w wc) := hbc
            clear hbc tL sL
            have RA : RunAt wc ⟨k, x, .slice ea n ec, lk, st, es, ls⟩ := HA.out.keep HBc.out
            have RB : RunAt wc ⟨k', x', .slice ea' n' ec', lk', st', es', ls'⟩ := HA'.out.keep HBc.out
            have HTc : Hid (Tab wc) := tab_keep HT.out HBc.out
            obtain ⟨s1, hs1⟩ : ∃ s : ByteArray, (⟨(textR ⟨k, x, .slice ea n ec, lk, st, es, ls⟩).toArray⟩ : ByteArray) = s := ⟨_, rfl⟩
            obtain ⟨s2, hs2⟩ : ∃ s : ByteArray, (⟨(textR ⟨k', x', .slice ea' n' ec', lk', st', es', ls'⟩).toArray⟩ : ByteArray) = s := ⟨_, rfl⟩
            have HS1 : Hid ((⟨(textR ⟨k, x, .slice ea n ec, lk, st, es, ls⟩).toArray⟩ : ByteArray) = s1) := hs1
            have HS2 : Hid ((⟨(textR ⟨k', x', .slice ea' n' ec', lk', st', es', ls'⟩).toArray⟩ : ByteArray) = s2) := hs2
            have hsame := text_same (a := ⟨k, x, .slice ea n ec, lk, st, es, ls⟩) (b := ⟨k', x', .slice ea' n' ec', lk', st', es', ls'⟩) (by simp only []; omega) (by simp only []; omega) HI1.out HI2.out
            rw [HST.out] at hsame
            have HEQ : Hid (sT = true ↔ s1 = s2) := by
              show _ ↔ _
              rw [← hsame, decide_eq_true_eq, ← hs1, ← hs2]
              constructor
              · intro h; rw [h]
              · intro h; have := congrArg (fun b : ByteArray => b.data.toList) h; simpa using this
            clear hs1 hs2 hsame
            have hdB : ∀ {A0 A1 A2 A3 A4 A5 A6 A7 A8 A9 : Prop} {v : World}, A0 ∧ A1 ∧ A2 ∧ A3 ∧ A4 ∧ A5 ∧ A6 ∧ A7 ∧ A8 ∧ A9 ∧ Below wc.heap.size wc v → Below wc.heap.size wc v := fun h => h.2.2.2.2.2.2.2.2.2.2
            have hdS : ∀ {v : World}, Below wc.heap.size wc v → (v.cell? ⟨w.heap.size, 0, none⟩ = some (.int .i64 k) ∧ v.cell? ⟨w.heap.size, 1, none⟩ = some (.int .i64 x) ∧ v.cell? ⟨w.heap.size, 2, none⟩ = some (.slice ea n ec) ∧ v.cell? ⟨w.heap.size, 3, none⟩ = some (lk) ∧ v.cell? ⟨w.heap.size, 4, none⟩ = some (.int .i64 st) ∧ v.cell? ⟨(w.heap.size + 1), 0, none⟩ = some (.int .i64 k') ∧ v.cell? ⟨(w.heap.size + 1), 1, none⟩ = some (.int .i64 x') ∧ v.cell? ⟨(w.heap.size + 1), 2, none⟩ = some (.slice ea' n' ec') ∧ v.cell? ⟨(w.heap.size + 1), 3, none⟩ = some (lk') ∧ v.cell? ⟨(w.heap.size + 1), 4, none⟩ = some (.int .i64 st') ∧ Below wc.heap.size wc v) := fun h => ⟨keep_cell h t0, keep_cell h t1, keep_cell h t2, keep_cell h t3, keep_cell h t4, keep_cell h y0, keep_cell h y1, keep_cell h y2, keep_cell h y3, keep_cell h y4, h⟩
            go_wp2_with fail
            refine wp_region_held_drew (S := (fun w' => w'.cell? ⟨w.heap.size, 0, none⟩ = some (.int .i64 k) ∧ w'.cell? ⟨w.heap.size, 1, none⟩ = some (.int .i64 x) ∧ w'.cell? ⟨w.heap.size, 2, none⟩ = some (.slice ea n ec) ∧ w'.cell? ⟨w.heap.size, 3, none⟩ = some (lk) ∧ w'.cell? ⟨w.heap.size, 4, none⟩ = some (.int .i64 st) ∧ w'.cell? ⟨(w.heap.size + 1), 0, none⟩ = some (.int .i64 k') ∧ w'.cell? ⟨(w.heap.size + 1), 1, none⟩ = some (.int .i64 x') ∧ w'.cell? ⟨(w.heap.size + 1), 2, none⟩ = some (.slice ea' n' ec') ∧ w'.cell? ⟨(w.heap.size + 1), 3, none⟩ = some (lk') ∧ w'.cell? ⟨(w.heap.size + 1), 4, none⟩ = some (.int .i64 st') ∧ Below wc.heap.size wc w')) (by kernel_rfl) (hdS (Below.drew (Below.refl _ _))) (fun hHeld => ?_)
            refine wpAnyH_take (i := 0) (oi := ?oi0) (v := ?vv0) ?hi0 (by kernel_rfl) (by kernel_rfl) (by kernel_rfl) ?hq0 ?hy0 hHeld ?_
            case hi0 => simp only [List.getElem?_toArray, List.getElem?_cons_succ, List.getElem?_cons_zero]; rfl
            case hq0 => exact fun _ _ _ h => h
            case hy0 => (refine Or.inl ⟨by rfl, ?_⟩; intro w' hSw; (try dsimp only at hSw); go_simp; (try (with_reducible rfl)))
            simp only [Act.put, List.setIfInBounds_toArray, List.set_cons_zero, List.set_cons_succ]
            refine wpAnyH_take (i := 2) (oi := ?oi2) (v := ?vv2) ?hi2 (by kernel_rfl) (by kernel_rfl) (by kernel_rfl) ?hq2 ?hy2 hHeld ?_
            case hi2 => simp only [List.getElem?_toArray, List.getElem?_cons_succ, List.getElem?_cons_zero]; rfl
            case hq2 => exact fun _ _ _ h => h
            case hy2 => (refine Or.inl ⟨by rfl, ?_⟩; intro w' hSw; (try dsimp only at hSw); go_simp; (try (with_reducible rfl)))
            simp only [Act.put, List.setIfInBounds_toArray, List.set_cons_zero, List.set_cons_succ]
            refine wpAnyH_take (i := 5) (oi := ?oi5) (v := ?vv5) ?hi5 (by kernel_rfl) (by kernel_rfl) (by kernel_rfl) ?hq5 ?hy5 hHeld ?_
            case hi5 => simp only [List.getElem?_toArray, List.getElem?_cons_succ, List.getElem?_cons_zero]; rfl
            case hq5 => exact fun _ _ _ h => h
            case hy5 => (refine Or.inl ⟨by rfl, ?_⟩; intro w' hSw; (try dsimp only at hSw); go_simp; (try (with_reducible rfl)))
            simp only [Act.put, List.setIfInBounds_toArray, List.set_cons_zero, List.set_cons_succ]
            refine wpAnyH_ready (rs := [1]) (by kernel_rfl) (by simp) ?_
            refine AllReadyH.cons (o := ?oi1) ?hi1 (fun K hK => ?_) AllReadyH.nil
            case hi1 => simp only [List.getElem?_toArray, List.getElem?_cons_succ, List.getElem?_cons_zero]; rfl
            go_simp
            refine (text_to ⟨k, x, .slice ea n ec, lk, st, es, ls⟩ s1 _ HS1.out (RA.keep (hdB hHeld)) (by have := HN.out; simp only []; omega) OA k0 k1 (tab_keep HTc.out (hdB hHeld))).mono ?_
            rintro e v1 ⟨rfl, hv1⟩
            go_wp2_with fail
            refine hK.out _ _ (hdS (bel_trans (hdB hHeld) hv1)) (fun hN => ?_)
            clear hK K hHeld
            have hHeld := hN
            clear hN
            try simp only [Act.put, List.setIfInBounds_toArray, List.set_cons_zero, List.set_cons_succ]
            refine wpAnyH_ready (rs := [3]) (by kernel_rfl) (by simp) ?_
            refine AllReadyH.cons (o := ?oi3) ?hi3 (fun K hK => ?_) AllReadyH.nil
            case hi3 => simp only [List.getElem?_toArray, List.getElem?_cons_succ, List.getElem?_cons_zero]; rfl
            go_simp
            refine (text_to ⟨k', x', .slice ea' n' ec', lk', st', es', ls'⟩ s2 _ HS2.out (RB.keep (hdB hHeld)) (by have := HN'.out; simp only []; omega) OB k2 k3 (tab_keep HTc.out (hdB hHeld))).mono ?_
            rintro e v3 ⟨rfl, hv3⟩
            go_wp2_with fail
            refine hK.out _ _ (hdS (bel_trans (hdB hHeld) hv3)) (fun hN => ?_)
            clear hK K hHeld
            have hHeld := hN
            clear hN
            try simp only [Act.put, List.setIfInBounds_toArray, List.set_cons_zero, List.set_cons_succ]
            refine wpAnyH_take (i := 4) (oi := ?oi4) (v := ?vv4) ?hi4 (by kernel_rfl) (by kernel_rfl) (by kernel_rfl) ?hq4 ?hy4 hHeld ?_
            case hi4 => simp only [List.getElem?_toArray, List.getElem?_cons_succ, List.getElem?_cons_zero]; rfl
            case hq4 => exact fun _ _ _ h => h
            case hy4 => (refine Or.inl ⟨by rfl, ?_⟩; intro w' hSw; (try dsimp only at hSw); go_simp; (try (with_reducible rfl)))
            simp only [Act.put, List.setIfInBounds_toArray, List.set_cons_zero, List.set_cons_succ]
            refine wpAnyH_take (i := 6) (oi := ?oi6) (v := ?vv6) ?hi6 (by kernel_rfl) (by kernel_rfl) (by kernel_rfl) ?hq6 ?hy6 hHeld ?_
            case hi6 => simp only [List.getElem?_toArray, List.getElem?_cons_succ, List.getElem?_cons_zero]; rfl
            case hq6 => exact fun _ _ _ h => h
            case hy6 => (refine Or.inl ⟨by rfl, ?_⟩; intro w' hSw; (try dsimp only at hSw); go_simp; (try (with_reducible rfl)))
            simp only [Act.put, List.setIfInBounds_toArray, List.set_cons_zero, List.set_cons_succ]
            refine wpAnyH_take (i := 7) (oi := ?oi7) (v := ?vv7) ?hi7 (by kernel_rfl) (by kernel_rfl) (by kernel_rfl) ?hq7 ?hy7 hHeld ?_
            case hi7 => simp only [List.getElem?_toArray, List.getElem?_cons_succ, List.getElem?_cons_zero]; rfl
            case hq7 => exact fun _ _ _ h => h
            case hy7 => (refine Or.inl ⟨by rfl, ?_⟩; intro w' hSw; (try dsimp only at hSw); go_simp; (try (with_reducible rfl)))
            simp only [Act.put, List.setIfInBounds_toArray, List.set_cons_zero, List.set_cons_succ]
            refine wpAnyH_done (by kernel_rfl) ?_ _
            have hfin := bel_trans HBc.out (hdB hHeld)
            have HFE : Hid (((s1.toList == s2.toList) == sT) = true) := by
              show _ = _
              cases sT
              · have hne : ¬ s1 = s2 := fun h => by have := HEQ.out.2 h; cases this
                have : (s1.toList == s2.toList) = false := by
                  rw [beq_eq_false_iff_ne]
                  intro h
                  exact hne (toList_inj h)
                rw [this]; rfl
              · have : s1 = s2 := HEQ.out.1 rfl
                rw [this]; simp
            go_wp2
            go_ret
            exact ⟨ret_bool HFE.out, hfin⟩


theorem traceTexts_walk (A B : RD) (w : World) (ha : RunAt w A) (oa : EvOk A.es) (xa : -9223372036854775808 ≤ A.x ∧ A.x ≤ 9223372036854775807) (hb : RunAt w B) (ob : EvOk B.es) (xb : -9223372036854775808 ≤ B.x ∧ B.x ≤ 9223372036854775807) (ht : Tab w) : Calls Tryd.prog 7 #[A.v, B.v] w (retP (.bool true) w) := by
  obtain ⟨ea, n, ec, he, hn, hm, hl⟩ := ha.shapeT
  obtain ⟨ea', n', ec', he', hn', hm', hl'⟩ := hb.shapeT
  obtain ⟨k, x, ev, lk, st, es, ls⟩ := A
  obtain ⟨k', x', ev', lk', st', es', ls'⟩ := B
  simp only [] at he he' hn hn' xa xb
  subst he he'
  by_cases h : (100 : Int) < n ∨ (100 : Int) < n' ∨ k < 1 ∨ 4 < k ∨ k' < 1 ∨ 4 < k'
  · exact traceTexts_long k x st ea n ec lk es ls k' x' st' ea' n' ec' lk' es' ls' w ha hb ht hm hm' h
  · exact traceTexts_short k x st ea n ec lk es ls k' x' st' ea' n' ec' lk' es' ls' w ha hb ht hl hl' hn hn' oa ob xa.1 xa.2 xb.1 xb.2 (by omega) (by omega) (by omega) (by omega) (by omega) (by omega)

set_option maxRecDepth 100000 in
theorem traceTexts_lifted (os : Os) (started : os.Started) (H : Type) (enc : TypeId × Value → H) :
    ReturnsInHanded {} Tryd.checked os 7 .any (fun w args => (Rows.traceTextsSpec.pre enc Tryd.prog Tryd.f7 [] false w args ∧ laidMetH Tryd.prog laid3 w) ∧ sizedMet enc Tryd.prog Tryd.f7 (OpenSpec.ofChange Rows.traceTextsSpec) false w args)
      (Rows.traceTextsSpec.post enc Tryd.prog Tryd.f7 false true false false) := by
  refine returnsInHanded_of_change_and (C := Tryd.checked) (X := fun w _ => laidMetH Tryd.prog laid3 w) (fun _ _ _ hh h => h.of_heap hh) own started (by kernel_rfl) Tryd.func7
    (ChangeSpec.witness_shaped (enc := enc) (C := Tryd.checked) (os := os) (X := fun w _ => laidMetH Tryd.prog laid3 w) false (World.doorLaid Tryd.prog 400 os) #[.agg #[.int .i64 0, .int .i64 0, .slice none 0 0, .slice none 0 0, .int .i64 0], .agg #[.int .i64 0, .int .i64 0, .slice none 0 0, .slice none 0 0, .int .i64 0]] 8 rfl (World.shaped_of_RefB (by kernel_rfl) (by kernel_rfl)) (by kernel_rfl) (by kernel_rfl) (by kernel_rfl) (door_met os _)) ?_
  intro W base args ds gs before hval0 hW _ _ hL _
  have hval : ∀ (j : Nat) t v, Tryd.f7.params[j]? = some t → args[j]? = some v → Value.okWide Tryd.prog W .any base t v := hval0
  have hW' := hW
  obtain ⟨p, q, hA0, hV, rfl, hfz, hnd⟩ := hW
  have hA : DataW.TrodAll enc Tryd.prog W 0 (fun _ => true) true Tryd.f7.params.toList args.toList ds p := hA0
  rw [Tryd.params7] at hA hval
  obtain ⟨v0, vs0, d0, ds0, p0, q0, hargs, rfl, rfl, h0, r0⟩ := trodAll_cons hA
  obtain ⟨v1, vs1, d1, ds1, p1, q1, rfl, rfl, rfl, h1, r1⟩ := trodAll_cons r0
  obtain ⟨rfl, rfl, rfl⟩ := trodAll_nil r1
  obtain rfl : args = #[v0, v1] := by cases args; simp_all
  obtain ⟨rfl, rfl⟩ := trodVars_none hV
  have hlt0 : ∀ x ∈ p0, x.block < W.heap.size := fun x hx => by simpa using hW'.lt x (by simp [hx])
  have hargs0 : ∀ (W' : World), Below W.heap.size W W' → DataW.Trod enc Tryd.prog W' 0 (fun b => decide (b < W.heap.size)) true 27 v0 d0 p0 := fun W' hn => Below.trod laidOut (by kernel_rfl) (of_decide_eq_true (by kernel_rfl)) h0 hn hlt0
  obtain ⟨R0, hv0, a0, o0, wk0, wx0⟩ := open_run (hval 0 27 v0 rfl rfl) h0
  subst hv0
  have hlt1 : ∀ x ∈ p1, x.block < W.heap.size := fun x hx => by simpa using hW'.lt x (by simp [hx])
  have hargs1 : ∀ (W' : World), Below W.heap.size W W' → DataW.Trod enc Tryd.prog W' 0 (fun b => decide (b < W.heap.size)) true 27 v1 d1 p1 := fun W' hn => Below.trod laidOut (by kernel_rfl) (of_decide_eq_true (by kernel_rfl)) h1 hn hlt1
  obtain ⟨R1, hv1, a1, o1, wk1, wx1⟩ := open_run (hval 1 27 v1 rfl rfl) h1
  subst hv1
  clear hA0 hval0
  simp only [List.append_nil] at hW'
  refine (traceTexts_walk R0 R1 W a0 o0 (bnd wx0) a1 o1 (bnd wx1) (tab_of_laid hL)).mono fun e W' ⟨he, hb⟩ => ?_
  subst he
  exact ⟨_, rfl, _, _, _, [], _, [], hW', (trodAll_cons_mk (shut_bool Tryd.underlying4 _) trodAll_mk0), (trodAll_cons_mk (hargs0 _ hb) (trodAll_cons_mk (hargs1 _ hb) trodAll_mk0)), rfl, hb.frame _, fun h => by cases h⟩

theorem traceTexts_row : Rows.TraceTextsSaid :=
  OpenClaim.holds_of_wide 7 Tryd.f7 rfl rfl rfl rfl rfl rfl rfl ⟨rfl, rfl, rfl, rfl, rfl⟩ rfl rfl rfl rfl rfl (by kernel_rfl) Tryd.func7 (by kernel_rfl)
    (of_decide_eq_true (by kernel_rfl)) (by unfold Func.isWrapper; first | (rw [if_pos (by decide +kernel)]; kernel_rfl) | (rw [if_neg (by decide +kernel)]; exact ⟨rfl, rfl⟩))
    (fun os started H enc _ => traceTexts_lifted os started H enc)

/-- THE STATEMENT. -/
theorem traceTexts_holds : Rows.TraceTextsCardSaid :=
  Claim7.holds_tied_plain_at .later [] [.data, .data, .data] true (true, "1eda6df1707c50841f6cd8d75dc7a6165e0984391ccf47f29fcd572f8f1e9166") false
    traceTexts_row (fun _ h => by cases h) (by kernel_rfl) (fun _ h => by cases h) traceTexts_row_tie rfl ⟨rfl, rfl⟩ (by kernel_rfl) rfl
    (fun f fn hf hfn => by
      obtain rfl : f = 7 := Option.some.inj ((show Tryd.prog.funcNamed "plumbob/plumboblaw3.TraceTexts" = some 7 by kernel_rfl).symm.trans hf) |>.symm
      obtain rfl : fn = Tryd.f7 := (Option.some.inj (Tryd.func7.symm.trans hfn)).symm
      exact ⟨by kernel_rfl, fun j t ht => by
        rw [Tryd.params7] at ht
        have hm : t ∈ [27, 27] := by simpa using Array.mem_of_getElem? ht
        have hall : ([27, 27].all fun u => !Tryd.prog.wantsStandIn u) = true := by kernel_rfl
        exact (show Tryd.prog.wantsStandIn t = false by simpa using List.all_eq_true.1 hall t hm)⟩)
    (by kernel_rfl)
#print axioms traceTexts_holds

end Go.Proofs.YtdibjidjocmfhaaDoor
