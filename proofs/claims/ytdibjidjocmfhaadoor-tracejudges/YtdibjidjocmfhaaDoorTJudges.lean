/- For all runs: runs are the same, leak the same, may be one of the other, are told, as the document says (P3.1, P3.2): the statement TraceJudges returns true. Conditions: the three tables of the library that the row lists start as the program's text lays them (the card ties them). -/
import Derived.Test.YtdibjidjocmfhaaDoorTFrame
import Derived.Test.YtdibjidjocmfhaaDoorTRefs2
import Derived.Test.YtdibjidjocmfhaaDoorTTold
import Derived.Test.YtdibjidjocmfhaaDoorTTextM
import Derived.Deep.DeepCutAuto
namespace Go.Proofs.YtdibjidjocmfhaaDoor
open Go.ChangeShapes Go.WideShapes Go.ChangeAt Go.RowKit Go.Joins Go.Deep Pl
set_option linter.unusedSimpArgs false
set_option linter.unusedVariables false

theorem RunAt.shapeJ {w : World} {r : RD} (h : RunAt w r) : ∃ (a b : Option Addr) (n cap m cap' : Nat), r.ev = .slice a n cap ∧ r.lk = .slice b m cap' ∧ n = r.es.length ∧ (n : Int) ≤ 9223372036854775807 ∧ (m : Int) ≤ 9223372036854775807 ∧ EvL w a r.es := by
  obtain ⟨⟨a, cap, h1, h2, h3, h4⟩, ⟨b, cap', k1, k2, k3, k4⟩⟩ := h
  exact ⟨a, b, _, cap, _, cap', h1, k1, rfl, by omega, by omega, h4⟩
theorem told_to (r : RD) (s : ByteArray) (w : World) (hs : (⟨(textR r).toArray⟩ : ByteArray) = s) (h : RunAt w r) (hn : r.es.length ≤ 1000) (ho : EvOk r.es) (x0 : -9223372036854775808 ≤ r.x) (x1 : r.x ≤ 9223372036854775807) : Calls Tryd.prog 24 #[r.v] w (retP (.string s) w) := by
  rw [← hs]; exact told_run r w h hn ho x0 x1
theorem inOut_take {l : List Ev} {i : Nat} {x : Ev} (h : InOut (l.take i)) (hg : l[i]? = some x) (hx : x.1 = 1 ∨ x.1 = 2) : InOut (l.take (i + 1)) := by
  rw [List.take_add_one, hg]
  intro y hy
  simp only [Option.toList_some, List.mem_append, List.mem_singleton] at hy
  rcases hy with hy | rfl
  · exact h y hy
  · exact hx
theorem outs_at {l : List Ev} {i : Nat} {en : Int} (hg : l[i]? = some (2, en)) : (outsL l)[(outsL (l.take i)).length]? = some en := by
  have h : outsL l = outsL (l.take (i + 1)) ++ outsL (l.drop (i + 1)) := by
    unfold outsL
    rw [← List.filterMap_append, List.take_append_drop]
  have h2 := outsL_take hg
  simp only [if_true] at h2
  rw [h, h2, List.append_assoc, List.getElem?_append_right (Nat.le_refl _)]
  simp


set_option maxHeartbeats 4000000 in
theorem traceJudges_long (k x st : Int) (ea la : Option Addr) (n ec m mc : Nat) (es : List Ev) (ls : List Lk) (k' x' st' : Int) (ea' la' : Option Addr) (n' ec' m' mc' : Nat) (es' : List Ev) (ls' : List Lk) (w : World) (HA : Hid (RunAt w ⟨k, x, .slice ea n ec, .slice la m mc, st, es, ls⟩)) (HA' : Hid (RunAt w ⟨k', x', .slice ea' n' ec', .slice la' m' mc', st', es', ls'⟩)) (HT : Hid (Tab w)) (m1 : (n : Int) ≤ 9223372036854775807) (m2 : (n' : Int) ≤ 9223372036854775807) (m3 : (m : Int) ≤ 9223372036854775807) (m4 : (m' : Int) ≤ 9223372036854775807) (hc : (200 : Int) < n ∨ (200 : Int) < n' ∨ (200 : Int) < m ∨ (200 : Int) < m') :
    Calls Tryd.prog 5 #[.agg #[.int .i64 k, .int .i64 x, .slice ea n ec, .slice la m mc, .int .i64 st], .agg #[.int .i64 k', .int .i64 x', .slice ea' n' ec', .slice la' m' mc', .int .i64 st']] w (retP (.bool true) w) := by
  by_cases c0 : (200 : Int) < n
  · clear hc
    go_enter Tryd.func5, Tryd.ntmps5
    go_wp2_with fail
    refine (awake_any _ (tab_keep HT.out (by repeat (first | with_reducible exact Below.refl _ _ | with_reducible refine bel_alloc ?_ _ | with_reducible refine bel_set ?_ (by first | exact Nat.le_refl _ | (simp; done) | (simp; omega)) _ | with_reducible refine Below.drew ?_ | refine bel_trans ?_ (by assumption))))).mono ?_
    rintro e w1 ⟨rfl, hb1⟩
    have t0 : w1.cell? ⟨w.heap.size, 0, none⟩ = some (.int .i64 k) := keep_cell hb1 (by go_simp)
    have t1 : w1.cell? ⟨w.heap.size, 1, none⟩ = some (.int .i64 x) := keep_cell hb1 (by go_simp)
    have t2 : w1.cell? ⟨w.heap.size, 2, none⟩ = some (.slice ea n ec) := keep_cell hb1 (by go_simp)
    have t3 : w1.cell? ⟨w.heap.size, 3, none⟩ = some (.slice la m mc) := keep_cell hb1 (by go_simp)
    have t4 : w1.cell? ⟨w.heap.size, 4, none⟩ = some (.int .i64 st) := keep_cell hb1 (by go_simp)
    have y0 : w1.cell? ⟨(w.heap.size + 1), 0, none⟩ = some (.int .i64 k') := keep_cell hb1 (by go_simp)
    have y1 : w1.cell? ⟨(w.heap.size + 1), 1, none⟩ = some (.int .i64 x') := keep_cell hb1 (by go_simp)
    have y2 : w1.cell? ⟨(w.heap.size + 1), 2, none⟩ = some (.slice ea' n' ec') := keep_cell hb1 (by go_simp)
    have y3 : w1.cell? ⟨(w.heap.size + 1), 3, none⟩ = some (.slice la' m' mc') := keep_cell hb1 (by go_simp)
    have y4 : w1.cell? ⟨(w.heap.size + 1), 4, none⟩ = some (.int .i64 st') := keep_cell hb1 (by go_simp)
    have HBw : Hid (Below w.heap.size w w1) := (by repeat (first | with_reducible exact Below.refl _ _ | with_reducible refine bel_alloc ?_ _ | with_reducible refine bel_set ?_ (by first | exact Nat.le_refl _ | (simp; done) | (simp; omega)) _ | with_reducible refine Below.drew ?_ | refine bel_trans ?_ (by assumption)))
    clear hb1
    go_wp2
    go_ret
    exact ⟨rfl, HBw.out⟩
  by_cases c1 : (200 : Int) < n'
  · clear hc
    go_enter Tryd.func5, Tryd.ntmps5
    go_wp2_with fail
    refine (awake_any _ (tab_keep HT.out (by repeat (first | with_reducible exact Below.refl _ _ | with_reducible refine bel_alloc ?_ _ | with_reducible refine bel_set ?_ (by first | exact Nat.le_refl _ | (simp; done) | (simp; omega)) _ | with_reducible refine Below.drew ?_ | refine bel_trans ?_ (by assumption))))).mono ?_
    rintro e w1 ⟨rfl, hb1⟩
    have t0 : w1.cell? ⟨w.heap.size, 0, none⟩ = some (.int .i64 k) := keep_cell hb1 (by go_simp)
    have t1 : w1.cell? ⟨w.heap.size, 1, none⟩ = some (.int .i64 x) := keep_cell hb1 (by go_simp)
    have t2 : w1.cell? ⟨w.heap.size, 2, none⟩ = some (.slice ea n ec) := keep_cell hb1 (by go_simp)
    have t3 : w1.cell? ⟨w.heap.size, 3, none⟩ = some (.slice la m mc) := keep_cell hb1 (by go_simp)
    have t4 : w1.cell? ⟨w.heap.size, 4, none⟩ = some (.int .i64 st) := keep_cell hb1 (by go_simp)
    have y0 : w1.cell? ⟨(w.heap.size + 1), 0, none⟩ = some (.int .i64 k') := keep_cell hb1 (by go_simp)
    have y1 : w1.cell? ⟨(w.heap.size + 1), 1, none⟩ = some (.int .i64 x') := keep_cell hb1 (by go_simp)
    have y2 : w1.cell? ⟨(w.heap.size + 1), 2, none⟩ = some (.slice ea' n' ec') := keep_cell hb1 (by go_simp)
    have y3 : w1.cell? ⟨(w.heap.size + 1), 3, none⟩ = some (.slice la' m' mc') := keep_cell hb1 (by go_simp)
    have y4 : w1.cell? ⟨(w.heap.size + 1), 4, none⟩ = some (.int .i64 st') := keep_cell hb1 (by go_simp)
    have HBw : Hid (Below w.heap.size w w1) := (by repeat (first | with_reducible exact Below.refl _ _ | with_reducible refine bel_alloc ?_ _ | with_reducible refine bel_set ?_ (by first | exact Nat.le_refl _ | (simp; done) | (simp; omega)) _ | with_reducible refine Below.drew ?_ | refine bel_trans ?_ (by assumption)))
    clear hb1
    go_wp2
    go_ret
    exact ⟨rfl, HBw.out⟩
  by_cases c2 : (200 : Int) < m
  · clear hc
    go_enter Tryd.func5, Tryd.ntmps5
    go_wp2_with fail
    refine (awake_any _ (tab_keep HT.out (by repeat (first | with_reducible exact Below.refl _ _ | with_reducible refine bel_alloc ?_ _ | with_reducible refine bel_set ?_ (by first | exact Nat.le_refl _ | (simp; done) | (simp; omega)) _ | with_reducible refine Below.drew ?_ | refine bel_trans ?_ (by assumption))))).mono ?_
    rintro e w1 ⟨rfl, hb1⟩
    have t0 : w1.cell? ⟨w.heap.size, 0, none⟩ = some (.int .i64 k) := keep_cell hb1 (by go_simp)
    have t1 : w1.cell? ⟨w.heap.size, 1, none⟩ = some (.int .i64 x) := keep_cell hb1 (by go_simp)
    have t2 : w1.cell? ⟨w.heap.size, 2, none⟩ = some (.slice ea n ec) := keep_cell hb1 (by go_simp)
    have t3 : w1.cell? ⟨w.heap.size, 3, none⟩ = some (.slice la m mc) := keep_cell hb1 (by go_simp)
    have t4 : w1.cell? ⟨w.heap.size, 4, none⟩ = some (.int .i64 st) := keep_cell hb1 (by go_simp)
    have y0 : w1.cell? ⟨(w.heap.size + 1), 0, none⟩ = some (.int .i64 k') := keep_cell hb1 (by go_simp)
    have y1 : w1.cell? ⟨(w.heap.size + 1), 1, none⟩ = some (.int .i64 x') := keep_cell hb1 (by go_simp)
    have y2 : w1.cell? ⟨(w.heap.size + 1), 2, none⟩ = some (.slice ea' n' ec') := keep_cell hb1 (by go_simp)
    have y3 : w1.cell? ⟨(w.heap.size + 1), 3, none⟩ = some (.slice la' m' mc') := keep_cell hb1 (by go_simp)
    have y4 : w1.cell? ⟨(w.heap.size + 1), 4, none⟩ = some (.int .i64 st') := keep_cell hb1 (by go_simp)
    have HBw : Hid (Below w.heap.size w w1) := (by repeat (first | with_reducible exact Below.refl _ _ | with_reducible refine bel_alloc ?_ _ | with_reducible refine bel_set ?_ (by first | exact Nat.le_refl _ | (simp; done) | (simp; omega)) _ | with_reducible refine Below.drew ?_ | refine bel_trans ?_ (by assumption)))
    clear hb1
    go_wp2
    go_ret
    exact ⟨rfl, HBw.out⟩
  have c3 : (200 : Int) < m' := by omega
  clear hc
  go_enter Tryd.func5, Tryd.ntmps5
  go_wp2_with fail
  refine (awake_any _ (tab_keep HT.out (by repeat (first | with_reducible exact Below.refl _ _ | with_reducible refine bel_alloc ?_ _ | with_reducible refine bel_set ?_ (by first | exact Nat.le_refl _ | (simp; done) | (simp; omega)) _ | with_reducible refine Below.drew ?_ | refine bel_trans ?_ (by assumption))))).mono ?_
  rintro e w1 ⟨rfl, hb1⟩
  have t0 : w1.cell? ⟨w.heap.size, 0, none⟩ = some (.int .i64 k) := keep_cell hb1 (by go_simp)
  have t1 : w1.cell? ⟨w.heap.size, 1, none⟩ = some (.int .i64 x) := keep_cell hb1 (by go_simp)
  have t2 : w1.cell? ⟨w.heap.size, 2, none⟩ = some (.slice ea n ec) := keep_cell hb1 (by go_simp)
  have t3 : w1.cell? ⟨w.heap.size, 3, none⟩ = some (.slice la m mc) := keep_cell hb1 (by go_simp)
  have t4 : w1.cell? ⟨w.heap.size, 4, none⟩ = some (.int .i64 st) := keep_cell hb1 (by go_simp)
  have y0 : w1.cell? ⟨(w.heap.size + 1), 0, none⟩ = some (.int .i64 k') := keep_cell hb1 (by go_simp)
  have y1 : w1.cell? ⟨(w.heap.size + 1), 1, none⟩ = some (.int .i64 x') := keep_cell hb1 (by go_simp)
  have y2 : w1.cell? ⟨(w.heap.size + 1), 2, none⟩ = some (.slice ea' n' ec') := keep_cell hb1 (by go_simp)
  have y3 : w1.cell? ⟨(w.heap.size + 1), 3, none⟩ = some (.slice la' m' mc') := keep_cell hb1 (by go_simp)
  have y4 : w1.cell? ⟨(w.heap.size + 1), 4, none⟩ = some (.int .i64 st') := keep_cell hb1 (by go_simp)
  have HBw : Hid (Below w.heap.size w w1) := (by repeat (first | with_reducible exact Below.refl _ _ | with_reducible refine bel_alloc ?_ _ | with_reducible refine bel_set ?_ (by first | exact Nat.le_refl _ | (simp; done) | (simp; omega)) _ | with_reducible refine Below.drew ?_ | refine bel_trans ?_ (by assumption)))
  clear hb1
  go_wp2
  go_ret
  exact ⟨rfl, HBw.out⟩


set_option maxRecDepth 100000 in
set_option maxHeartbeats 40000000 in
theorem traceJudges_short (k x st : Int) (ea la : Option Addr) (n ec m mc : Nat) (es : List Ev) (ls : List Lk) (k' x' st' : Int) (ea' la' : Option Addr) (n' ec' m' mc' : Nat) (es' : List Ev) (ls' : List Lk) (w : World) (HA : Hid (RunAt w ⟨k, x, .slice ea n ec, .slice la m mc, st, es, ls⟩)) (HA' : Hid (RunAt w ⟨k', x', .slice ea' n' ec', .slice la' m' mc', st', es', ls'⟩)) (HT : Hid (Tab w)) (HE : Hid (EvL w ea es)) (HN : Hid (n = es.length)) (OA : EvOk es) (k0 : -9223372036854775808 ≤ x) (k1 : x ≤ 9223372036854775807) (c0 : ¬ (200 : Int) < n) (c1 : ¬ (200 : Int) < n') (c2 : ¬ (200 : Int) < m) (c3 : ¬ (200 : Int) < m') :
    Calls Tryd.prog 5 #[.agg #[.int .i64 k, .int .i64 x, .slice ea n ec, .slice la m mc, .int .i64 st], .agg #[.int .i64 k', .int .i64 x', .slice ea' n' ec', .slice la' m' mc', .int .i64 st']] w (retP (.bool true) w) := by
  have hn : n ≤ 200 := by omega
  obtain ⟨rs, hrs⟩ : ∃ r, sameR ⟨k, x, .slice ea n ec, .slice la m mc, st, es, ls⟩ ⟨k', x', .slice ea' n' ec', .slice la' m' mc', st', es', ls'⟩ = r := ⟨_, rfl⟩
  obtain ⟨rl, hrl⟩ : ∃ r, leaksR ⟨k, x, .slice ea n ec, .slice la m mc, st, es, ls⟩ ⟨k', x', .slice ea' n' ec', .slice la' m' mc', st', es', ls'⟩ = r := ⟨_, rfl⟩
  obtain ⟨r1, hr1⟩ : ∃ r, refR ⟨k, x, .slice ea n ec, .slice la m mc, st, es, ls⟩ ⟨k', x', .slice ea' n' ec', .slice la' m' mc', st', es', ls'⟩ = r := ⟨_, rfl⟩
  obtain ⟨r2, hr2⟩ : ∃ r, refR ⟨k', x', .slice ea' n' ec', .slice la' m' mc', st', es', ls'⟩ ⟨k, x, .slice ea n ec, .slice la m mc, st, es, ls⟩ = r := ⟨_, rfl⟩
  obtain ⟨rp, hrp⟩ : ∃ r, evPre es es' = r := ⟨_, rfl⟩
  have HRs : Hid (sameR ⟨k, x, .slice ea n ec, .slice la m mc, st, es, ls⟩ ⟨k', x', .slice ea' n' ec', .slice la' m' mc', st', es', ls'⟩ = rs) := hrs
  have HRl : Hid (leaksR ⟨k, x, .slice ea n ec, .slice la m mc, st, es, ls⟩ ⟨k', x', .slice ea' n' ec', .slice la' m' mc', st', es', ls'⟩ = rl) := hrl
  have HR1 : Hid (refR ⟨k, x, .slice ea n ec, .slice la m mc, st, es, ls⟩ ⟨k', x', .slice ea' n' ec', .slice la' m' mc', st', es', ls'⟩ = r1) := hr1
  have HR2 : Hid (refR ⟨k', x', .slice ea' n' ec', .slice la' m' mc', st', es', ls'⟩ ⟨k, x, .slice ea n ec, .slice la m mc, st, es, ls⟩ = r2) := hr2
  have HRp : Hid (rp = evPre es es') := hrp.symm
  clear hrs hrl hr1 hr2 hrp
  go_enter Tryd.func5, Tryd.ntmps5
  go_wp2_with fail
  refine (awake_any _ (tab_keep HT.out (by repeat (first | with_reducible exact Below.refl _ _ | with_reducible refine bel_alloc ?_ _ | with_reducible refine bel_set ?_ (by first | exact Nat.le_refl _ | (simp; done) | (simp; omega)) _ | with_reducible refine Below.drew ?_ | refine bel_trans ?_ (by assumption))))).mono ?_
  rintro e w1 ⟨rfl, hb1⟩
  have t0 : w1.cell? ⟨w.heap.size, 0, none⟩ = some (.int .i64 k) := keep_cell hb1 (by go_simp)
  have t1 : w1.cell? ⟨w.heap.size, 1, none⟩ = some (.int .i64 x) := keep_cell hb1 (by go_simp)
  have t2 : w1.cell? ⟨w.heap.size, 2, none⟩ = some (.slice ea n ec) := keep_cell hb1 (by go_simp)
  have t3 : w1.cell? ⟨w.heap.size, 3, none⟩ = some (.slice la m mc) := keep_cell hb1 (by go_simp)
  have t4 : w1.cell? ⟨w.heap.size, 4, none⟩ = some (.int .i64 st) := keep_cell hb1 (by go_simp)
  have y0 : w1.cell? ⟨(w.heap.size + 1), 0, none⟩ = some (.int .i64 k') := keep_cell hb1 (by go_simp)
  have y1 : w1.cell? ⟨(w.heap.size + 1), 1, none⟩ = some (.int .i64 x') := keep_cell hb1 (by go_simp)
  have y2 : w1.cell? ⟨(w.heap.size + 1), 2, none⟩ = some (.slice ea' n' ec') := keep_cell hb1 (by go_simp)
  have y3 : w1.cell? ⟨(w.heap.size + 1), 3, none⟩ = some (.slice la' m' mc') := keep_cell hb1 (by go_simp)
  have y4 : w1.cell? ⟨(w.heap.size + 1), 4, none⟩ = some (.int .i64 st') := keep_cell hb1 (by go_simp)
  have HBw : Hid (Below w.heap.size w w1) := (by repeat (first | with_reducible exact Below.refl _ _ | with_reducible refine bel_alloc ?_ _ | with_reducible refine bel_set ?_ (by first | exact Nat.le_refl _ | (simp; done) | (simp; omega)) _ | with_reducible refine Below.drew ?_ | refine bel_trans ?_ (by assumption)))
  clear hb1
  have RA : RunAt w1 ⟨k, x, .slice ea n ec, .slice la m mc, st, es, ls⟩ := HA.out.keep HBw.out
  have RB : RunAt w1 ⟨k', x', .slice ea' n' ec', .slice la' m' mc', st', es', ls'⟩ := HA'.out.keep HBw.out
  have hdB : ∀ {A0 A1 A2 A3 A4 A5 A6 A7 A8 A9 : Prop} {v : World}, A0 ∧ A1 ∧ A2 ∧ A3 ∧ A4 ∧ A5 ∧ A6 ∧ A7 ∧ A8 ∧ A9 ∧ Below w1.heap.size w1 v → Below w1.heap.size w1 v := fun h => h.2.2.2.2.2.2.2.2.2.2
  have hdS : ∀ {v : World}, Below w1.heap.size w1 v → (v.cell? ⟨w.heap.size, 0, none⟩ = some (.int .i64 k) ∧ v.cell? ⟨w.heap.size, 1, none⟩ = some (.int .i64 x) ∧ v.cell? ⟨w.heap.size, 2, none⟩ = some (.slice ea n ec) ∧ v.cell? ⟨w.heap.size, 3, none⟩ = some (.slice la m mc) ∧ v.cell? ⟨w.heap.size, 4, none⟩ = some (.int .i64 st) ∧ v.cell? ⟨(w.heap.size + 1), 0, none⟩ = some (.int .i64 k') ∧ v.cell? ⟨(w.heap.size + 1), 1, none⟩ = some (.int .i64 x') ∧ v.cell? ⟨(w.heap.size + 1), 2, none⟩ = some (.slice ea' n' ec') ∧ v.cell? ⟨(w.heap.size + 1), 3, none⟩ = some (.slice la' m' mc') ∧ v.cell? ⟨(w.heap.size + 1), 4, none⟩ = some (.int .i64 st') ∧ Below w1.heap.size w1 v) := fun h => ⟨keep_cell h t0, keep_cell h t1, keep_cell h t2, keep_cell h t3, keep_cell h t4, keep_cell h y0, keep_cell h y1, keep_cell h y2, keep_cell h y3, keep_cell h y4, h⟩
  go_wp2_with fail
  go_cut [79] (fun sv w' => sv = .bool false ∧ w'.cell? ⟨w.heap.size, 0, none⟩ = some (.int .i64 k) ∧ w'.cell? ⟨w.heap.size, 1, none⟩ = some (.int .i64 x) ∧ w'.cell? ⟨w.heap.size, 2, none⟩ = some (.slice ea n ec) ∧ w'.cell? ⟨w.heap.size, 3, none⟩ = some (.slice la m mc) ∧ w'.cell? ⟨w.heap.size, 4, none⟩ = some (.int .i64 st) ∧ w'.cell? ⟨(w.heap.size + 1), 0, none⟩ = some (.int .i64 k') ∧ w'.cell? ⟨(w.heap.size + 1), 1, none⟩ = some (.int .i64 x') ∧ w'.cell? ⟨(w.heap.size + 1), 2, none⟩ = some (.slice ea' n' ec') ∧ w'.cell? ⟨(w.heap.size + 1), 3, none⟩ = some (.slice la' m' mc') ∧ w'.cell? ⟨(w.heap.size + 1), 4, none⟩ = some (.int .i64 st') ∧ Below w1.heap.size w1 w')
  case first =>
    refine wp_region_held_drew (S := (fun w' => w'.cell? ⟨w.heap.size, 0, none⟩ = some (.int .i64 k) ∧ w'.cell? ⟨w.heap.size, 1, none⟩ = some (.int .i64 x) ∧ w'.cell? ⟨w.heap.size, 2, none⟩ = some (.slice ea n ec) ∧ w'.cell? ⟨w.heap.size, 3, none⟩ = some (.slice la m mc) ∧ w'.cell? ⟨w.heap.size, 4, none⟩ = some (.int .i64 st) ∧ w'.cell? ⟨(w.heap.size + 1), 0, none⟩ = some (.int .i64 k') ∧ w'.cell? ⟨(w.heap.size + 1), 1, none⟩ = some (.int .i64 x') ∧ w'.cell? ⟨(w.heap.size + 1), 2, none⟩ = some (.slice ea' n' ec') ∧ w'.cell? ⟨(w.heap.size + 1), 3, none⟩ = some (.slice la' m' mc') ∧ w'.cell? ⟨(w.heap.size + 1), 4, none⟩ = some (.int .i64 st') ∧ Below w1.heap.size w1 w')) (by kernel_rfl) (hdS (Below.drew (Below.refl _ _))) (fun hHeld => ?_)
    refine wpAnyH_take (i := 0) (oi := ?oia0) (v := ?vva0) ?hia0 (by kernel_rfl) (by kernel_rfl) (by kernel_rfl) ?hqa0 ?hya0 hHeld ?_
    case hia0 => simp only [List.getElem?_toArray, List.getElem?_cons_succ, List.getElem?_cons_zero]; rfl
    case hqa0 => exact fun _ _ _ h => h
    case hya0 => (refine Or.inl ⟨by rfl, ?_⟩; intro w' hSw; (try dsimp only at hSw); go_simp; (try (with_reducible rfl)))
    simp only [Act.put, List.setIfInBounds_toArray, List.set_cons_zero, List.set_cons_succ]
    refine wpAnyH_take (i := 1) (oi := ?oia1) (v := ?vva1) ?hia1 (by kernel_rfl) (by kernel_rfl) (by kernel_rfl) ?hqa1 ?hya1 hHeld ?_
    case hia1 => simp only [List.getElem?_toArray, List.getElem?_cons_succ, List.getElem?_cons_zero]; rfl
    case hqa1 => exact fun _ _ _ h => h
    case hya1 => (refine Or.inl ⟨by rfl, ?_⟩; intro w' hSw; (try dsimp only at hSw); go_simp; (try (with_reducible rfl)))
    simp only [Act.put, List.setIfInBounds_toArray, List.set_cons_zero, List.set_cons_succ]
    refine wpAnyH_take (i := 3) (oi := ?oia3) (v := ?vva3) ?hia3 (by kernel_rfl) (by kernel_rfl) (by kernel_rfl) ?hqa3 ?hya3 hHeld ?_
    case hia3 => simp only [List.getElem?_toArray, List.getElem?_cons_succ, List.getElem?_cons_zero]; rfl
    case hqa3 => exact fun _ _ _ h => h
    case hya3 => (refine Or.inl ⟨by rfl, ?_⟩; intro w' hSw; (try dsimp only at hSw); go_simp; (try (with_reducible rfl)))
    simp only [Act.put, List.setIfInBounds_toArray, List.set_cons_zero, List.set_cons_succ]
    refine wpAnyH_take (i := 4) (oi := ?oia4) (v := ?vva4) ?hia4 (by kernel_rfl) (by kernel_rfl) (by kernel_rfl) ?hqa4 ?hya4 hHeld ?_
    case hia4 => simp only [List.getElem?_toArray, List.getElem?_cons_succ, List.getElem?_cons_zero]; rfl
    case hqa4 => exact fun _ _ _ h => h
    case hya4 => (refine Or.inl ⟨by rfl, ?_⟩; intro w' hSw; (try dsimp only at hSw); go_simp; (try (with_reducible rfl)))
    simp only [Act.put, List.setIfInBounds_toArray, List.set_cons_zero, List.set_cons_succ]
    refine wpAnyH_ready (rs := [2]) (by kernel_rfl) (by simp) ?_
    refine AllReadyH.cons (o := ?oia2) ?hia2 (fun K hK => ?_) AllReadyH.nil
    case hia2 => simp only [List.getElem?_toArray, List.getElem?_cons_succ, List.getElem?_cons_zero]; rfl
    go_simp
    refine (same_to ⟨k, x, .slice ea n ec, .slice la m mc, st, es, ls⟩ ⟨k', x', .slice ea' n' ec', .slice la' m' mc', st', es', ls'⟩ _ (RA.keep (hdB hHeld)) (RB.keep (hdB hHeld)) rs HRs).mono ?_
    rintro e v2 ⟨rfl, hv2⟩
    go_wp2_with fail
    refine hK.out _ _ (hdS (bel_trans (hdB hHeld) hv2)) (fun hN => ?_)
    clear hK K hHeld
    have hHeld := hN
    clear hN
    try simp only [Act.put, List.setIfInBounds_toArray, List.set_cons_zero, List.set_cons_succ]
    refine wpAnyH_ready (rs := [5]) (by kernel_rfl) (by simp) ?_
    refine AllReadyH.cons (o := ?oia5) ?hia5 (fun K hK => ?_) AllReadyH.nil
    case hia5 => simp only [List.getElem?_toArray, List.getElem?_cons_succ, List.getElem?_cons_zero]; rfl
    go_simp
    refine (rsame_to ⟨k, x, .slice ea n ec, .slice la m mc, st, es, ls⟩ ⟨k', x', .slice ea' n' ec', .slice la' m' mc', st', es', ls'⟩ _ (RA.keep (hdB hHeld)) (RB.keep (hdB hHeld)) rs HRs).mono ?_
    rintro e v5 ⟨rfl, hv5⟩
    go_wp2_with fail
    refine hK.out _ _ (hdS (bel_trans (hdB hHeld) hv5)) (fun hN => ?_)
    clear hK K hHeld
    have hHeld := hN
    clear hN
    try simp only [Act.put, List.setIfInBounds_toArray, List.set_cons_zero, List.set_cons_succ]
    refine wpAnyH_take (i := 6) (oi := ?oia6) (v := ?vva6) ?hia6 (by kernel_rfl) (by kernel_rfl) (by kernel_rfl) ?hqa6 ?hya6 hHeld ?_
    case hia6 => simp only [List.getElem?_toArray, List.getElem?_cons_succ, List.getElem?_cons_zero]; rfl
    case hqa6 => exact fun _ _ _ h => h
    case hya6 => (refine Or.inl ⟨by rfl, ?_⟩; intro w' hSw; (try dsimp only at hSw); go_simp; (try (with_reducible rfl)))
    simp only [Act.put, List.setIfInBounds_toArray, List.set_cons_zero, List.set_cons_succ]
    refine wpAnyH_take (i := 7) (oi := ?oia7) (v := ?vva7) ?hia7 (by kernel_rfl) (by kernel_rfl) (by kernel_rfl) ?hqa7 ?hya7 hHeld ?_
    case hia7 => simp only [List.getElem?_toArray, List.getElem?_cons_succ, List.getElem?_cons_zero]; rfl
    case hqa7 => exact fun _ _ _ h => h
    case hya7 => (refine Or.inl ⟨by rfl, ?_⟩; intro w' hSw; (try dsimp only at hSw); go_simp; (try (with_reducible rfl)))
    simp only [Act.put, List.setIfInBounds_toArray, List.set_cons_zero, List.set_cons_succ]
    refine wpAnyH_take (i := 8) (oi := ?oia8) (v := ?vva8) ?hia8 (by kernel_rfl) (by kernel_rfl) (by kernel_rfl) ?hqa8 ?hya8 hHeld ?_
    case hia8 => simp only [List.getElem?_toArray, List.getElem?_cons_succ, List.getElem?_cons_zero]; rfl
    case hqa8 => exact fun _ _ _ h => h
    case hya8 => (refine Or.inl ⟨by rfl, ?_⟩; intro w' hSw; (try dsimp only at hSw); go_simp; (try (with_reducible rfl)))
    simp only [Act.put, List.setIfInBounds_toArray, List.set_cons_zero, List.set_cons_succ]
    refine wpAnyH_take (i := 9) (oi := ?oia9) (v := ?vva9) ?hia9 (by kernel_rfl) (by kernel_rfl) (by kernel_rfl) ?hqa9 ?hya9 hHeld ?_
    case hia9 => simp only [List.getElem?_toArray, List.getElem?_cons_succ, List.getElem?_cons_zero]; rfl
    case hqa9 => exact fun _ _ _ h => h
    case hya9 => (refine Or.inl ⟨by rfl, ?_⟩; intro w' hSw; (try dsimp only at hSw); go_simp; (try (with_reducible rfl)))
    simp only [Act.put, List.setIfInBounds_toArray, List.set_cons_zero, List.set_cons_succ]
    refine wpAnyH_take (i := 11) (oi := ?oia11) (v := ?vva11) ?hia11 (by kernel_rfl) (by kernel_rfl) (by kernel_rfl) ?hqa11 ?hya11 hHeld ?_
    case hia11 => simp only [List.getElem?_toArray, List.getElem?_cons_succ, List.getElem?_cons_zero]; rfl
    case hqa11 => exact fun _ _ _ h => h
    case hya11 => (refine Or.inl ⟨by rfl, ?_⟩; intro w' hSw; (try dsimp only at hSw); go_simp; (try (with_reducible rfl)))
    simp only [Act.put, List.setIfInBounds_toArray, List.set_cons_zero, List.set_cons_succ]
    refine wpAnyH_take (i := 12) (oi := ?oia12) (v := ?vva12) ?hia12 (by kernel_rfl) (by kernel_rfl) (by kernel_rfl) ?hqa12 ?hya12 hHeld ?_
    case hia12 => simp only [List.getElem?_toArray, List.getElem?_cons_succ, List.getElem?_cons_zero]; rfl
    case hqa12 => exact fun _ _ _ h => h
    case hya12 => (refine Or.inl ⟨by rfl, ?_⟩; intro w' hSw; (try dsimp only at hSw); go_simp; (try (with_reducible rfl)))
    simp only [Act.put, List.setIfInBounds_toArray, List.set_cons_zero, List.set_cons_succ]
    refine wpAnyH_ready (rs := [10]) (by kernel_rfl) (by simp) ?_
    refine AllReadyH.cons (o := ?oia10) ?hia10 (fun K hK => ?_) AllReadyH.nil
    case hia10 => simp only [List.getElem?_toArray, List.getElem?_cons_succ, List.getElem?_cons_zero]; rfl
    go_simp
    refine (leaks_to ⟨k, x, .slice ea n ec, .slice la m mc, st, es, ls⟩ ⟨k', x', .slice ea' n' ec', .slice la' m' mc', st', es', ls'⟩ _ (RA.keep (hdB hHeld)) (RB.keep (hdB hHeld)) rl HRl).mono ?_
    rintro e v10 ⟨rfl, hv10⟩
    go_wp2_with fail
    refine hK.out _ _ (hdS (bel_trans (hdB hHeld) hv10)) (fun hN => ?_)
    clear hK K hHeld
    have hHeld := hN
    clear hN
    try simp only [Act.put, List.setIfInBounds_toArray, List.set_cons_zero, List.set_cons_succ]
    refine wpAnyH_ready (rs := [13]) (by kernel_rfl) (by simp) ?_
    refine AllReadyH.cons (o := ?oia13) ?hia13 (fun K hK => ?_) AllReadyH.nil
    case hia13 => simp only [List.getElem?_toArray, List.getElem?_cons_succ, List.getElem?_cons_zero]; rfl
    go_simp
    refine (rleaks_to ⟨k, x, .slice ea n ec, .slice la m mc, st, es, ls⟩ ⟨k', x', .slice ea' n' ec', .slice la' m' mc', st', es', ls'⟩ _ (RA.keep (hdB hHeld)) (RB.keep (hdB hHeld)) rl HRl).mono ?_
    rintro e v13 ⟨rfl, hv13⟩
    go_wp2_with fail
    refine hK.out _ _ (hdS (bel_trans (hdB hHeld) hv13)) (fun hN => ?_)
    clear hK K hHeld
    have hHeld := hN
    clear hN
    try simp only [Act.put, List.setIfInBounds_toArray, List.set_cons_zero, List.set_cons_succ]
    refine wpAnyH_take (i := 14) (oi := ?oia14) (v := ?vva14) ?hia14 (by kernel_rfl) (by kernel_rfl) (by kernel_rfl) ?hqa14 ?hya14 hHeld ?_
    case hia14 => simp only [List.getElem?_toArray, List.getElem?_cons_succ, List.getElem?_cons_zero]; rfl
    case hqa14 => exact fun _ _ _ h => h
    case hya14 => (refine Or.inl ⟨by rfl, ?_⟩; intro w' hSw; (try dsimp only at hSw); go_simp; (try (with_reducible rfl)))
    simp only [Act.put, List.setIfInBounds_toArray, List.set_cons_zero, List.set_cons_succ]
    refine wpAnyH_take (i := 15) (oi := ?oia15) (v := ?vva15) ?hia15 (by kernel_rfl) (by kernel_rfl) (by kernel_rfl) ?hqa15 ?hya15 hHeld ?_
    case hia15 => simp only [List.getElem?_toArray, List.getElem?_cons_succ, List.getElem?_cons_zero]; rfl
    case hqa15 => exact fun _ _ _ h => h
    case hya15 => (refine Or.inl ⟨by rfl, ?_⟩; intro w' hSw; (try dsimp only at hSw); go_simp; (try (with_reducible rfl)))
    simp only [Act.put, List.setIfInBounds_toArray, List.set_cons_zero, List.set_cons_succ]
    refine wpAnyH_take (i := 16) (oi := ?oia16) (v := ?vva16) ?hia16 (by kernel_rfl) (by kernel_rfl) (by kernel_rfl) ?hqa16 ?hya16 hHeld ?_
    case hia16 => simp only [List.getElem?_toArray, List.getElem?_cons_succ, List.getElem?_cons_zero]; rfl
    case hqa16 => exact fun _ _ _ h => h
    case hya16 => (refine Or.inl ⟨by rfl, ?_⟩; intro w' hSw; (try dsimp only at hSw); go_simp; (try (with_reducible rfl)))
    simp only [Act.put, List.setIfInBounds_toArray, List.set_cons_zero, List.set_cons_succ]
    refine wpAnyH_take (i := 17) (oi := ?oia17) (v := ?vva17) ?hia17 (by kernel_rfl) (by kernel_rfl) (by kernel_rfl) ?hqa17 ?hya17 hHeld ?_
    case hia17 => simp only [List.getElem?_toArray, List.getElem?_cons_succ, List.getElem?_cons_zero]; rfl
    case hqa17 => exact fun _ _ _ h => h
    case hya17 => (refine Or.inl ⟨by rfl, ?_⟩; intro w' hSw; (try dsimp only at hSw); go_simp; (try (with_reducible rfl)))
    simp only [Act.put, List.setIfInBounds_toArray, List.set_cons_zero, List.set_cons_succ]
    refine wpAnyH_take (i := 18) (oi := ?oia18) (v := ?vva18) ?hia18 (by kernel_rfl) (by kernel_rfl) (by kernel_rfl) ?hqa18 ?hya18 hHeld ?_
    case hia18 => simp only [List.getElem?_toArray, List.getElem?_cons_succ, List.getElem?_cons_zero]; rfl
    case hqa18 => exact fun _ _ _ h => h
    case hya18 => (refine Or.inl ⟨by rfl, ?_⟩; intro w' hSw; (try dsimp only at hSw); go_simp; (try (with_reducible rfl)))
    simp only [Act.put, List.setIfInBounds_toArray, List.set_cons_zero, List.set_cons_succ]
    refine wpAnyH_take (i := 20) (oi := ?oia20) (v := ?vva20) ?hia20 (by kernel_rfl) (by kernel_rfl) (by kernel_rfl) ?hqa20 ?hya20 hHeld ?_
    case hia20 => simp only [List.getElem?_toArray, List.getElem?_cons_succ, List.getElem?_cons_zero]; rfl
    case hqa20 => exact fun _ _ _ h => h
    case hya20 => (refine Or.inl ⟨by rfl, ?_⟩; intro w' hSw; (try dsimp only at hSw); go_simp; (try (with_reducible rfl)))
    simp only [Act.put, List.setIfInBounds_toArray, List.set_cons_zero, List.set_cons_succ]
    refine wpAnyH_take (i := 21) (oi := ?oia21) (v := ?vva21) ?hia21 (by kernel_rfl) (by kernel_rfl) (by kernel_rfl) ?hqa21 ?hya21 hHeld ?_
    case hia21 => simp only [List.getElem?_toArray, List.getElem?_cons_succ, List.getElem?_cons_zero]; rfl
    case hqa21 => exact fun _ _ _ h => h
    case hya21 => (refine Or.inl ⟨by rfl, ?_⟩; intro w' hSw; (try dsimp only at hSw); go_simp; (try (with_reducible rfl)))
    simp only [Act.put, List.setIfInBounds_toArray, List.set_cons_zero, List.set_cons_succ]
    refine wpAnyH_ready (rs := [19]) (by kernel_rfl) (by simp) ?_
    refine AllReadyH.cons (o := ?oia19) ?hia19 (fun K hK => ?_) AllReadyH.nil
    case hia19 => simp only [List.getElem?_toArray, List.getElem?_cons_succ, List.getElem?_cons_zero]; rfl
    go_simp
    refine (refines_to ⟨k, x, .slice ea n ec, .slice la m mc, st, es, ls⟩ ⟨k', x', .slice ea' n' ec', .slice la' m' mc', st', es', ls'⟩ _ (RA.keep (hdB hHeld)) (RB.keep (hdB hHeld)) r1 HR1).mono ?_
    rintro e v19 ⟨rfl, hv19⟩
    go_wp2_with fail
    refine hK.out _ _ (hdS (bel_trans (hdB hHeld) hv19)) (fun hN => ?_)
    clear hK K hHeld
    have hHeld := hN
    clear hN
    try simp only [Act.put, List.setIfInBounds_toArray, List.set_cons_zero, List.set_cons_succ]
    refine wpAnyH_ready (rs := [22]) (by kernel_rfl) (by simp) ?_
    refine AllReadyH.cons (o := ?oia22) ?hia22 (fun K hK => ?_) AllReadyH.nil
    case hia22 => simp only [List.getElem?_toArray, List.getElem?_cons_succ, List.getElem?_cons_zero]; rfl
    go_simp
    refine (rrefines_to ⟨k, x, .slice ea n ec, .slice la m mc, st, es, ls⟩ ⟨k', x', .slice ea' n' ec', .slice la' m' mc', st', es', ls'⟩ _ (RA.keep (hdB hHeld)) (RB.keep (hdB hHeld)) r1 HR1).mono ?_
    rintro e v22 ⟨rfl, hv22⟩
    go_wp2_with fail
    refine hK.out _ _ (hdS (bel_trans (hdB hHeld) hv22)) (fun hN => ?_)
    clear hK K hHeld
    have hHeld := hN
    clear hN
    try simp only [Act.put, List.setIfInBounds_toArray, List.set_cons_zero, List.set_cons_succ]
    refine wpAnyH_take (i := 23) (oi := ?oia23) (v := ?vva23) ?hia23 (by kernel_rfl) (by kernel_rfl) (by kernel_rfl) ?hqa23 ?hya23 hHeld ?_
    case hia23 => simp only [List.getElem?_toArray, List.getElem?_cons_succ, List.getElem?_cons_zero]; rfl
    case hqa23 => exact fun _ _ _ h => h
    case hya23 => (refine Or.inl ⟨by rfl, ?_⟩; intro w' hSw; (try dsimp only at hSw); go_simp; (try (with_reducible rfl)))
    simp only [Act.put, List.setIfInBounds_toArray, List.set_cons_zero, List.set_cons_succ]
    refine wpAnyH_take (i := 24) (oi := ?oia24) (v := ?vva24) ?hia24 (by kernel_rfl) (by kernel_rfl) (by kernel_rfl) ?hqa24 ?hya24 hHeld ?_
    case hia24 => simp only [List.getElem?_toArray, List.getElem?_cons_succ, List.getElem?_cons_zero]; rfl
    case hqa24 => exact fun _ _ _ h => h
    case hya24 => (refine Or.inl ⟨by rfl, ?_⟩; intro w' hSw; (try dsimp only at hSw); go_simp; (try (with_reducible rfl)))
    simp only [Act.put, List.setIfInBounds_toArray, List.set_cons_zero, List.set_cons_succ]
    refine wpAnyH_take (i := 25) (oi := ?oia25) (v := ?vva25) ?hia25 (by kernel_rfl) (by kernel_rfl) (by kernel_rfl) ?hqa25 ?hya25 hHeld ?_
    case hia25 => simp only [List.getElem?_toArray, List.getElem?_cons_succ, List.getElem?_cons_zero]; rfl
    case hqa25 => exact fun _ _ _ h => h
    case hya25 => (refine Or.inl ⟨by rfl, ?_⟩; intro w' hSw; (try dsimp only at hSw); go_simp; (try (with_reducible rfl)))
    simp only [Act.put, List.setIfInBounds_toArray, List.set_cons_zero, List.set_cons_succ]
    refine wpAnyH_take (i := 26) (oi := ?oia26) (v := ?vva26) ?hia26 (by kernel_rfl) (by kernel_rfl) (by kernel_rfl) ?hqa26 ?hya26 hHeld ?_
    case hia26 => simp only [List.getElem?_toArray, List.getElem?_cons_succ, List.getElem?_cons_zero]; rfl
    case hqa26 => exact fun _ _ _ h => h
    case hya26 => (refine Or.inl ⟨by rfl, ?_⟩; intro w' hSw; (try dsimp only at hSw); go_simp; (try (with_reducible rfl)))
    simp only [Act.put, List.setIfInBounds_toArray, List.set_cons_zero, List.set_cons_succ]
    refine wpAnyH_take (i := 27) (oi := ?oia27) (v := ?vva27) ?hia27 (by kernel_rfl) (by kernel_rfl) (by kernel_rfl) ?hqa27 ?hya27 hHeld ?_
    case hia27 => simp only [List.getElem?_toArray, List.getElem?_cons_succ, List.getElem?_cons_zero]; rfl
    case hqa27 => exact fun _ _ _ h => h
    case hya27 => (refine Or.inl ⟨by rfl, ?_⟩; intro w' hSw; (try dsimp only at hSw); go_simp; (try (with_reducible rfl)))
    simp only [Act.put, List.setIfInBounds_toArray, List.set_cons_zero, List.set_cons_succ]
    refine wpAnyH_take (i := 29) (oi := ?oia29) (v := ?vva29) ?hia29 (by kernel_rfl) (by kernel_rfl) (by kernel_rfl) ?hqa29 ?hya29 hHeld ?_
    case hia29 => simp only [List.getElem?_toArray, List.getElem?_cons_succ, List.getElem?_cons_zero]; rfl
    case hqa29 => exact fun _ _ _ h => h
    case hya29 => (refine Or.inl ⟨by rfl, ?_⟩; intro w' hSw; (try dsimp only at hSw); go_simp; (try (with_reducible rfl)))
    simp only [Act.put, List.setIfInBounds_toArray, List.set_cons_zero, List.set_cons_succ]
    refine wpAnyH_take (i := 30) (oi := ?oia30) (v := ?vva30) ?hia30 (by kernel_rfl) (by kernel_rfl) (by kernel_rfl) ?hqa30 ?hya30 hHeld ?_
    case hia30 => simp only [List.getElem?_toArray, List.getElem?_cons_succ, List.getElem?_cons_zero]; rfl
    case hqa30 => exact fun _ _ _ h => h
    case hya30 => (refine Or.inl ⟨by rfl, ?_⟩; intro w' hSw; (try dsimp only at hSw); go_simp; (try (with_reducible rfl)))
    simp only [Act.put, List.setIfInBounds_toArray, List.set_cons_zero, List.set_cons_succ]
    refine wpAnyH_ready (rs := [28]) (by kernel_rfl) (by simp) ?_
    refine AllReadyH.cons (o := ?oia28) ?hia28 (fun K hK => ?_) AllReadyH.nil
    case hia28 => simp only [List.getElem?_toArray, List.getElem?_cons_succ, List.getElem?_cons_zero]; rfl
    go_simp
    refine (refines_to ⟨k', x', .slice ea' n' ec', .slice la' m' mc', st', es', ls'⟩ ⟨k, x, .slice ea n ec, .slice la m mc, st, es, ls⟩ _ (RB.keep (hdB hHeld)) (RA.keep (hdB hHeld)) r2 HR2).mono ?_
    rintro e v28 ⟨rfl, hv28⟩
    go_wp2_with fail
    refine hK.out _ _ (hdS (bel_trans (hdB hHeld) hv28)) (fun hN => ?_)
    clear hK K hHeld
    have hHeld := hN
    clear hN
    try simp only [Act.put, List.setIfInBounds_toArray, List.set_cons_zero, List.set_cons_succ]
    refine wpAnyH_ready (rs := [31]) (by kernel_rfl) (by simp) ?_
    refine AllReadyH.cons (o := ?oia31) ?hia31 (fun K hK => ?_) AllReadyH.nil
    case hia31 => simp only [List.getElem?_toArray, List.getElem?_cons_succ, List.getElem?_cons_zero]; rfl
    go_simp
    refine (rrefines_to ⟨k', x', .slice ea' n' ec', .slice la' m' mc', st', es', ls'⟩ ⟨k, x, .slice ea n ec, .slice la m mc, st, es, ls⟩ _ (RB.keep (hdB hHeld)) (RA.keep (hdB hHeld)) r2 HR2).mono ?_
    rintro e v31 ⟨rfl, hv31⟩
    go_wp2_with fail
    refine hK.out _ _ (hdS (bel_trans (hdB hHeld) hv31)) (fun hN => ?_)
    clear hK K hHeld
    have hHeld := hN
    clear hN
    try simp only [Act.put, List.setIfInBounds_toArray, List.set_cons_zero, List.set_cons_succ]
    refine wpAnyH_take (i := 32) (oi := ?oia32) (v := ?vva32) ?hia32 (by kernel_rfl) (by kernel_rfl) (by kernel_rfl) ?hqa32 ?hya32 hHeld ?_
    case hia32 => simp only [List.getElem?_toArray, List.getElem?_cons_succ, List.getElem?_cons_zero]; rfl
    case hqa32 => exact fun _ _ _ h => h
    case hya32 => (refine Or.inl ⟨by rfl, ?_⟩; intro w' hSw; (try dsimp only at hSw); go_simp; (try (with_reducible rfl)))
    simp only [Act.put, List.setIfInBounds_toArray, List.set_cons_zero, List.set_cons_succ]
    refine wpAnyH_take (i := 33) (oi := ?oia33) (v := ?vva33) ?hia33 (by kernel_rfl) (by kernel_rfl) (by kernel_rfl) ?hqa33 ?hya33 hHeld ?_
    case hia33 => simp only [List.getElem?_toArray, List.getElem?_cons_succ, List.getElem?_cons_zero]; rfl
    case hqa33 => exact fun _ _ _ h => h
    case hya33 => (refine Or.inl ⟨by rfl, ?_⟩; intro w' hSw; (try dsimp only at hSw); go_simp; (try (with_reducible rfl)))
    simp only [Act.put, List.setIfInBounds_toArray, List.set_cons_zero, List.set_cons_succ]
    refine wpAnyH_take (i := 34) (oi := ?oia34) (v := ?vva34) ?hia34 (by kernel_rfl) (by kernel_rfl) (by kernel_rfl) ?hqa34 ?hya34 hHeld ?_
    case hia34 => simp only [List.getElem?_toArray, List.getElem?_cons_succ, List.getElem?_cons_zero]; rfl
    case hqa34 => exact fun _ _ _ h => h
    case hya34 => (refine Or.inl ⟨by rfl, ?_⟩; intro w' hSw; (try dsimp only at hSw); go_simp; (try (with_reducible rfl)))
    simp only [Act.put, List.setIfInBounds_toArray, List.set_cons_zero, List.set_cons_succ]
    refine wpAnyH_take (i := 35) (oi := ?oia35) (v := ?vva35) ?hia35 (by kernel_rfl) (by kernel_rfl) (by kernel_rfl) ?hqa35 ?hya35 hHeld ?_
    case hia35 => simp only [List.getElem?_toArray, List.getElem?_cons_succ, List.getElem?_cons_zero]; rfl
    case hqa35 => exact fun _ _ _ h => h
    case hya35 => (refine Or.inl ⟨by rfl, ?_⟩; intro w' hSw; (try dsimp only at hSw); go_simp; (try (with_reducible rfl)))
    simp only [Act.put, List.setIfInBounds_toArray, List.set_cons_zero, List.set_cons_succ]
    refine wpAnyH_take (i := 36) (oi := ?oia36) (v := ?vva36) ?hia36 (by kernel_rfl) (by kernel_rfl) (by kernel_rfl) ?hqa36 ?hya36 hHeld ?_
    case hia36 => simp only [List.getElem?_toArray, List.getElem?_cons_succ, List.getElem?_cons_zero]; rfl
    case hqa36 => exact fun _ _ _ h => h
    case hya36 => (refine Or.inl ⟨by rfl, ?_⟩; intro w' hSw; (try dsimp only at hSw); go_simp; (try (with_reducible rfl)))
    simp only [Act.put, List.setIfInBounds_toArray, List.set_cons_zero, List.set_cons_succ]
    refine wpAnyH_take (i := 37) (oi := ?oia37) (v := ?vva37) ?hia37 (by kernel_rfl) (by kernel_rfl) (by kernel_rfl) ?hqa37 ?hya37 hHeld ?_
    case hia37 => simp only [List.getElem?_toArray, List.getElem?_cons_succ, List.getElem?_cons_zero]; rfl
    case hqa37 => exact fun _ _ _ h => h
    case hya37 => (refine Or.inl ⟨by rfl, ?_⟩; intro w' hSw; (try dsimp only at hSw); go_simp; (try (with_reducible rfl)))
    simp only [Act.put, List.setIfInBounds_toArray, List.set_cons_zero, List.set_cons_succ]
    refine wpAnyH_take (i := 38) (oi := ?oia38) (v := ?vva38) ?hia38 (by kernel_rfl) (by kernel_rfl) (by kernel_rfl) ?hqa38 ?hya38 hHeld ?_
    case hia38 => simp only [List.getElem?_toArray, List.getElem?_cons_succ, List.getElem?_cons_zero]; rfl
    case hqa38 => exact fun _ _ _ h => h
    case hya38 => (refine Or.inl ⟨by rfl, ?_⟩; intro w' hSw; (try dsimp only at hSw); go_simp; (try (with_reducible rfl)))
    simp only [Act.put, List.setIfInBounds_toArray, List.set_cons_zero, List.set_cons_succ]
    refine wpAnyH_take (i := 40) (oi := ?oia40) (v := ?vva40) ?hia40 (by kernel_rfl) (by kernel_rfl) (by kernel_rfl) ?hqa40 ?hya40 hHeld ?_
    case hia40 => simp only [List.getElem?_toArray, List.getElem?_cons_succ, List.getElem?_cons_zero]; rfl
    case hqa40 => exact fun _ _ _ h => h
    case hya40 => (refine Or.inl ⟨by rfl, ?_⟩; intro w' hSw; (try dsimp only at hSw); go_simp; (try (with_reducible rfl)))
    simp only [Act.put, List.setIfInBounds_toArray, List.set_cons_zero, List.set_cons_succ]
    refine wpAnyH_take (i := 41) (oi := ?oia41) (v := ?vva41) ?hia41 (by kernel_rfl) (by kernel_rfl) (by kernel_rfl) ?hqa41 ?hya41 hHeld ?_
    case hia41 => simp only [List.getElem?_toArray, List.getElem?_cons_succ, List.getElem?_cons_zero]; rfl
    case hqa41 => exact fun _ _ _ h => h
    case hya41 => (refine Or.inl ⟨by rfl, ?_⟩; intro w' hSw; (try dsimp only at hSw); go_simp; (try (with_reducible rfl)))
    simp only [Act.put, List.setIfInBounds_toArray, List.set_cons_zero, List.set_cons_succ]
    refine wpAnyH_take (i := 42) (oi := ?oia42) (v := ?vva42) ?hia42 (by kernel_rfl) (by kernel_rfl) (by kernel_rfl) ?hqa42 ?hya42 hHeld ?_
    case hia42 => simp only [List.getElem?_toArray, List.getElem?_cons_succ, List.getElem?_cons_zero]; rfl
    case hqa42 => exact fun _ _ _ h => h
    case hya42 => (refine Or.inl ⟨by rfl, ?_⟩; intro w' hSw; (try dsimp only at hSw); go_simp; (try (with_reducible rfl)))
    simp only [Act.put, List.setIfInBounds_toArray, List.set_cons_zero, List.set_cons_succ]
    refine wpAnyH_take (i := 43) (oi := ?oia43) (v := ?vva43) ?hia43 (by kernel_rfl) (by kernel_rfl) (by kernel_rfl) ?hqa43 ?hya43 hHeld ?_
    case hia43 => simp only [List.getElem?_toArray, List.getElem?_cons_succ, List.getElem?_cons_zero]; rfl
    case hqa43 => exact fun _ _ _ h => h
    case hya43 => (refine Or.inl ⟨by rfl, ?_⟩; intro w' hSw; (try dsimp only at hSw); go_simp; (try (with_reducible rfl)))
    simp only [Act.put, List.setIfInBounds_toArray, List.set_cons_zero, List.set_cons_succ]
    refine wpAnyH_ready (rs := [39]) (by kernel_rfl) (by simp) ?_
    refine AllReadyH.cons (o := ?oia39) ?hia39 (fun K hK => ?_) AllReadyH.nil
    case hia39 => simp only [List.getElem?_toArray, List.getElem?_cons_succ, List.getElem?_cons_zero]; rfl
    go_simp
    refine (prefix_to (EvAt.keep RA.1 (hdB hHeld)) (EvAt.keep RB.1 (hdB hHeld)) (r := rp) HRp).mono ?_
    rintro e v39 ⟨rfl, hv39⟩
    go_wp2_with fail
    refine hK.out _ _ (hdS (bel_trans (hdB hHeld) hv39)) (fun hN => ?_)
    clear hK K hHeld
    have hHeld := hN
    clear hN
    try simp only [Act.put, List.setIfInBounds_toArray, List.set_cons_zero, List.set_cons_succ]
    refine wpAnyH_ready (rs := [44]) (by kernel_rfl) (by simp) ?_
    refine AllReadyH.cons (o := ?oia44) ?hia44 (fun K hK => ?_) AllReadyH.nil
    case hia44 => simp only [List.getElem?_toArray, List.getElem?_cons_succ, List.getElem?_cons_zero]; rfl
    go_simp
    refine (events_to (EvAt.keep RA.1 (hdB hHeld)) (EvAt.keep RB.1 (hdB hHeld)) false (r := rp) HRp).mono ?_
    rintro e v44 ⟨rfl, hv44⟩
    go_wp2_with fail
    refine hK.out _ _ (hdS (bel_trans (hdB hHeld) hv44)) (fun hN => ?_)
    clear hK K hHeld
    have hHeld := hN
    clear hN
    try simp only [Act.put, List.setIfInBounds_toArray, List.set_cons_zero, List.set_cons_succ]
    refine wpAnyH_take (i := 45) (oi := ?oia45) (v := ?vva45) ?hia45 (by kernel_rfl) (by kernel_rfl) (by kernel_rfl) ?hqa45 ?hya45 hHeld ?_
    case hia45 => simp only [List.getElem?_toArray, List.getElem?_cons_succ, List.getElem?_cons_zero]; rfl
    case hqa45 => exact fun _ _ _ h => h
    case hya45 => (refine Or.inl ⟨by rfl, ?_⟩; intro w' hSw; (try dsimp only at hSw); go_simp; (try (with_reducible rfl)))
    simp only [Act.put, List.setIfInBounds_toArray, List.set_cons_zero, List.set_cons_succ]
    refine wpAnyH_take (i := 46) (oi := ?oia46) (v := ?vva46) ?hia46 (by kernel_rfl) (by kernel_rfl) (by kernel_rfl) ?hqa46 ?hya46 hHeld ?_
    case hia46 => simp only [List.getElem?_toArray, List.getElem?_cons_succ, List.getElem?_cons_zero]; rfl
    case hqa46 => exact fun _ _ _ h => h
    case hya46 => (refine Or.inl ⟨by rfl, ?_⟩; intro w' hSw; (try dsimp only at hSw); go_simp; (try (with_reducible rfl)))
    simp only [Act.put, List.setIfInBounds_toArray, List.set_cons_zero, List.set_cons_succ]
    refine wpAnyH_done (by kernel_rfl) ?_ _
    have hfin := hHeld
    go_wp2
    go_meet
    case rel => exact ⟨rfl, hfin⟩
  case rest =>
    obtain ⟨rfl, t0, t1, t2, t3, t4, y0, y1, y2, y3, y4, hbc⟩ := hcut
    have HBc : Hid (Below w.heap.size w wc) := bel_trans HBw.out hbc
    have RAc : Hid (RunAt wc ⟨k, x, .slice ea n ec, .slice la m mc, st, es, ls⟩) := RA.keep hbc
    clear hbc RA RB hdB hdS HBw HRs HRl HR1 HR2 HRp
    rename World => wq
    go_wp2
    go_loopw [5] (fun v wz => ∃ i : Nat, i ≤ n ∧ v = .int .i64 i ∧ Hid (InOut (es.take i)) ∧ wz = wq) (fun v _ => n - (intOf v).toNat)
    case atStart => exact ⟨0, by omega, rfl, by show InOut _; intro y hy; simp at hy, rfl⟩
    case round =>
      obtain ⟨i, hi, rfl, HI, rfl⟩ := hrel
      by_cases hin : i < n
      · have i0 : (0 : Int) ≤ i := by omega
        have i1 : (i : Int) < n := by omega
        have hget := List.getElem?_eq_getElem (l := es) (show i < es.length by rw [← HN.out]; exact hin)
        generalize es[i]'(by rw [← HN.out]; exact hin) = ev at hget
        obtain ⟨b, off, rfl, hc⟩ := HE.out (fun e => by rw [e] at hget; simp at hget)
        obtain ⟨ek, en⟩ := ev
        have c0 := keep_cell HBc.out (hc i _ hget).1
        simp only [] at c0
        have HG : Hid (es[i]? = some (ek, en)) := hget
        clear hc hget
        by_cases h1 : ek = 1
        · subst h1
          go_wp2
          go_roundw
          case rel => exact ⟨i + 1, by omega, by simp, inOut_take HI.out HG.out (Or.inl rfl), by first | rfl | trivial⟩
          case measure => simp [intOf]; omega
        have g1 : (ek != 1) = true := by simpa using h1
        have g1' : (ek == 1) = false := by simpa using h1
        by_cases h2 : ek = 2
        · subst h2
          clear g1 g1'
          go_wp2
          go_roundw
          case rel => exact ⟨i + 1, by omega, by simp, inOut_take HI.out HG.out (Or.inr rfl), by first | rfl | trivial⟩
          case measure => simp [intOf]; omega
        have g2 : (ek != 2) = true := by simpa using h2
        have g2' : (ek == 2) = false := by simpa using h2
        go_wp2
        go_ret
        exact ⟨rfl, HBc.out⟩
      · clear HI
        rename World => wl
        go_wp2_with fail
        refine (outs_run ⟨k, x, .slice ea n ec, .slice la m mc, st, es, ls⟩ _ RAc.out (by have := HN.out; simp only []; omega)).mono ?_
        rintro e wo ⟨o, rfl, ho, hbo⟩
        obtain ⟨oa, oc, hov, ho1, ho2, ho3⟩ := ho
        have HBo : Hid (Below w.heap.size w wo) := bel_trans HBc.out hbo
        have RAo : Hid (RunAt wo ⟨k, x, .slice ea n ec, .slice la m mc, st, es, ls⟩) := RAc.out.keep hbo
        have HTo : Hid (Tab wo) := tab_keep HT.out HBo.out
        replace t0 := keep_cell hbo t0
        replace t1 := keep_cell hbo t1
        replace t2 := keep_cell hbo t2
        replace t3 := keep_cell hbo t3
        replace t4 := keep_cell hbo t4
        replace y0 := keep_cell hbo y0
        replace y1 := keep_cell hbo y1
        replace y2 := keep_cell hbo y2
        replace y3 := keep_cell hbo y3
        replace y4 := keep_cell hbo y4
        simp only [] at hov ho1 ho3
        obtain ⟨L, hL⟩ : ∃ L, (outsL es).length = L := ⟨_, rfl⟩
        rw [hL] at hov ho1
        subst hov
        have HL : Hid ((outsL es).length = L) := hL
        have HO3 : Hid (InL wo oa (outsL es)) := ho3
        have hL2 : L ≤ 200 := by rw [← hL]; have := outsL_length es; have := HN.out; omega
        clear hbo ho3 hL hin hi
        go_wp2
        go_loopw [7, 8] (fun a v wz => ∃ (i p : Nat), i ≤ n ∧ v = .int .i64 i ∧ a = .int .i64 p ∧ p ≤ 200 ∧ Hid (p = (outsL (es.take i)).length) ∧ Hid (Below wo.heap.size wo wz)) (fun _ v _ => n - (intOf v).toNat)
        case atStart => exact ⟨0, 0, by omega, rfl, rfl, by omega, by show _ = _; simp [outsL], by show Below _ _ _; exact Below.refl _ _⟩
        case round =>
          obtain ⟨i, p, hi, rfl, rfl, hp, HP, HBr⟩ := hrel
          have t0 := keep_cell HBr.out t0
          have t1 := keep_cell HBr.out t1
          have t2 := keep_cell HBr.out t2
          have t3 := keep_cell HBr.out t3
          have t4 := keep_cell HBr.out t4
          have y0 := keep_cell HBr.out y0
          have y1 := keep_cell HBr.out y1
          have y2 := keep_cell HBr.out y2
          have y3 := keep_cell HBr.out y3
          have y4 := keep_cell HBr.out y4
          by_cases hin : i < n
          · have i0 : (0 : Int) ≤ i := by omega
            have i1 : (i : Int) < n := by omega
            have hget := List.getElem?_eq_getElem (l := es) (show i < es.length by rw [← HN.out]; exact hin)
            generalize es[i]'(by rw [← HN.out]; exact hin) = ev at hget
            obtain ⟨b, off, rfl, hc⟩ := HE.out (fun e => by rw [e] at hget; simp at hget)
            obtain ⟨ek, en⟩ := ev
            have c0 := keep_cell (bel_trans HBo.out HBr.out) (hc i _ hget).1
            have c1 := keep_cell (bel_trans HBo.out HBr.out) (hc i _ hget).2
            simp only [] at c0 c1
            have HG : Hid (es[i]? = some (ek, en)) := hget
            clear hc hget
            by_cases h2 : ek = 2
            · subst h2
              have hat := outs_at HG.out
              rw [← HP.out] at hat
              have hpl : p < L := by
                rw [← HL.out]
                rcases Nat.lt_or_ge p (outsL es).length with h' | h'
                · exact h'
                · rw [List.getElem?_eq_none h'] at hat; cases hat
              obtain ⟨og, oo, rfl, hoc⟩ := HO3.out (fun e => by rw [e] at hat; simp at hat)
              have co := keep_cell HBr.out (hoc p _ hat)
              clear hoc hat
              have p0 : (0 : Int) ≤ p := by omega
              have p1 : (p : Int) < L := by omega
              have p2 : ¬ (L : Int) ≤ p := by omega
              have p3 : decide ((L : Int) ≤ (p : Int)) = false := decide_eq_false p2
              have HP1 : Hid (p + 1 = (outsL (es.take (i + 1))).length) := by
                show _ = _
                have := outsL_take HG.out
                simp only [if_true] at this
                rw [this, List.length_append, ← HP.out]; rfl
              clear p2
              go_wp2_with fail
              go_quiet (fail)
              go_wp2
              go_roundw
              case rel => exact ⟨i + 1, p + 1, by omega, by simp, by simp, by omega, HP1, bel_drewN HBr.out _⟩
              case measure => simp [intOf]; omega
            · have g2 : (ek == 2) = false := by simpa using h2
              have HP1 : Hid (p = (outsL (es.take (i + 1))).length) := by
                show _ = _
                have := outsL_take HG.out
                simp only [if_neg h2, List.append_nil] at this
                rw [this, ← HP.out]
              go_wp2
              go_roundw
              case rel => exact ⟨i + 1, p, by omega, by simp, rfl, by omega, HP1, HBr⟩
              case measure => simp [intOf]; omega
          · have hpL : p = L := by
              rw [HP.out, ← HL.out, List.take_of_length_le (by rw [← HN.out]; omega)]
            subst hpL
            have RA : RunAt wr ⟨k, x, .slice ea n ec, .slice la m mc, st, es, ls⟩ := RAo.out.keep HBr.out
            have HTc : Hid (Tab wr) := tab_keep HTo.out HBr.out
            have HBf : Hid (Below w.heap.size w wr) := bel_trans HBo.out HBr.out
            obtain ⟨s1, hs1⟩ : ∃ s : ByteArray, (⟨(textR ⟨k, x, .slice ea n ec, .slice la m mc, st, es, ls⟩).toArray⟩ : ByteArray) = s := ⟨_, rfl⟩
            have HS1 : Hid ((⟨(textR ⟨k, x, .slice ea n ec, .slice la m mc, st, es, ls⟩).toArray⟩ : ByteArray) = s1) := hs1
            clear hs1 HBr HBo HL HO3 HP RAo HTo
            have hdB : ∀ {A0 A1 A2 A3 A4 A5 A6 A7 A8 A9 : Prop} {v : World}, A0 ∧ A1 ∧ A2 ∧ A3 ∧ A4 ∧ A5 ∧ A6 ∧ A7 ∧ A8 ∧ A9 ∧ Below wr.heap.size wr v → Below wr.heap.size wr v := fun h => h.2.2.2.2.2.2.2.2.2.2
            have hdS : ∀ {v : World}, Below wr.heap.size wr v → (v.cell? ⟨w.heap.size, 0, none⟩ = some (.int .i64 k) ∧ v.cell? ⟨w.heap.size, 1, none⟩ = some (.int .i64 x) ∧ v.cell? ⟨w.heap.size, 2, none⟩ = some (.slice ea n ec) ∧ v.cell? ⟨w.heap.size, 3, none⟩ = some (.slice la m mc) ∧ v.cell? ⟨w.heap.size, 4, none⟩ = some (.int .i64 st) ∧ v.cell? ⟨(w.heap.size + 1), 0, none⟩ = some (.int .i64 k') ∧ v.cell? ⟨(w.heap.size + 1), 1, none⟩ = some (.int .i64 x') ∧ v.cell? ⟨(w.heap.size + 1), 2, none⟩ = some (.slice ea' n' ec') ∧ v.cell? ⟨(w.heap.size + 1), 3, none⟩ = some (.slice la' m' mc') ∧ v.cell? ⟨(w.heap.size + 1), 4, none⟩ = some (.int .i64 st') ∧ Below wr.heap.size wr v) := fun h => ⟨keep_cell h t0, keep_cell h t1, keep_cell h t2, keep_cell h t3, keep_cell h t4, keep_cell h y0, keep_cell h y1, keep_cell h y2, keep_cell h y3, keep_cell h y4, h⟩
            go_wp2_with fail
            refine wp_region_held_drew (S := (fun w' => w'.cell? ⟨w.heap.size, 0, none⟩ = some (.int .i64 k) ∧ w'.cell? ⟨w.heap.size, 1, none⟩ = some (.int .i64 x) ∧ w'.cell? ⟨w.heap.size, 2, none⟩ = some (.slice ea n ec) ∧ w'.cell? ⟨w.heap.size, 3, none⟩ = some (.slice la m mc) ∧ w'.cell? ⟨w.heap.size, 4, none⟩ = some (.int .i64 st) ∧ w'.cell? ⟨(w.heap.size + 1), 0, none⟩ = some (.int .i64 k') ∧ w'.cell? ⟨(w.heap.size + 1), 1, none⟩ = some (.int .i64 x') ∧ w'.cell? ⟨(w.heap.size + 1), 2, none⟩ = some (.slice ea' n' ec') ∧ w'.cell? ⟨(w.heap.size + 1), 3, none⟩ = some (.slice la' m' mc') ∧ w'.cell? ⟨(w.heap.size + 1), 4, none⟩ = some (.int .i64 st') ∧ Below wr.heap.size wr w')) (by kernel_rfl) (hdS (Below.drew (Below.refl _ _))) (fun hHeld => ?_)
            refine wpAnyH_take (i := 0) (oi := ?oib0) (v := ?vvb0) ?hib0 (by kernel_rfl) (by kernel_rfl) (by kernel_rfl) ?hqb0 ?hyb0 hHeld ?_
            case hib0 => simp only [List.getElem?_toArray, List.getElem?_cons_succ, List.getElem?_cons_zero]; rfl
            case hqb0 => exact fun _ _ _ h => h
            case hyb0 => (refine Or.inl ⟨by rfl, ?_⟩; intro w' hSw; (try dsimp only at hSw); go_simp; (try (with_reducible rfl)))
            simp only [Act.put, List.setIfInBounds_toArray, List.set_cons_zero, List.set_cons_succ]
            refine wpAnyH_take (i := 1) (oi := ?oib1) (v := ?vvb1) ?hib1 (by kernel_rfl) (by kernel_rfl) (by kernel_rfl) ?hqb1 ?hyb1 hHeld ?_
            case hib1 => simp only [List.getElem?_toArray, List.getElem?_cons_succ, List.getElem?_cons_zero]; rfl
            case hqb1 => exact fun _ _ _ h => h
            case hyb1 => (refine Or.inl ⟨by rfl, ?_⟩; intro w' hSw; (try dsimp only at hSw); go_simp; (try (with_reducible rfl)))
            simp only [Act.put, List.setIfInBounds_toArray, List.set_cons_zero, List.set_cons_succ]
            refine wpAnyH_take (i := 2) (oi := ?oib2) (v := ?vvb2) ?hib2 (by kernel_rfl) (by kernel_rfl) (by kernel_rfl) ?hqb2 ?hyb2 hHeld ?_
            case hib2 => simp only [List.getElem?_toArray, List.getElem?_cons_succ, List.getElem?_cons_zero]; rfl
            case hqb2 => exact fun _ _ _ h => h
            case hyb2 => (refine Or.inl ⟨by rfl, ?_⟩; intro w' hSw; (try dsimp only at hSw); go_simp; (try (with_reducible rfl)))
            simp only [Act.put, List.setIfInBounds_toArray, List.set_cons_zero, List.set_cons_succ]
            refine wpAnyH_take (i := 3) (oi := ?oib3) (v := ?vvb3) ?hib3 (by kernel_rfl) (by kernel_rfl) (by kernel_rfl) ?hqb3 ?hyb3 hHeld ?_
            case hib3 => simp only [List.getElem?_toArray, List.getElem?_cons_succ, List.getElem?_cons_zero]; rfl
            case hqb3 => exact fun _ _ _ h => h
            case hyb3 => (refine Or.inl ⟨by rfl, ?_⟩; intro w' hSw; (try dsimp only at hSw); go_simp; (try (with_reducible rfl)))
            simp only [Act.put, List.setIfInBounds_toArray, List.set_cons_zero, List.set_cons_succ]
            refine wpAnyH_take (i := 4) (oi := ?oib4) (v := ?vvb4) ?hib4 (by kernel_rfl) (by kernel_rfl) (by kernel_rfl) ?hqb4 ?hyb4 hHeld ?_
            case hib4 => simp only [List.getElem?_toArray, List.getElem?_cons_succ, List.getElem?_cons_zero]; rfl
            case hqb4 => exact fun _ _ _ h => h
            case hyb4 => (refine Or.inl ⟨by rfl, ?_⟩; intro w' hSw; (try dsimp only at hSw); go_simp; (try (with_reducible rfl)))
            simp only [Act.put, List.setIfInBounds_toArray, List.set_cons_zero, List.set_cons_succ]
            refine wpAnyH_take (i := 5) (oi := ?oib5) (v := ?vvb5) ?hib5 (by kernel_rfl) (by kernel_rfl) (by kernel_rfl) ?hqb5 ?hyb5 hHeld ?_
            case hib5 => simp only [List.getElem?_toArray, List.getElem?_cons_succ, List.getElem?_cons_zero]; rfl
            case hqb5 => exact fun _ _ _ h => h
            case hyb5 => (refine Or.inl ⟨by rfl, ?_⟩; intro w' hSw; (try dsimp only at hSw); go_simp; (try (with_reducible rfl)))
            simp only [Act.put, List.setIfInBounds_toArray, List.set_cons_zero, List.set_cons_succ]
            refine wpAnyH_take (i := 7) (oi := ?oib7) (v := ?vvb7) ?hib7 (by kernel_rfl) (by kernel_rfl) (by kernel_rfl) ?hqb7 ?hyb7 hHeld ?_
            case hib7 => simp only [List.getElem?_toArray, List.getElem?_cons_succ, List.getElem?_cons_zero]; rfl
            case hqb7 => exact fun _ _ _ h => h
            case hyb7 => (refine Or.inl ⟨by rfl, ?_⟩; intro w' hSw; (try dsimp only at hSw); go_simp; (try (with_reducible rfl)))
            simp only [Act.put, List.setIfInBounds_toArray, List.set_cons_zero, List.set_cons_succ]
            refine wpAnyH_ready (rs := [6]) (by kernel_rfl) (by simp) ?_
            refine AllReadyH.cons (o := ?oib6) ?hib6 (fun K hK => ?_) AllReadyH.nil
            case hib6 => simp only [List.getElem?_toArray, List.getElem?_cons_succ, List.getElem?_cons_zero]; rfl
            go_simp
            refine (text_to ⟨k, x, .slice ea n ec, .slice la m mc, st, es, ls⟩ s1 _ HS1.out (RA.keep (hdB hHeld)) (by have := HN.out; simp only []; omega) OA k0 k1 (tab_keep HTc.out (hdB hHeld))).mono ?_
            rintro e v6 ⟨rfl, hv6⟩
            go_wp2_with fail
            refine hK.out _ _ (hdS (bel_trans (hdB hHeld) hv6)) (fun hN => ?_)
            clear hK K hHeld
            have hHeld := hN
            clear hN
            try simp only [Act.put, List.setIfInBounds_toArray, List.set_cons_zero, List.set_cons_succ]
            refine wpAnyH_ready (rs := [8]) (by kernel_rfl) (by simp) ?_
            refine AllReadyH.cons (o := ?oib8) ?hib8 (fun K hK => ?_) AllReadyH.nil
            case hib8 => simp only [List.getElem?_toArray, List.getElem?_cons_succ, List.getElem?_cons_zero]; rfl
            go_simp
            refine (told_to ⟨k, x, .slice ea n ec, .slice la m mc, st, es, ls⟩ s1 _ HS1.out (RA.keep (hdB hHeld)) (by have := HN.out; simp only []; omega) OA k0 k1).mono ?_
            rintro e v8 ⟨rfl, hv8⟩
            go_wp2_with fail
            refine hK.out _ _ (hdS (bel_trans (hdB hHeld) hv8)) (fun hN => ?_)
            clear hK K hHeld
            have hHeld := hN
            clear hN
            try simp only [Act.put, List.setIfInBounds_toArray, List.set_cons_zero, List.set_cons_succ]
            refine wpAnyH_take (i := 9) (oi := ?oib9) (v := ?vvb9) ?hib9 (by kernel_rfl) (by kernel_rfl) (by kernel_rfl) ?hqb9 ?hyb9 hHeld ?_
            case hib9 => simp only [List.getElem?_toArray, List.getElem?_cons_succ, List.getElem?_cons_zero]; rfl
            case hqb9 => exact fun _ _ _ h => h
            case hyb9 => (refine Or.inl ⟨by rfl, ?_⟩; intro w' hSw; (try dsimp only at hSw); go_simp; (try (with_reducible rfl)))
            simp only [Act.put, List.setIfInBounds_toArray, List.set_cons_zero, List.set_cons_succ]
            refine wpAnyH_take (i := 10) (oi := ?oib10) (v := ?vvb10) ?hib10 (by kernel_rfl) (by kernel_rfl) (by kernel_rfl) ?hqb10 ?hyb10 hHeld ?_
            case hib10 => simp only [List.getElem?_toArray, List.getElem?_cons_succ, List.getElem?_cons_zero]; rfl
            case hqb10 => exact fun _ _ _ h => h
            case hyb10 => (refine Or.inl ⟨by rfl, ?_⟩; intro w' hSw; (try dsimp only at hSw); go_simp; (try (with_reducible rfl)))
            simp only [Act.put, List.setIfInBounds_toArray, List.set_cons_zero, List.set_cons_succ]
            refine wpAnyH_take (i := 11) (oi := ?oib11) (v := ?vvb11) ?hib11 (by kernel_rfl) (by kernel_rfl) (by kernel_rfl) ?hqb11 ?hyb11 hHeld ?_
            case hib11 => simp only [List.getElem?_toArray, List.getElem?_cons_succ, List.getElem?_cons_zero]; rfl
            case hqb11 => exact fun _ _ _ h => h
            case hyb11 => (refine Or.inl ⟨by rfl, ?_⟩; intro w' hSw; (try dsimp only at hSw); go_simp; (try (with_reducible rfl)))
            simp only [Act.put, List.setIfInBounds_toArray, List.set_cons_zero, List.set_cons_succ]
            refine wpAnyH_done (by kernel_rfl) ?_ _
            have hfin := bel_trans HBf.out (hdB hHeld)
            go_wp2
            go_ret
            exact ⟨by first | rfl | simp, hfin⟩
theorem traceJudges_walk (A B : RD) (w : World) (ha : RunAt w A) (oa : EvOk A.es) (xa : -9223372036854775808 ≤ A.x ∧ A.x ≤ 9223372036854775807) (hb : RunAt w B) (ht : Tab w) : Calls Tryd.prog 5 #[A.v, B.v] w (retP (.bool true) w) := by
  obtain ⟨ea, la, n, ec, m, mc, he, hl, hn, hm, hm2, hL⟩ := ha.shapeJ
  obtain ⟨ea', la', n', ec', m', mc', he', hl', hn', hm', hm2', _⟩ := hb.shapeJ
  obtain ⟨k, x, ev, lk, st, es, ls⟩ := A
  obtain ⟨k', x', ev', lk', st', es', ls'⟩ := B
  simp only [] at he he' hl hl' hn hn' xa
  subst he he' hl hl'
  by_cases h : (200 : Int) < n ∨ (200 : Int) < n' ∨ (200 : Int) < m ∨ (200 : Int) < m'
  · exact traceJudges_long k x st ea la n ec m mc es ls k' x' st' ea' la' n' ec' m' mc' es' ls' w ha hb ht hm hm' hm2 hm2' h
  · exact traceJudges_short k x st ea la n ec m mc es ls k' x' st' ea' la' n' ec' m' mc' es' ls' w ha hb ht hL hn oa xa.1 xa.2 (by omega) (by omega) (by omega) (by omega)

set_option maxRecDepth 100000 in
theorem traceJudges_lifted (os : Os) (started : os.Started) (H : Type) (enc : TypeId × Value → H) :
    ReturnsInHanded {} Tryd.checked os 5 .any (fun w args => (Rows.traceJudgesSpec.pre enc Tryd.prog Tryd.f5 [] false w args ∧ laidMetH Tryd.prog laid3 w) ∧ sizedMet enc Tryd.prog Tryd.f5 (OpenSpec.ofChange Rows.traceJudgesSpec) false w args)
      (Rows.traceJudgesSpec.post enc Tryd.prog Tryd.f5 false true false false) := by
  refine returnsInHanded_of_change_and (C := Tryd.checked) (X := fun w _ => laidMetH Tryd.prog laid3 w) (fun _ _ _ hh h => h.of_heap hh) own started (by kernel_rfl) Tryd.func5
    (ChangeSpec.witness_shaped (enc := enc) (C := Tryd.checked) (os := os) (X := fun w _ => laidMetH Tryd.prog laid3 w) false (World.doorLaid Tryd.prog 400 os) #[.agg #[.int .i64 0, .int .i64 0, .slice none 0 0, .slice none 0 0, .int .i64 0], .agg #[.int .i64 0, .int .i64 0, .slice none 0 0, .slice none 0 0, .int .i64 0]] 8 rfl (World.shaped_of_RefB (by kernel_rfl) (by kernel_rfl)) (by kernel_rfl) (by kernel_rfl) (by kernel_rfl) (door_met os _)) ?_
  intro W base args ds gs before hval0 hW _ _ hL _
  have hval : ∀ (j : Nat) t v, Tryd.f5.params[j]? = some t → args[j]? = some v → Value.okWide Tryd.prog W .any base t v := hval0
  have hW' := hW
  obtain ⟨p, q, hA0, hV, rfl, hfz, hnd⟩ := hW
  have hA : DataW.TrodAll enc Tryd.prog W 0 (fun _ => true) true Tryd.f5.params.toList args.toList ds p := hA0
  rw [Tryd.params5] at hA hval
  obtain ⟨v0, vs0, d0, ds0, p0, q0, hargs, rfl, rfl, h0, r0⟩ := trodAll_cons hA
  obtain ⟨v1, vs1, d1, ds1, p1, q1, rfl, rfl, rfl, h1, r1⟩ := trodAll_cons r0
  obtain ⟨rfl, rfl, rfl⟩ := trodAll_nil r1
  obtain rfl : args = #[v0, v1] := by cases args; simp_all
  obtain ⟨rfl, rfl⟩ := trodVars_none hV
  have hlt0 : ∀ x ∈ p0, x.block < W.heap.size := fun x hx => by simpa using hW'.lt x (by simp [hx])
  have hargs0 : ∀ (W' : World), Below W.heap.size W W' → DataW.Trod enc Tryd.prog W' 0 (fun b => decide (b < W.heap.size)) true 27 v0 d0 p0 := fun W' hn => Below.trod laidOut (by kernel_rfl) (of_decide_eq_true (by kernel_rfl)) h0 hn hlt0
  obtain ⟨R0, hv0, a0, o0, wk0, wx0⟩ := open_run (hval 0 27 v0 rfl rfl) h0
  subst hv0
  have hlt1 : ∀ x ∈ p1, x.block < W.heap.size := fun x hx => by simpa using hW'.lt x (by simp [hx])
  have hargs1 : ∀ (W' : World), Below W.heap.size W W' → DataW.Trod enc Tryd.prog W' 0 (fun b => decide (b < W.heap.size)) true 27 v1 d1 p1 := fun W' hn => Below.trod laidOut (by kernel_rfl) (of_decide_eq_true (by kernel_rfl)) h1 hn hlt1
  obtain ⟨R1, hv1, a1, o1, wk1, wx1⟩ := open_run (hval 1 27 v1 rfl rfl) h1
  subst hv1
  clear hA0 hval0
  simp only [List.append_nil] at hW'
  refine (traceJudges_walk R0 R1 W a0 o0 (bnd wx0) a1 (tab_of_laid hL)).mono fun e W' ⟨he, hb⟩ => ?_
  subst he
  exact ⟨_, rfl, _, _, _, [], _, [], hW', (trodAll_cons_mk (shut_bool Tryd.underlying4 _) trodAll_mk0), (trodAll_cons_mk (hargs0 _ hb) (trodAll_cons_mk (hargs1 _ hb) trodAll_mk0)), rfl, hb.frame _, fun h => by cases h⟩

theorem traceJudges_row : Rows.TraceJudgesSaid :=
  OpenClaim.holds_of_wide 5 Tryd.f5 rfl rfl rfl rfl rfl rfl rfl ⟨rfl, rfl, rfl, rfl, rfl⟩ rfl rfl rfl rfl rfl (by kernel_rfl) Tryd.func5 (by kernel_rfl)
    (of_decide_eq_true (by kernel_rfl)) (by unfold Func.isWrapper; first | (rw [if_pos (by decide +kernel)]; kernel_rfl) | (rw [if_neg (by decide +kernel)]; exact ⟨rfl, rfl⟩))
    (fun os started H enc _ => traceJudges_lifted os started H enc)

/-- THE STATEMENT. -/
theorem traceJudges_holds : Rows.TraceJudgesCardSaid :=
  Claim7.holds_tied_plain_at .later [] [.data, .data, .data] true (true, "1eda6df1707c50841f6cd8d75dc7a6165e0984391ccf47f29fcd572f8f1e9166") false
    traceJudges_row (fun _ h => by cases h) (by kernel_rfl) (fun _ h => by cases h) traceJudges_row_tie rfl ⟨rfl, rfl⟩ (by kernel_rfl) rfl
    (fun f fn hf hfn => by
      obtain rfl : f = 5 := Option.some.inj ((show Tryd.prog.funcNamed "plumbob/plumboblaw3.TraceJudges" = some 5 by kernel_rfl).symm.trans hf) |>.symm
      obtain rfl : fn = Tryd.f5 := (Option.some.inj (Tryd.func5.symm.trans hfn)).symm
      exact ⟨by kernel_rfl, fun j t ht => by
        rw [Tryd.params5] at ht
        have hm : t ∈ [27, 27] := by simpa using Array.mem_of_getElem? ht
        have hall : ([27, 27].all fun u => !Tryd.prog.wantsStandIn u) = true := by kernel_rfl
        exact (show Tryd.prog.wantsStandIn t = false by simpa using List.all_eq_true.1 hall t hm)⟩)
    (by kernel_rfl)
#print axioms traceJudges_holds

end Go.Proofs.YtdibjidjocmfhaaDoor
