/- Contracts of trace's Prefix, Same, Leaks, cutShort, Refines. -/
import Derived.Test.YtokdnjnkgflbcaaDoorTEv
import Derived.Deep.RegionHeld3
import Derived.Deep.Light
namespace Go.Proofs.YtokdnjnkgflbcaaDoor
open Go.ChangeShapes Go.WideShapes Go.ChangeAt Go.RowKit Pl
set_option linter.unusedSimpArgs false
set_option linter.unusedVariables false

theorem equalE_to {w : World} {v1 v2 : Value} {l1 l2 : List Ev} (h1 : EvAt w v1 l1) (h2 : EvAt w v2 l2) {r : Bool} (HR : Hid (r = evEq l1 l2)) : Calls Tryd.prog 32 #[v1, v2] w (retP (.bool r) w) := by
  obtain ⟨a1, c1, rfl, e1, f1, g1⟩ := h1
  obtain ⟨a2, c2, rfl, e2, f2, g2⟩ := h2
  exact equalE_walk a1 a2 _ _ c1 c2 l1 l2 r w rfl rfl (by omega) (by omega) g1 g2 HR
theorem equalK_to {w : World} {v1 v2 : Value} {l1 l2 : List Lk} (h1 : LkAt w v1 l1) (h2 : LkAt w v2 l2) {r : Bool} (HR : Hid (r = lkEq l1 l2)) : Calls Tryd.prog 34 #[v1, v2] w (retP (.bool r) w) := by
  obtain ⟨a1, c1, rfl, e1, f1, g1⟩ := h1
  obtain ⟨a2, c2, rfl, e2, f2, g2⟩ := h2
  exact equalK_walk a1 a2 _ _ c1 c2 l1 l2 r w rfl rfl (by omega) (by omega) g1 g2 HR
/-- The one is the beginning of the other. -/
def evPre (l m : List Ev) : Bool := decide (l = m.take l.length)
set_option maxHeartbeats 1000000 in
theorem prefix_walk (a1 a2 : Option Addr) (n1 n2 c1 c2 : Nat) (l1 l2 : List Ev) (r : Bool) (w : World) (HN1 : Hid (n1 = l1.length)) (HN2 : Hid (n2 = l2.length)) (m1 : n1 ≤ c1) (m2 : n2 ≤ c2) (m3 : (c1 : Int) ≤ 9223372036854775807) (m4 : (c2 : Int) ≤ 9223372036854775807) (h1 : EvL w a1 l1) (h2 : EvL w a2 l2) (HR : Hid (r = evPre l1 l2)) :
    Calls Tryd.prog 13 #[.slice a1 n1 c1, .slice a2 n2 c2] w (retP (.bool r) w) := by
  have H1 : Hid (EvL w a1 l1) := h1
  have H2 : Hid (EvL w a2 l2) := h2
  clear h1 h2
  by_cases hn : n1 ≤ n2
  · have hn1 : (n1 : Int) ≤ n2 := by omega
    have hn2 : (n1 : Int) ≤ c2 := by omega
    have hn0 : (0 : Int) ≤ n1 := by omega
    have HR' : Hid (r = evEq l1 (l2.take n1)) := by show _ = _; rw [HR.out, HN1.out]; rfl
    have HN3 : Hid (n1 = (l2.take n1).length) := by show _ = _; have := HN2.out; rw [List.length_take]; omega
    by_cases hz : n1 = 0
    · subst hz
      have hE : ∀ a W, EvL W a (l2.take 0) := fun a W h => absurd (by simp) h
      go_enter Tryd.func13, Tryd.ntmps13
      go_wp2_with fail
      refine (equalE_walk _ _ _ _ _ _ l1 (l2.take 0) r _ HN1 HN3 (by simp) (by simp) H1.out (hE _ _) HR').mono ?_
      rintro e w1 ⟨rfl, hb⟩
      go_wp2
      go_ret
      exact ⟨rfl, hb⟩
    · obtain ⟨b, off, rfl, hc⟩ := H2.out (fun e => by have := HN2.out; rw [e] at this; simp at this; omega)
      have hE : EvL w (some ⟨b, off, none⟩) (l2.take n1) := fun h => ⟨b, off, rfl, fun i x hx => hc i x (by rw [List.getElem?_take] at hx; split at hx; exact hx; cases hx)⟩
      have HE : Hid (EvL w (some ⟨b, off, none⟩) (l2.take n1)) := hE
      have hc2 : ¬ c2 = 0 := by omega
      clear hc hE H2
      go_enter Tryd.func13, Tryd.ntmps13
      go_wp2_with fail
      refine (equalE_walk _ _ _ _ _ _ l1 (l2.take n1) r _ HN1 HN3 (by omega) (by omega) H1.out HE.out HR').mono ?_
      rintro e w1 ⟨rfl, hb⟩
      go_wp2
      go_ret
      exact ⟨rfl, hb⟩
  · have hr : r = false := by
      rw [HR.out]; unfold evPre; rw [decide_eq_false_iff_not]; intro e
      have h3 := congrArg List.length e
      rw [List.length_take] at h3
      have := HN1.out; have := HN2.out; omega
    subst hr
    have hn1 : ¬ (n1 : Int) ≤ n2 := by omega
    go_enter Tryd.func13, Tryd.ntmps13
    go_wp2
    go_ret
    exact ⟨rfl, Below.refl _ _⟩
theorem prefix_to {w : World} {v1 v2 : Value} {l1 l2 : List Ev} (h1 : EvAt w v1 l1) (h2 : EvAt w v2 l2) {r : Bool} (HR : Hid (r = evPre l1 l2)) : Calls Tryd.prog 13 #[v1, v2] w (retP (.bool r) w) := by
  obtain ⟨a1, c1, rfl, e1, f1, g1⟩ := h1
  obtain ⟨a2, c2, rfl, e2, f2, g2⟩ := h2
  exact prefix_walk a1 a2 _ _ c1 c2 l1 l2 r w rfl rfl e1 e2 f1 f2 g1 g2 HR

/-- A run: its kind, exit, events, leaks, steps. -/
structure RD where
  k : Int
  x : Int
  ev : Value
  lk : Value
  st : Int
  es : List Ev
  ls : List Lk
abbrev RD.v (r : RD) : Value := .agg #[.int .i64 r.k, .int .i64 r.x, r.ev, r.lk, .int .i64 r.st]
/-- Its events and leaks lie in memory. -/
def RunAt (w : World) (r : RD) : Prop := EvAt w r.ev r.es ∧ LkAt w r.lk r.ls
theorem RunAt.keep {w w' : World} {r : RD} (h : RunAt w r) (hb : Below w.heap.size w w') : RunAt w' r := ⟨h.1.keep hb, h.2.keep hb⟩
def sameR (a b : RD) : Bool := decide (a.k = b.k ∧ a.x = b.x) && evEq a.es b.es
def leaksR (a b : RD) : Bool := decide (a.k = b.k) && lkEq a.ls b.ls
def cutR (a : RD) : Bool := decide (a.k = 2 ∨ a.k = 4)
def refR (t s : RD) : Bool :=
  if s.k = 1 then sameR t s || cutR t && evPre t.es s.es else if s.k = 2 then evPre t.es s.es || evPre s.es t.es else decide (s.k = 3)

set_option maxHeartbeats 1000000 in
theorem same_any (a b : RD) (w : World) (ha : RunAt w a) (hb' : RunAt w b) : Calls Tryd.prog 17 #[a.v, b.v] w (retP (.bool (sameR a b)) w) := by
  obtain ⟨k, x, ev, lk, st, es, ls⟩ := a
  obtain ⟨k', x', ev', lk', st', es', ls'⟩ := b
  have HA : Hid (EvAt w ev es) := ha.1
  have HB : Hid (EvAt w ev' es') := hb'.1
  clear ha hb'
  show Calls _ _ #[.agg #[.int .i64 k, .int .i64 x, ev, lk, .int .i64 st], .agg #[.int .i64 k', .int .i64 x', ev', lk', .int .i64 st']] w _
  by_cases hk : k = k'
  · subst hk
    by_cases hx : x = x'
    · subst hx
      have e : sameR ⟨k, x, ev, lk, st, es, ls⟩ ⟨k, x, ev', lk', st', es', ls'⟩ = evEq es es' := by simp [sameR]
      rw [e]; clear e
      go_enter Tryd.func17, Tryd.ntmps17
      go_wp2_with fail
      refine (equalE_to (EvAt.keep HA.out (by repeat (first | with_reducible exact Below.refl _ _ | with_reducible refine bel_alloc ?_ _ | with_reducible refine bel_set ?_ (by first | exact Nat.le_refl _ | (simp; done) | (simp; omega)) _ | with_reducible refine Below.drew ?_ | refine bel_trans ?_ (by assumption)))) (EvAt.keep HB.out (by repeat (first | with_reducible exact Below.refl _ _ | with_reducible refine bel_alloc ?_ _ | with_reducible refine bel_set ?_ (by first | exact Nat.le_refl _ | (simp; done) | (simp; omega)) _ | with_reducible refine Below.drew ?_ | refine bel_trans ?_ (by assumption)))) (r := evEq es es') rfl).mono ?_
      rintro e w1 ⟨rfl, hb⟩
      go_wp2
      go_ret
      exact ⟨rfl, (by repeat (first | with_reducible exact Below.refl _ _ | with_reducible refine bel_alloc ?_ _ | with_reducible refine bel_set ?_ (by first | exact Nat.le_refl _ | (simp; done) | (simp; omega)) _ | with_reducible refine Below.drew ?_ | refine bel_trans ?_ (by assumption)))⟩
    · have hx0 : (x == x') = false := by simpa using hx
      have e : sameR ⟨k, x, ev, lk, st, es, ls⟩ ⟨k, x', ev', lk', st', es', ls'⟩ = false := by simp [sameR, hx]
      rw [e]; clear e hx
      go_enter Tryd.func17, Tryd.ntmps17
      go_wp2
      go_ret
      exact ⟨rfl, (by repeat (first | with_reducible exact Below.refl _ _ | with_reducible refine bel_alloc ?_ _ | with_reducible refine bel_set ?_ (by first | exact Nat.le_refl _ | (simp; done) | (simp; omega)) _ | with_reducible refine Below.drew ?_ | refine bel_trans ?_ (by assumption)))⟩
  · have hk0 : (k == k') = false := by simpa using hk
    have e : sameR ⟨k, x, ev, lk, st, es, ls⟩ ⟨k', x', ev', lk', st', es', ls'⟩ = false := by simp [sameR, hk]
    rw [e]; clear e hk
    go_enter Tryd.func17, Tryd.ntmps17
    go_wp2
    go_ret
    exact ⟨rfl, (by repeat (first | with_reducible exact Below.refl _ _ | with_reducible refine bel_alloc ?_ _ | with_reducible refine bel_set ?_ (by first | exact Nat.le_refl _ | (simp; done) | (simp; omega)) _ | with_reducible refine Below.drew ?_ | refine bel_trans ?_ (by assumption)))⟩
set_option maxHeartbeats 1000000 in
theorem leaks_any (a b : RD) (w : World) (ha : RunAt w a) (hb' : RunAt w b) : Calls Tryd.prog 19 #[a.v, b.v] w (retP (.bool (leaksR a b)) w) := by
  obtain ⟨k, x, ev, lk, st, es, ls⟩ := a
  obtain ⟨k', x', ev', lk', st', es', ls'⟩ := b
  have HA : Hid (LkAt w lk ls) := ha.2
  have HB : Hid (LkAt w lk' ls') := hb'.2
  clear ha hb'
  show Calls _ _ #[.agg #[.int .i64 k, .int .i64 x, ev, lk, .int .i64 st], .agg #[.int .i64 k', .int .i64 x', ev', lk', .int .i64 st']] w _
  by_cases hk : k = k'
  · subst hk
    have e : leaksR ⟨k, x, ev, lk, st, es, ls⟩ ⟨k, x', ev', lk', st', es', ls'⟩ = lkEq ls ls' := by simp [leaksR]
    rw [e]; clear e
    go_enter Tryd.func19, Tryd.ntmps19
    go_wp2_with fail
    refine (equalK_to (LkAt.keep HA.out (by repeat (first | with_reducible exact Below.refl _ _ | with_reducible refine bel_alloc ?_ _ | with_reducible refine bel_set ?_ (by first | exact Nat.le_refl _ | (simp; done) | (simp; omega)) _ | with_reducible refine Below.drew ?_ | refine bel_trans ?_ (by assumption)))) (LkAt.keep HB.out (by repeat (first | with_reducible exact Below.refl _ _ | with_reducible refine bel_alloc ?_ _ | with_reducible refine bel_set ?_ (by first | exact Nat.le_refl _ | (simp; done) | (simp; omega)) _ | with_reducible refine Below.drew ?_ | refine bel_trans ?_ (by assumption)))) (r := lkEq ls ls') rfl).mono ?_
    rintro e w1 ⟨rfl, hb⟩
    go_wp2
    go_ret
    exact ⟨rfl, (by repeat (first | with_reducible exact Below.refl _ _ | with_reducible refine bel_alloc ?_ _ | with_reducible refine bel_set ?_ (by first | exact Nat.le_refl _ | (simp; done) | (simp; omega)) _ | with_reducible refine Below.drew ?_ | refine bel_trans ?_ (by assumption)))⟩
  · have hk0 : (k == k') = false := by simpa using hk
    have e : leaksR ⟨k, x, ev, lk, st, es, ls⟩ ⟨k', x', ev', lk', st', es', ls'⟩ = false := by simp [leaksR, hk]
    rw [e]; clear e hk
    go_enter Tryd.func19, Tryd.ntmps19
    go_wp2
    go_ret
    exact ⟨rfl, (by repeat (first | with_reducible exact Below.refl _ _ | with_reducible refine bel_alloc ?_ _ | with_reducible refine bel_set ?_ (by first | exact Nat.le_refl _ | (simp; done) | (simp; omega)) _ | with_reducible refine Below.drew ?_ | refine bel_trans ?_ (by assumption)))⟩
set_option maxHeartbeats 1000000 in
theorem cut_any (a : RD) (w : World) : Calls Tryd.prog 31 #[a.v] w (retP (.bool (cutR a)) w) := by
  obtain ⟨k, x, ev, lk, st, es, ls⟩ := a
  show Calls _ _ #[.agg #[.int .i64 k, .int .i64 x, ev, lk, .int .i64 st]] w _
  by_cases h2 : k = 2
  · subst h2
    go_enter Tryd.func31, Tryd.ntmps31
    go_wp2
    go_ret
    exact ⟨by simp [cutR], (by repeat (first | with_reducible exact Below.refl _ _ | with_reducible refine bel_alloc ?_ _ | with_reducible refine bel_set ?_ (by first | exact Nat.le_refl _ | (simp; done) | (simp; omega)) _ | with_reducible refine Below.drew ?_ | refine bel_trans ?_ (by assumption)))⟩
  · have q2 : (k == 2) = false := by simpa using h2
    by_cases h4 : k = 4
    · subst h4
      clear q2 h2
      go_enter Tryd.func31, Tryd.ntmps31
      go_wp2
      go_ret
      exact ⟨by simp [cutR], (by repeat (first | with_reducible exact Below.refl _ _ | with_reducible refine bel_alloc ?_ _ | with_reducible refine bel_set ?_ (by first | exact Nat.le_refl _ | (simp; done) | (simp; omega)) _ | with_reducible refine Below.drew ?_ | refine bel_trans ?_ (by assumption)))⟩
    · have q4 : (k == 4) = false := by simpa using h4
      have e : cutR ⟨k, x, ev, lk, st, es, ls⟩ = false := by simp [cutR, h2, h4]
      rw [e]; clear e h2 h4
      go_enter Tryd.func31, Tryd.ntmps31
      go_wp2
      go_ret
      exact ⟨rfl, (by repeat (first | with_reducible exact Below.refl _ _ | with_reducible refine bel_alloc ?_ _ | with_reducible refine bel_set ?_ (by first | exact Nat.le_refl _ | (simp; done) | (simp; omega)) _ | with_reducible refine Below.drew ?_ | refine bel_trans ?_ (by assumption)))⟩

end Go.Proofs.YtokdnjnkgflbcaaDoor
