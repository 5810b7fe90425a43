/- Contracts of trace's Refines, number, eventWord, end. -/
import Derived.Test.YtokdnjnkgflbcaaDoorTJudge
import Derived.Test.YtokdnjnkgflbcaaDoorTText
namespace Go.Proofs.YtokdnjnkgflbcaaDoor
open Go.ChangeShapes Go.WideShapes Go.ChangeAt Go.RowKit Pl
set_option linter.unusedSimpArgs false
set_option linter.unusedVariables false

theorem same_to (a b : RD) (w : World) (ha : RunAt w a) (hb : RunAt w b) (r : Bool) (H : Hid (sameR a b = r)) : Calls Tryd.prog 17 #[a.v, b.v] w (retP (.bool r) w) := by
  have := same_any a b w ha hb; rw [H.out] at this; exact this
theorem leaks_to (a b : RD) (w : World) (ha : RunAt w a) (hb : RunAt w b) (r : Bool) (H : Hid (leaksR a b = r)) : Calls Tryd.prog 19 #[a.v, b.v] w (retP (.bool r) w) := by
  have := leaks_any a b w ha hb; rw [H.out] at this; exact this
theorem cut_to (a : RD) (w : World) (r : Bool) (H : Hid (cutR a = r)) : Calls Tryd.prog 31 #[a.v] w (retP (.bool r) w) := by
  have := cut_any a w; rw [H.out] at this; exact this


set_option maxHeartbeats 2000000 in
theorem refines_any (a b : RD) (w : World) (ha : RunAt w a) (hb' : RunAt w b) : Calls Tryd.prog 11 #[a.v, b.v] w (retP (.bool (refR a b)) w) := by
  obtain ⟨k, x, ev, lk, st, es, ls⟩ := a
  obtain ⟨k', x', ev', lk', st', es', ls'⟩ := b
  have HA : Hid (RunAt w ⟨k, x, ev, lk, st, es, ls⟩) := ha
  have HB : Hid (RunAt w ⟨k', x', ev', lk', st', es', ls'⟩) := hb'
  clear ha hb'
  show Calls _ _ #[.agg #[.int .i64 k, .int .i64 x, ev, lk, .int .i64 st], .agg #[.int .i64 k', .int .i64 x', ev', lk', .int .i64 st']] w _
  by_cases h1 : k' = 1
  · subst h1
    obtain ⟨r1, hr1⟩ : ∃ r, sameR ⟨k, x, ev, lk, st, es, ls⟩ ⟨1, x', ev', lk', st', es', ls'⟩ = r := ⟨_, rfl⟩
    obtain ⟨r2, hr2⟩ : ∃ r, cutR ⟨k, x, ev, lk, st, es, ls⟩ = r := ⟨_, rfl⟩
    obtain ⟨r3, hr3⟩ : ∃ r, evPre es es' = r := ⟨_, rfl⟩
    have e : refR ⟨k, x, ev, lk, st, es, ls⟩ ⟨1, x', ev', lk', st', es', ls'⟩ = (r1 || r2 && r3) := by simp only [refR, if_true, hr1, hr2, hr3]
    rw [e]; clear e
    have HR1 : Hid (sameR ⟨k, x, ev, lk, st, es, ls⟩ ⟨1, x', ev', lk', st', es', ls'⟩ = r1) := hr1
    have HR2 : Hid (cutR ⟨k, x, ev, lk, st, es, ls⟩ = r2) := hr2
    have HR3 : Hid (r3 = evPre es es') := hr3.symm
    clear hr1 hr2 hr3
    cases r1
    · go_enter Tryd.func11, Tryd.ntmps11
      go_wp2_with fail
      refine (same_to ⟨k, x, ev, lk, st, es, ls⟩ ⟨1, x', ev', lk', st', es', ls'⟩ _ (RunAt.keep HA.out (by repeat (first | with_reducible exact Below.refl _ _ | with_reducible refine bel_alloc ?_ _ | with_reducible refine bel_set ?_ (by first | exact Nat.le_refl _ | (simp; done) | (simp; omega)) _ | with_reducible refine Below.drew ?_ | refine bel_trans ?_ (by assumption)))) (RunAt.keep HB.out (by repeat (first | with_reducible exact Below.refl _ _ | with_reducible refine bel_alloc ?_ _ | with_reducible refine bel_set ?_ (by first | exact Nat.le_refl _ | (simp; done) | (simp; omega)) _ | with_reducible refine Below.drew ?_ | refine bel_trans ?_ (by assumption)))) false HR1).mono ?_
      rintro e w1 ⟨rfl, hb1⟩
      have t0 : w1.cell? ⟨w.heap.size, 0, none⟩ = some (.int .i64 k) := keep_cell hb1 (by go_simp)
      have t1 : w1.cell? ⟨w.heap.size, 1, none⟩ = some (.int .i64 x) := keep_cell hb1 (by go_simp)
      have t2 : w1.cell? ⟨w.heap.size, 2, none⟩ = some (ev) := keep_cell hb1 (by go_simp)
      have t3 : w1.cell? ⟨w.heap.size, 3, none⟩ = some (lk) := keep_cell hb1 (by go_simp)
      have t4 : w1.cell? ⟨w.heap.size, 4, none⟩ = some (.int .i64 st) := keep_cell hb1 (by go_simp)
      have tL : w.heap.size < w1.heap.size := block_lt_of_cell t0
      have s0 : w1.cell? ⟨(w.heap.size + 1), 0, none⟩ = some (.int .i64 1) := keep_cell hb1 (by go_simp)
      have s1 : w1.cell? ⟨(w.heap.size + 1), 1, none⟩ = some (.int .i64 x') := keep_cell hb1 (by go_simp)
      have s2 : w1.cell? ⟨(w.heap.size + 1), 2, none⟩ = some (ev') := keep_cell hb1 (by go_simp)
      have s3 : w1.cell? ⟨(w.heap.size + 1), 3, none⟩ = some (lk') := keep_cell hb1 (by go_simp)
      have s4 : w1.cell? ⟨(w.heap.size + 1), 4, none⟩ = some (.int .i64 st') := keep_cell hb1 (by go_simp)
      have sL : (w.heap.size + 1) < w1.heap.size := block_lt_of_cell s0

      cases r2
      · go_wp2_with fail
        refine (cut_to ⟨k, x, ev, lk, st, es, ls⟩ _ false HR2).mono ?_
        rintro e w2 ⟨rfl, hb2⟩
        replace t0 : w2.cell? ⟨w.heap.size, 0, none⟩ = some (.int .i64 k) := keep_cell hb2 (by go_simp)
        replace t1 : w2.cell? ⟨w.heap.size, 1, none⟩ = some (.int .i64 x) := keep_cell hb2 (by go_simp)
        replace t2 : w2.cell? ⟨w.heap.size, 2, none⟩ = some (ev) := keep_cell hb2 (by go_simp)
        replace t3 : w2.cell? ⟨w.heap.size, 3, none⟩ = some (lk) := keep_cell hb2 (by go_simp)
        replace t4 : w2.cell? ⟨w.heap.size, 4, none⟩ = some (.int .i64 st) := keep_cell hb2 (by go_simp)
        replace tL : w.heap.size < w2.heap.size := block_lt_of_cell t0
        replace s0 : w2.cell? ⟨(w.heap.size + 1), 0, none⟩ = some (.int .i64 1) := keep_cell hb2 (by go_simp)
        replace s1 : w2.cell? ⟨(w.heap.size + 1), 1, none⟩ = some (.int .i64 x') := keep_cell hb2 (by go_simp)
        replace s2 : w2.cell? ⟨(w.heap.size + 1), 2, none⟩ = some (ev') := keep_cell hb2 (by go_simp)
        replace s3 : w2.cell? ⟨(w.heap.size + 1), 3, none⟩ = some (lk') := keep_cell hb2 (by go_simp)
        replace s4 : w2.cell? ⟨(w.heap.size + 1), 4, none⟩ = some (.int .i64 st') := keep_cell hb2 (by go_simp)
        replace sL : (w.heap.size + 1) < w2.heap.size := block_lt_of_cell s0
  
        go_wp2
        go_ret
        exact ⟨rfl, (by repeat (first | with_reducible exact Below.refl _ _ | with_reducible refine bel_alloc ?_ _ | with_reducible refine bel_set ?_ (by first | exact Nat.le_refl _ | (simp; done) | (simp; omega)) _ | with_reducible refine Below.drew ?_ | refine bel_trans ?_ (by assumption)))⟩
      · go_wp2_with fail
        refine (cut_to ⟨k, x, ev, lk, st, es, ls⟩ _ true HR2).mono ?_
        rintro e w2 ⟨rfl, hb2⟩
        replace t0 : w2.cell? ⟨w.heap.size, 0, none⟩ = some (.int .i64 k) := keep_cell hb2 (by go_simp)
        replace t1 : w2.cell? ⟨w.heap.size, 1, none⟩ = some (.int .i64 x) := keep_cell hb2 (by go_simp)
        replace t2 : w2.cell? ⟨w.heap.size, 2, none⟩ = some (ev) := keep_cell hb2 (by go_simp)
        replace t3 : w2.cell? ⟨w.heap.size, 3, none⟩ = some (lk) := keep_cell hb2 (by go_simp)
        replace t4 : w2.cell? ⟨w.heap.size, 4, none⟩ = some (.int .i64 st) := keep_cell hb2 (by go_simp)
        replace tL : w.heap.size < w2.heap.size := block_lt_of_cell t0
        replace s0 : w2.cell? ⟨(w.heap.size + 1), 0, none⟩ = some (.int .i64 1) := keep_cell hb2 (by go_simp)
        replace s1 : w2.cell? ⟨(w.heap.size + 1), 1, none⟩ = some (.int .i64 x') := keep_cell hb2 (by go_simp)
        replace s2 : w2.cell? ⟨(w.heap.size + 1), 2, none⟩ = some (ev') := keep_cell hb2 (by go_simp)
        replace s3 : w2.cell? ⟨(w.heap.size + 1), 3, none⟩ = some (lk') := keep_cell hb2 (by go_simp)
        replace s4 : w2.cell? ⟨(w.heap.size + 1), 4, none⟩ = some (.int .i64 st') := keep_cell hb2 (by go_simp)
        replace sL : (w.heap.size + 1) < w2.heap.size := block_lt_of_cell s0
  
        go_wp2_with fail
        refine (prefix_to (EvAt.keep HA.out.1 (by repeat (first | with_reducible exact Below.refl _ _ | with_reducible refine bel_alloc ?_ _ | with_reducible refine bel_set ?_ (by first | exact Nat.le_refl _ | (simp; done) | (simp; omega)) _ | with_reducible refine Below.drew ?_ | refine bel_trans ?_ (by assumption)))) (EvAt.keep HB.out.1 (by repeat (first | with_reducible exact Below.refl _ _ | with_reducible refine bel_alloc ?_ _ | with_reducible refine bel_set ?_ (by first | exact Nat.le_refl _ | (simp; done) | (simp; omega)) _ | with_reducible refine Below.drew ?_ | refine bel_trans ?_ (by assumption)))) (r := r3) HR3).mono ?_
        rintro e w3 ⟨rfl, hb3⟩
        replace t0 : w3.cell? ⟨w.heap.size, 0, none⟩ = some (.int .i64 k) := keep_cell hb3 (by go_simp)
        replace t1 : w3.cell? ⟨w.heap.size, 1, none⟩ = some (.int .i64 x) := keep_cell hb3 (by go_simp)
        replace t2 : w3.cell? ⟨w.heap.size, 2, none⟩ = some (ev) := keep_cell hb3 (by go_simp)
        replace t3 : w3.cell? ⟨w.heap.size, 3, none⟩ = some (lk) := keep_cell hb3 (by go_simp)
        replace t4 : w3.cell? ⟨w.heap.size, 4, none⟩ = some (.int .i64 st) := keep_cell hb3 (by go_simp)
        replace tL : w.heap.size < w3.heap.size := block_lt_of_cell t0
        replace s0 : w3.cell? ⟨(w.heap.size + 1), 0, none⟩ = some (.int .i64 1) := keep_cell hb3 (by go_simp)
        replace s1 : w3.cell? ⟨(w.heap.size + 1), 1, none⟩ = some (.int .i64 x') := keep_cell hb3 (by go_simp)
        replace s2 : w3.cell? ⟨(w.heap.size + 1), 2, none⟩ = some (ev') := keep_cell hb3 (by go_simp)
        replace s3 : w3.cell? ⟨(w.heap.size + 1), 3, none⟩ = some (lk') := keep_cell hb3 (by go_simp)
        replace s4 : w3.cell? ⟨(w.heap.size + 1), 4, none⟩ = some (.int .i64 st') := keep_cell hb3 (by go_simp)
        replace sL : (w.heap.size + 1) < w3.heap.size := block_lt_of_cell s0
  
        go_wp2
        go_ret
        exact ⟨rfl, (by repeat (first | with_reducible exact Below.refl _ _ | with_reducible refine bel_alloc ?_ _ | with_reducible refine bel_set ?_ (by first | exact Nat.le_refl _ | (simp; done) | (simp; omega)) _ | with_reducible refine Below.drew ?_ | refine bel_trans ?_ (by assumption)))⟩
    · go_enter Tryd.func11, Tryd.ntmps11
      go_wp2_with fail
      refine (same_to ⟨k, x, ev, lk, st, es, ls⟩ ⟨1, x', ev', lk', st', es', ls'⟩ _ (RunAt.keep HA.out (by repeat (first | with_reducible exact Below.refl _ _ | with_reducible refine bel_alloc ?_ _ | with_reducible refine bel_set ?_ (by first | exact Nat.le_refl _ | (simp; done) | (simp; omega)) _ | with_reducible refine Below.drew ?_ | refine bel_trans ?_ (by assumption)))) (RunAt.keep HB.out (by repeat (first | with_reducible exact Below.refl _ _ | with_reducible refine bel_alloc ?_ _ | with_reducible refine bel_set ?_ (by first | exact Nat.le_refl _ | (simp; done) | (simp; omega)) _ | with_reducible refine Below.drew ?_ | refine bel_trans ?_ (by assumption)))) true HR1).mono ?_
      rintro e w1 ⟨rfl, hb1⟩
      have t0 : w1.cell? ⟨w.heap.size, 0, none⟩ = some (.int .i64 k) := keep_cell hb1 (by go_simp)
      have t1 : w1.cell? ⟨w.heap.size, 1, none⟩ = some (.int .i64 x) := keep_cell hb1 (by go_simp)
      have t2 : w1.cell? ⟨w.heap.size, 2, none⟩ = some (ev) := keep_cell hb1 (by go_simp)
      have t3 : w1.cell? ⟨w.heap.size, 3, none⟩ = some (lk) := keep_cell hb1 (by go_simp)
      have t4 : w1.cell? ⟨w.heap.size, 4, none⟩ = some (.int .i64 st) := keep_cell hb1 (by go_simp)
      have tL : w.heap.size < w1.heap.size := block_lt_of_cell t0
      have s0 : w1.cell? ⟨(w.heap.size + 1), 0, none⟩ = some (.int .i64 1) := keep_cell hb1 (by go_simp)
      have s1 : w1.cell? ⟨(w.heap.size + 1), 1, none⟩ = some (.int .i64 x') := keep_cell hb1 (by go_simp)
      have s2 : w1.cell? ⟨(w.heap.size + 1), 2, none⟩ = some (ev') := keep_cell hb1 (by go_simp)
      have s3 : w1.cell? ⟨(w.heap.size + 1), 3, none⟩ = some (lk') := keep_cell hb1 (by go_simp)
      have s4 : w1.cell? ⟨(w.heap.size + 1), 4, none⟩ = some (.int .i64 st') := keep_cell hb1 (by go_simp)
      have sL : (w.heap.size + 1) < w1.heap.size := block_lt_of_cell s0

      go_wp2
      go_ret
      exact ⟨rfl, (by repeat (first | with_reducible exact Below.refl _ _ | with_reducible refine bel_alloc ?_ _ | with_reducible refine bel_set ?_ (by first | exact Nat.le_refl _ | (simp; done) | (simp; omega)) _ | with_reducible refine Below.drew ?_ | refine bel_trans ?_ (by assumption)))⟩
  have q1 : (k' == 1) = false := by simpa using h1
  by_cases h2 : k' = 2
  · subst h2
    clear q1
    obtain ⟨r3, hr3⟩ : ∃ r, evPre es es' = r := ⟨_, rfl⟩
    obtain ⟨r4, hr4⟩ : ∃ r, evPre es' es = r := ⟨_, rfl⟩
    have e : refR ⟨k, x, ev, lk, st, es, ls⟩ ⟨2, x', ev', lk', st', es', ls'⟩ = (r3 || r4) := by simp [refR, hr3, hr4]
    rw [e]; clear e h1
    have HR3 : Hid (r3 = evPre es es') := hr3.symm
    have HR4 : Hid (r4 = evPre es' es) := hr4.symm
    clear hr3 hr4
    cases r3
    · go_enter Tryd.func11, Tryd.ntmps11
      go_wp2_with fail
      refine (prefix_to (EvAt.keep HA.out.1 (by repeat (first | with_reducible exact Below.refl _ _ | with_reducible refine bel_alloc ?_ _ | with_reducible refine bel_set ?_ (by first | exact Nat.le_refl _ | (simp; done) | (simp; omega)) _ | with_reducible refine Below.drew ?_ | refine bel_trans ?_ (by assumption)))) (EvAt.keep HB.out.1 (by repeat (first | with_reducible exact Below.refl _ _ | with_reducible refine bel_alloc ?_ _ | with_reducible refine bel_set ?_ (by first | exact Nat.le_refl _ | (simp; done) | (simp; omega)) _ | with_reducible refine Below.drew ?_ | refine bel_trans ?_ (by assumption)))) (r := false) HR3).mono ?_
      rintro e w1 ⟨rfl, hb1⟩
      have t0 : w1.cell? ⟨w.heap.size, 0, none⟩ = some (.int .i64 k) := keep_cell hb1 (by go_simp)
      have t1 : w1.cell? ⟨w.heap.size, 1, none⟩ = some (.int .i64 x) := keep_cell hb1 (by go_simp)
      have t2 : w1.cell? ⟨w.heap.size, 2, none⟩ = some (ev) := keep_cell hb1 (by go_simp)
      have t3 : w1.cell? ⟨w.heap.size, 3, none⟩ = some (lk) := keep_cell hb1 (by go_simp)
      have t4 : w1.cell? ⟨w.heap.size, 4, none⟩ = some (.int .i64 st) := keep_cell hb1 (by go_simp)
      have tL : w.heap.size < w1.heap.size := block_lt_of_cell t0
      have s0 : w1.cell? ⟨(w.heap.size + 1), 0, none⟩ = some (.int .i64 2) := keep_cell hb1 (by go_simp)
      have s1 : w1.cell? ⟨(w.heap.size + 1), 1, none⟩ = some (.int .i64 x') := keep_cell hb1 (by go_simp)
      have s2 : w1.cell? ⟨(w.heap.size + 1), 2, none⟩ = some (ev') := keep_cell hb1 (by go_simp)
      have s3 : w1.cell? ⟨(w.heap.size + 1), 3, none⟩ = some (lk') := keep_cell hb1 (by go_simp)
      have s4 : w1.cell? ⟨(w.heap.size + 1), 4, none⟩ = some (.int .i64 st') := keep_cell hb1 (by go_simp)
      have sL : (w.heap.size + 1) < w1.heap.size := block_lt_of_cell s0

      go_wp2_with fail
      refine (prefix_to (EvAt.keep HB.out.1 (by repeat (first | with_reducible exact Below.refl _ _ | with_reducible refine bel_alloc ?_ _ | with_reducible refine bel_set ?_ (by first | exact Nat.le_refl _ | (simp; done) | (simp; omega)) _ | with_reducible refine Below.drew ?_ | refine bel_trans ?_ (by assumption)))) (EvAt.keep HA.out.1 (by repeat (first | with_reducible exact Below.refl _ _ | with_reducible refine bel_alloc ?_ _ | with_reducible refine bel_set ?_ (by first | exact Nat.le_refl _ | (simp; done) | (simp; omega)) _ | with_reducible refine Below.drew ?_ | refine bel_trans ?_ (by assumption)))) (r := r4) HR4).mono ?_
      rintro e w2 ⟨rfl, hb2⟩
      replace t0 : w2.cell? ⟨w.heap.size, 0, none⟩ = some (.int .i64 k) := keep_cell hb2 (by go_simp)
      replace t1 : w2.cell? ⟨w.heap.size, 1, none⟩ = some (.int .i64 x) := keep_cell hb2 (by go_simp)
      replace t2 : w2.cell? ⟨w.heap.size, 2, none⟩ = some (ev) := keep_cell hb2 (by go_simp)
      replace t3 : w2.cell? ⟨w.heap.size, 3, none⟩ = some (lk) := keep_cell hb2 (by go_simp)
      replace t4 : w2.cell? ⟨w.heap.size, 4, none⟩ = some (.int .i64 st) := keep_cell hb2 (by go_simp)
      replace tL : w.heap.size < w2.heap.size := block_lt_of_cell t0
      replace s0 : w2.cell? ⟨(w.heap.size + 1), 0, none⟩ = some (.int .i64 2) := keep_cell hb2 (by go_simp)
      replace s1 : w2.cell? ⟨(w.heap.size + 1), 1, none⟩ = some (.int .i64 x') := keep_cell hb2 (by go_simp)
      replace s2 : w2.cell? ⟨(w.heap.size + 1), 2, none⟩ = some (ev') := keep_cell hb2 (by go_simp)
      replace s3 : w2.cell? ⟨(w.heap.size + 1), 3, none⟩ = some (lk') := keep_cell hb2 (by go_simp)
      replace s4 : w2.cell? ⟨(w.heap.size + 1), 4, none⟩ = some (.int .i64 st') := keep_cell hb2 (by go_simp)
      replace sL : (w.heap.size + 1) < w2.heap.size := block_lt_of_cell s0

      go_wp2
      go_ret
      exact ⟨rfl, (by repeat (first | with_reducible exact Below.refl _ _ | with_reducible refine bel_alloc ?_ _ | with_reducible refine bel_set ?_ (by first | exact Nat.le_refl _ | (simp; done) | (simp; omega)) _ | with_reducible refine Below.drew ?_ | refine bel_trans ?_ (by assumption)))⟩
    · go_enter Tryd.func11, Tryd.ntmps11
      go_wp2_with fail
      refine (prefix_to (EvAt.keep HA.out.1 (by repeat (first | with_reducible exact Below.refl _ _ | with_reducible refine bel_alloc ?_ _ | with_reducible refine bel_set ?_ (by first | exact Nat.le_refl _ | (simp; done) | (simp; omega)) _ | with_reducible refine Below.drew ?_ | refine bel_trans ?_ (by assumption)))) (EvAt.keep HB.out.1 (by repeat (first | with_reducible exact Below.refl _ _ | with_reducible refine bel_alloc ?_ _ | with_reducible refine bel_set ?_ (by first | exact Nat.le_refl _ | (simp; done) | (simp; omega)) _ | with_reducible refine Below.drew ?_ | refine bel_trans ?_ (by assumption)))) (r := true) HR3).mono ?_
      rintro e w1 ⟨rfl, hb1⟩
      have t0 : w1.cell? ⟨w.heap.size, 0, none⟩ = some (.int .i64 k) := keep_cell hb1 (by go_simp)
      have t1 : w1.cell? ⟨w.heap.size, 1, none⟩ = some (.int .i64 x) := keep_cell hb1 (by go_simp)
      have t2 : w1.cell? ⟨w.heap.size, 2, none⟩ = some (ev) := keep_cell hb1 (by go_simp)
      have t3 : w1.cell? ⟨w.heap.size, 3, none⟩ = some (lk) := keep_cell hb1 (by go_simp)
      have t4 : w1.cell? ⟨w.heap.size, 4, none⟩ = some (.int .i64 st) := keep_cell hb1 (by go_simp)
      have tL : w.heap.size < w1.heap.size := block_lt_of_cell t0
      have s0 : w1.cell? ⟨(w.heap.size + 1), 0, none⟩ = some (.int .i64 2) := keep_cell hb1 (by go_simp)
      have s1 : w1.cell? ⟨(w.heap.size + 1), 1, none⟩ = some (.int .i64 x') := keep_cell hb1 (by go_simp)
      have s2 : w1.cell? ⟨(w.heap.size + 1), 2, none⟩ = some (ev') := keep_cell hb1 (by go_simp)
      have s3 : w1.cell? ⟨(w.heap.size + 1), 3, none⟩ = some (lk') := keep_cell hb1 (by go_simp)
      have s4 : w1.cell? ⟨(w.heap.size + 1), 4, none⟩ = some (.int .i64 st') := keep_cell hb1 (by go_simp)
      have sL : (w.heap.size + 1) < w1.heap.size := block_lt_of_cell s0

      go_wp2
      go_ret
      exact ⟨rfl, (by repeat (first | with_reducible exact Below.refl _ _ | with_reducible refine bel_alloc ?_ _ | with_reducible refine bel_set ?_ (by first | exact Nat.le_refl _ | (simp; done) | (simp; omega)) _ | with_reducible refine Below.drew ?_ | refine bel_trans ?_ (by assumption)))⟩
  have q2 : (k' == 2) = false := by simpa using h2
  by_cases h3 : k' = 3
  · subst h3
    clear q1 q2
    have e : refR ⟨k, x, ev, lk, st, es, ls⟩ ⟨3, x', ev', lk', st', es', ls'⟩ = true := by simp [refR]
    rw [e]; clear e
    go_enter Tryd.func11, Tryd.ntmps11
    go_wp2
    go_ret
    exact ⟨rfl, (by repeat (first | with_reducible exact Below.refl _ _ | with_reducible refine bel_alloc ?_ _ | with_reducible refine bel_set ?_ (by first | exact Nat.le_refl _ | (simp; done) | (simp; omega)) _ | with_reducible refine Below.drew ?_ | refine bel_trans ?_ (by assumption)))⟩
  · have q3 : (k' == 3) = false := by simpa using h3
    have e : refR ⟨k, x, ev, lk, st, es, ls⟩ ⟨k', x', ev', lk', st', es', ls'⟩ = false := by simp [refR, h1, h2, h3]
    rw [e]; clear e h1 h2 h3
    go_enter Tryd.func11, Tryd.ntmps11
    go_wp2
    go_ret
    exact ⟨rfl, (by repeat (first | with_reducible exact Below.refl _ _ | with_reducible refine bel_alloc ?_ _ | with_reducible refine bel_set ?_ (by first | exact Nat.le_refl _ | (simp; done) | (simp; omega)) _ | with_reducible refine Below.drew ?_ | refine bel_trans ?_ (by assumption)))⟩

set_option maxHeartbeats 1000000 in
theorem number_any (n : Int) (s : ByteArray) (w : World) (HS : Hid (s = ⟨(Lib.itoa n).toArray⟩)) (h0 : -9223372036854775808 ≤ n) (h1 : n ≤ 9223372036854775807) (ht : Tab w) :
    Calls Tryd.prog 27 #[.int .i64 n] w (retP (.string s) w) := by
  go_enter Tryd.func27, Tryd.ntmps27
  go_wp2_with fail
  refine (of_any _ _).mono ?_
  rintro e w1 ⟨rfl, hb1⟩
  go_wp2_with fail
  refine (text_any 1 n 0 _ (tab_keep ht (by repeat (first | with_reducible exact Below.refl _ _ | with_reducible refine bel_alloc ?_ _ | with_reducible refine bel_set ?_ (by first | exact Nat.le_refl _ | (simp; done) | (simp; omega)) _ | with_reducible refine Below.drew ?_ | refine bel_trans ?_ (by assumption)))) h0 h1 (by decide) (by decide)).mono ?_
  rintro e w2 ⟨rfl, hb2⟩
  go_wp2
  go_ret
  exact ⟨by rw [HS.out]; rfl, (by repeat (first | with_reducible exact Below.refl _ _ | with_reducible refine bel_alloc ?_ _ | with_reducible refine bel_set ?_ (by first | exact Nat.le_refl _ | (simp; done) | (simp; omega)) _ | with_reducible refine Below.drew ?_ | refine bel_trans ?_ (by assumption)))⟩
def wordL (k : Int) : List UInt8 := if k = 2 then [111, 117, 116, 32] else [105, 110, 32]
set_option maxHeartbeats 1000000 in
theorem eventWord_any (k v : Int) (w : World) : Calls Tryd.prog 26 #[.agg #[.int .i64 k, .int .i64 v]] w (retP (.string ⟨(wordL k).toArray⟩) w) := by
  by_cases h : k = 2
  · subst h
    go_enter Tryd.func26, Tryd.ntmps26
    go_wp2
    go_ret
    exact ⟨by simp [wordL], (by repeat (first | with_reducible exact Below.refl _ _ | with_reducible refine bel_alloc ?_ _ | with_reducible refine bel_set ?_ (by first | exact Nat.le_refl _ | (simp; done) | (simp; omega)) _ | with_reducible refine Below.drew ?_ | refine bel_trans ?_ (by assumption)))⟩
  · have q : (k == 2) = false := by simpa using h
    have e : wordL k = [105, 110, 32] := by simp [wordL, h]
    rw [e]; clear e h
    go_enter Tryd.func26, Tryd.ntmps26
    go_wp2
    go_ret
    exact ⟨rfl, (by repeat (first | with_reducible exact Below.refl _ _ | with_reducible refine bel_alloc ?_ _ | with_reducible refine bel_set ?_ (by first | exact Nat.le_refl _ | (simp; done) | (simp; omega)) _ | with_reducible refine Below.drew ?_ | refine bel_trans ?_ (by assumption)))⟩
def endL (k x : Int) : List UInt8 := if k = 1 then [104, 97, 108, 116, 32] ++ Lib.itoa x else if k = 2 then [102, 117, 101, 108] else if k = 3 then [115, 116, 117, 99, 107] else if k = 4 then [111, 118, 101, 114, 102, 108, 111, 119] else [110, 111, 110, 101]
set_option maxHeartbeats 1000000 in
theorem end_any (a : RD) (w : World) (h0 : -9223372036854775808 ≤ a.x) (h1 : a.x ≤ 9223372036854775807) (ht : Tab w) : Calls Tryd.prog 29 #[a.v] w (retP (.string ⟨(endL a.k a.x).toArray⟩) w) := by
  obtain ⟨k, x, ev, lk, st, es, ls⟩ := a
  simp only [] at h0 h1
  show Calls _ _ #[.agg #[.int .i64 k, .int .i64 x, ev, lk, .int .i64 st]] w (retP (.string ⟨(endL k x).toArray⟩) w)
  by_cases q1 : k = 1
  · subst q1
    have e : endL 1 x = [104, 97, 108, 116, 32] ++ Lib.itoa x := by simp [endL]
    rw [e]; clear e
    obtain ⟨s, hs⟩ : ∃ s : ByteArray, s = ⟨(Lib.itoa x).toArray⟩ := ⟨_, rfl⟩
    have ls : s.size ≤ 21 := by rw [hs]; exact Lib.itoa_length_le x h0 h1
    have l1 : ¬ 9223372036854775807 < 5 + s.size := by omega
    have HS : Hid (s = ⟨(Lib.itoa x).toArray⟩) := hs
    have hfin : (⟨([104, 97, 108, 116, 32] ++ Lib.itoa x).toArray⟩ : ByteArray) = (⟨#[104, 97, 108, 116, 32]⟩ ++ s) := by
      rw [hs]; apply ByteArray.ext; simp
    rw [hfin]; clear hfin hs ls
    go_enter Tryd.func29, Tryd.ntmps29
    go_wp2_with fail
    refine (number_any x s _ HS h0 h1 (tab_keep ht (by repeat (first | with_reducible exact Below.refl _ _ | with_reducible refine bel_alloc ?_ _ | with_reducible refine bel_set ?_ (by first | exact Nat.le_refl _ | (simp; done) | (simp; omega)) _ | with_reducible refine Below.drew ?_ | refine bel_trans ?_ (by assumption))))).mono ?_
    rintro e w1 ⟨rfl, hb1⟩
    go_wp2
    go_ret
    exact ⟨rfl, (by repeat (first | with_reducible exact Below.refl _ _ | with_reducible refine bel_alloc ?_ _ | with_reducible refine bel_set ?_ (by first | exact Nat.le_refl _ | (simp; done) | (simp; omega)) _ | with_reducible refine Below.drew ?_ | refine bel_trans ?_ (by assumption)))⟩
  have g1 : (k == 1) = false := by simpa using q1
  by_cases q2 : k = 2
  · subst q2
    clear g1
    go_enter Tryd.func29, Tryd.ntmps29
    go_wp2
    go_ret
    exact ⟨by simp [endL], (by repeat (first | with_reducible exact Below.refl _ _ | with_reducible refine bel_alloc ?_ _ | with_reducible refine bel_set ?_ (by first | exact Nat.le_refl _ | (simp; done) | (simp; omega)) _ | with_reducible refine Below.drew ?_ | refine bel_trans ?_ (by assumption)))⟩
  have g2 : (k == 2) = false := by simpa using q2
  by_cases q3 : k = 3
  · subst q3
    clear g1 g2
    go_enter Tryd.func29, Tryd.ntmps29
    go_wp2
    go_ret
    exact ⟨by simp [endL], (by repeat (first | with_reducible exact Below.refl _ _ | with_reducible refine bel_alloc ?_ _ | with_reducible refine bel_set ?_ (by first | exact Nat.le_refl _ | (simp; done) | (simp; omega)) _ | with_reducible refine Below.drew ?_ | refine bel_trans ?_ (by assumption)))⟩
  have g3 : (k == 3) = false := by simpa using q3
  by_cases q4 : k = 4
  · subst q4
    clear g1 g2 g3
    go_enter Tryd.func29, Tryd.ntmps29
    go_wp2
    go_ret
    exact ⟨by simp [endL], (by repeat (first | with_reducible exact Below.refl _ _ | with_reducible refine bel_alloc ?_ _ | with_reducible refine bel_set ?_ (by first | exact Nat.le_refl _ | (simp; done) | (simp; omega)) _ | with_reducible refine Below.drew ?_ | refine bel_trans ?_ (by assumption)))⟩
  have g4 : (k == 4) = false := by simpa using q4
  have e : endL k x = [110, 111, 110, 101] := by simp [endL, q1, q2, q3, q4]
  rw [e]; clear e q1 q2 q3 q4
  go_enter Tryd.func29, Tryd.ntmps29
  go_wp2
  go_ret
  exact ⟨rfl, (by repeat (first | with_reducible exact Below.refl _ _ | with_reducible refine bel_alloc ?_ _ | with_reducible refine bel_set ?_ (by first | exact Nat.le_refl _ | (simp; done) | (simp; omega)) _ | with_reducible refine Below.drew ?_ | refine bel_trans ?_ (by assumption)))⟩

end Go.Proofs.YtokdnjnkgflbcaaDoor
