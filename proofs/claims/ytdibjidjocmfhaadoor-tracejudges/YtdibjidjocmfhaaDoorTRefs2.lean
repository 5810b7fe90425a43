/- Contract of the document's own Refines. -/
import Derived.Test.YtdibjidjocmfhaaDoorTRefs
namespace Go.Proofs.YtdibjidjocmfhaaDoor
open Go.ChangeShapes Go.WideShapes Go.ChangeAt Go.RowKit Go.Deep Pl
set_option linter.unusedSimpArgs false
set_option linter.unusedVariables false
theorem rsame_to (a b : RD) (w : World) (ha : RunAt w a) (hb : RunAt w b) (r : Bool) (H : Hid (sameR a b = r)) : Calls Tryd.prog 18 #[a.v, b.v] w (retP (.bool r) w) := by
  have := rsame_any a b w ha hb; rw [H.out] at this; exact this


set_option maxHeartbeats 4000000 in
theorem rrefines_any (a b : RD) (w : World) (ha : RunAt w a) (hb' : RunAt w b) : Calls Tryd.prog 21 #[a.v, b.v] w (retP (.bool (refR a b)) w) := by
  obtain ⟨k, x, ev, lk, st, es, ls⟩ := a
  obtain ⟨k', x', ev', lk', st', es', ls'⟩ := b
  have HA : Hid (RunAt w ⟨k, x, ev, lk, st, es, ls⟩) := ha
  have HB : Hid (RunAt w ⟨k', x', ev', lk', st', es', ls'⟩) := hb'
  clear ha hb'
  show Calls _ _ #[.agg #[.int .i64 k, .int .i64 x, ev, lk, .int .i64 st], .agg #[.int .i64 k', .int .i64 x', ev', lk', .int .i64 st']] w _
  by_cases h1 : k' = 1
  · subst h1
    obtain ⟨r1, hr1⟩ : ∃ r, sameR ⟨k, x, ev, lk, st, es, ls⟩ ⟨1, x', ev', lk', st', es', ls'⟩ = r := ⟨_, rfl⟩
    obtain ⟨r3, hr3⟩ : ∃ r, evPre es es' = r := ⟨_, rfl⟩
    have HR1 : Hid (sameR ⟨k, x, ev, lk, st, es, ls⟩ ⟨1, x', ev', lk', st', es', ls'⟩ = r1) := hr1
    have HR3 : Hid (r3 = evRef false es es') := hr3.symm
    cases r1
    · by_cases h2 : k = 2
      · subst h2
        have e : refR ⟨2, x, ev, lk, st, es, ls⟩ ⟨1, x', ev', lk', st', es', ls'⟩ = r3 := by simp [refR, hr1, hr3, cutR]
        rw [e]; clear e hr1 hr3
        go_enter Tryd.func21, Tryd.ntmps21
        go_wp2_with fail
        refine (rsame_to ⟨2, x, ev, lk, st, es, ls⟩ ⟨1, x', ev', lk', st', es', ls'⟩ _ (RunAt.keep HA.out (by repeat (first | with_reducible exact Below.refl _ _ | with_reducible refine bel_alloc ?_ _ | with_reducible refine bel_set ?_ (by first | exact Nat.le_refl _ | (simp; done) | (simp; omega)) _ | with_reducible refine Below.drew ?_ | refine bel_trans ?_ (by assumption)))) (RunAt.keep HB.out (by repeat (first | with_reducible exact Below.refl _ _ | with_reducible refine bel_alloc ?_ _ | with_reducible refine bel_set ?_ (by first | exact Nat.le_refl _ | (simp; done) | (simp; omega)) _ | with_reducible refine Below.drew ?_ | refine bel_trans ?_ (by assumption)))) false HR1).mono ?_
        rintro e w1 ⟨rfl, hb1⟩
        have t0 : w1.cell? ⟨w.heap.size, 0, none⟩ = some (.int .i64 2) := keep_cell hb1 (by go_simp)
        have t1 : w1.cell? ⟨w.heap.size, 1, none⟩ = some (.int .i64 x) := keep_cell hb1 (by go_simp)
        have t2 : w1.cell? ⟨w.heap.size, 2, none⟩ = some (ev) := keep_cell hb1 (by go_simp)
        have t3 : w1.cell? ⟨w.heap.size, 3, none⟩ = some (lk) := keep_cell hb1 (by go_simp)
        have t4 : w1.cell? ⟨w.heap.size, 4, none⟩ = some (.int .i64 st) := keep_cell hb1 (by go_simp)
        have tL : w.heap.size < w1.heap.size := block_lt_of_cell t0
        have s0 : w1.cell? ⟨(w.heap.size + 1), 0, none⟩ = some (.int .i64 1) := keep_cell hb1 (by go_simp)
        have s1 : w1.cell? ⟨(w.heap.size + 1), 1, none⟩ = some (.int .i64 x') := keep_cell hb1 (by go_simp)
        have s2 : w1.cell? ⟨(w.heap.size + 1), 2, none⟩ = some (ev') := keep_cell hb1 (by go_simp)
        have s3 : w1.cell? ⟨(w.heap.size + 1), 3, none⟩ = some (lk') := keep_cell hb1 (by go_simp)
        have s4 : w1.cell? ⟨(w.heap.size + 1), 4, none⟩ = some (.int .i64 st') := keep_cell hb1 (by go_simp)
        have sL : (w.heap.size + 1) < w1.heap.size := block_lt_of_cell s0
        go_wp2_with fail
        refine (events_to (EvAt.keep HA.out.1 (by repeat (first | with_reducible exact Below.refl _ _ | with_reducible refine bel_alloc ?_ _ | with_reducible refine bel_set ?_ (by first | exact Nat.le_refl _ | (simp; done) | (simp; omega)) _ | with_reducible refine Below.drew ?_ | refine bel_trans ?_ (by assumption)))) (EvAt.keep HB.out.1 (by repeat (first | with_reducible exact Below.refl _ _ | with_reducible refine bel_alloc ?_ _ | with_reducible refine bel_set ?_ (by first | exact Nat.le_refl _ | (simp; done) | (simp; omega)) _ | with_reducible refine Below.drew ?_ | refine bel_trans ?_ (by assumption)))) false (r := r3) HR3).mono ?_
        rintro e w2 ⟨rfl, hb2⟩
        replace t0 : w2.cell? ⟨w.heap.size, 0, none⟩ = some (.int .i64 2) := keep_cell hb2 (by go_simp)
        replace t1 : w2.cell? ⟨w.heap.size, 1, none⟩ = some (.int .i64 x) := keep_cell hb2 (by go_simp)
        replace t2 : w2.cell? ⟨w.heap.size, 2, none⟩ = some (ev) := keep_cell hb2 (by go_simp)
        replace t3 : w2.cell? ⟨w.heap.size, 3, none⟩ = some (lk) := keep_cell hb2 (by go_simp)
        replace t4 : w2.cell? ⟨w.heap.size, 4, none⟩ = some (.int .i64 st) := keep_cell hb2 (by go_simp)
        replace tL : w.heap.size < w2.heap.size := block_lt_of_cell t0
        replace s0 : w2.cell? ⟨(w.heap.size + 1), 0, none⟩ = some (.int .i64 1) := keep_cell hb2 (by go_simp)
        replace s1 : w2.cell? ⟨(w.heap.size + 1), 1, none⟩ = some (.int .i64 x') := keep_cell hb2 (by go_simp)
        replace s2 : w2.cell? ⟨(w.heap.size + 1), 2, none⟩ = some (ev') := keep_cell hb2 (by go_simp)
        replace s3 : w2.cell? ⟨(w.heap.size + 1), 3, none⟩ = some (lk') := keep_cell hb2 (by go_simp)
        replace s4 : w2.cell? ⟨(w.heap.size + 1), 4, none⟩ = some (.int .i64 st') := keep_cell hb2 (by go_simp)
        replace sL : (w.heap.size + 1) < w2.heap.size := block_lt_of_cell s0
        go_wp2
        go_ret
        exact ⟨rfl, (by repeat (first | with_reducible exact Below.refl _ _ | with_reducible refine bel_alloc ?_ _ | with_reducible refine bel_set ?_ (by first | exact Nat.le_refl _ | (simp; done) | (simp; omega)) _ | with_reducible refine Below.drew ?_ | refine bel_trans ?_ (by assumption)))⟩
      by_cases h4 : k = 4
      · subst h4
        have e : refR ⟨4, x, ev, lk, st, es, ls⟩ ⟨1, x', ev', lk', st', es', ls'⟩ = r3 := by simp [refR, hr1, hr3, cutR]
        rw [e]; clear e hr1 hr3 h2
        go_enter Tryd.func21, Tryd.ntmps21
        go_wp2_with fail
        refine (rsame_to ⟨4, x, ev, lk, st, es, ls⟩ ⟨1, x', ev', lk', st', es', ls'⟩ _ (RunAt.keep HA.out (by repeat (first | with_reducible exact Below.refl _ _ | with_reducible refine bel_alloc ?_ _ | with_reducible refine bel_set ?_ (by first | exact Nat.le_refl _ | (simp; done) | (simp; omega)) _ | with_reducible refine Below.drew ?_ | refine bel_trans ?_ (by assumption)))) (RunAt.keep HB.out (by repeat (first | with_reducible exact Below.refl _ _ | with_reducible refine bel_alloc ?_ _ | with_reducible refine bel_set ?_ (by first | exact Nat.le_refl _ | (simp; done) | (simp; omega)) _ | with_reducible refine Below.drew ?_ | refine bel_trans ?_ (by assumption)))) false HR1).mono ?_
        rintro e w1 ⟨rfl, hb1⟩
        have t0 : w1.cell? ⟨w.heap.size, 0, none⟩ = some (.int .i64 4) := keep_cell hb1 (by go_simp)
        have t1 : w1.cell? ⟨w.heap.size, 1, none⟩ = some (.int .i64 x) := keep_cell hb1 (by go_simp)
        have t2 : w1.cell? ⟨w.heap.size, 2, none⟩ = some (ev) := keep_cell hb1 (by go_simp)
        have t3 : w1.cell? ⟨w.heap.size, 3, none⟩ = some (lk) := keep_cell hb1 (by go_simp)
        have t4 : w1.cell? ⟨w.heap.size, 4, none⟩ = some (.int .i64 st) := keep_cell hb1 (by go_simp)
        have tL : w.heap.size < w1.heap.size := block_lt_of_cell t0
        have s0 : w1.cell? ⟨(w.heap.size + 1), 0, none⟩ = some (.int .i64 1) := keep_cell hb1 (by go_simp)
        have s1 : w1.cell? ⟨(w.heap.size + 1), 1, none⟩ = some (.int .i64 x') := keep_cell hb1 (by go_simp)
        have s2 : w1.cell? ⟨(w.heap.size + 1), 2, none⟩ = some (ev') := keep_cell hb1 (by go_simp)
        have s3 : w1.cell? ⟨(w.heap.size + 1), 3, none⟩ = some (lk') := keep_cell hb1 (by go_simp)
        have s4 : w1.cell? ⟨(w.heap.size + 1), 4, none⟩ = some (.int .i64 st') := keep_cell hb1 (by go_simp)
        have sL : (w.heap.size + 1) < w1.heap.size := block_lt_of_cell s0
        go_wp2_with fail
        refine (events_to (EvAt.keep HA.out.1 (by repeat (first | with_reducible exact Below.refl _ _ | with_reducible refine bel_alloc ?_ _ | with_reducible refine bel_set ?_ (by first | exact Nat.le_refl _ | (simp; done) | (simp; omega)) _ | with_reducible refine Below.drew ?_ | refine bel_trans ?_ (by assumption)))) (EvAt.keep HB.out.1 (by repeat (first | with_reducible exact Below.refl _ _ | with_reducible refine bel_alloc ?_ _ | with_reducible refine bel_set ?_ (by first | exact Nat.le_refl _ | (simp; done) | (simp; omega)) _ | with_reducible refine Below.drew ?_ | refine bel_trans ?_ (by assumption)))) false (r := r3) HR3).mono ?_
        rintro e w2 ⟨rfl, hb2⟩
        replace t0 : w2.cell? ⟨w.heap.size, 0, none⟩ = some (.int .i64 4) := keep_cell hb2 (by go_simp)
        replace t1 : w2.cell? ⟨w.heap.size, 1, none⟩ = some (.int .i64 x) := keep_cell hb2 (by go_simp)
        replace t2 : w2.cell? ⟨w.heap.size, 2, none⟩ = some (ev) := keep_cell hb2 (by go_simp)
        replace t3 : w2.cell? ⟨w.heap.size, 3, none⟩ = some (lk) := keep_cell hb2 (by go_simp)
        replace t4 : w2.cell? ⟨w.heap.size, 4, none⟩ = some (.int .i64 st) := keep_cell hb2 (by go_simp)
        replace tL : w.heap.size < w2.heap.size := block_lt_of_cell t0
        replace s0 : w2.cell? ⟨(w.heap.size + 1), 0, none⟩ = some (.int .i64 1) := keep_cell hb2 (by go_simp)
        replace s1 : w2.cell? ⟨(w.heap.size + 1), 1, none⟩ = some (.int .i64 x') := keep_cell hb2 (by go_simp)
        replace s2 : w2.cell? ⟨(w.heap.size + 1), 2, none⟩ = some (ev') := keep_cell hb2 (by go_simp)
        replace s3 : w2.cell? ⟨(w.heap.size + 1), 3, none⟩ = some (lk') := keep_cell hb2 (by go_simp)
        replace s4 : w2.cell? ⟨(w.heap.size + 1), 4, none⟩ = some (.int .i64 st') := keep_cell hb2 (by go_simp)
        replace sL : (w.heap.size + 1) < w2.heap.size := block_lt_of_cell s0
        go_wp2
        go_ret
        exact ⟨rfl, (by repeat (first | with_reducible exact Below.refl _ _ | with_reducible refine bel_alloc ?_ _ | with_reducible refine bel_set ?_ (by first | exact Nat.le_refl _ | (simp; done) | (simp; omega)) _ | with_reducible refine Below.drew ?_ | refine bel_trans ?_ (by assumption)))⟩
      have q2 : (k == 2) = false := by simpa using h2
      have q4 : (k == 4) = false := by simpa using h4
      have e : refR ⟨k, x, ev, lk, st, es, ls⟩ ⟨1, x', ev', lk', st', es', ls'⟩ = false := by simp [refR, hr1, cutR, h2, h4]
      rw [e]; clear e hr1 hr3 h2 h4
      go_enter Tryd.func21, Tryd.ntmps21
      go_wp2_with fail
      refine (rsame_to ⟨k, x, ev, lk, st, es, ls⟩ ⟨1, x', ev', lk', st', es', ls'⟩ _ (RunAt.keep HA.out (by repeat (first | with_reducible exact Below.refl _ _ | with_reducible refine bel_alloc ?_ _ | with_reducible refine bel_set ?_ (by first | exact Nat.le_refl _ | (simp; done) | (simp; omega)) _ | with_reducible refine Below.drew ?_ | refine bel_trans ?_ (by assumption)))) (RunAt.keep HB.out (by repeat (first | with_reducible exact Below.refl _ _ | with_reducible refine bel_alloc ?_ _ | with_reducible refine bel_set ?_ (by first | exact Nat.le_refl _ | (simp; done) | (simp; omega)) _ | with_reducible refine Below.drew ?_ | refine bel_trans ?_ (by assumption)))) false HR1).mono ?_
      rintro e w1 ⟨rfl, hb1⟩
      have t0 : w1.cell? ⟨w.heap.size, 0, none⟩ = some (.int .i64 k) := keep_cell hb1 (by go_simp)
      have t1 : w1.cell? ⟨w.heap.size, 1, none⟩ = some (.int .i64 x) := keep_cell hb1 (by go_simp)
      have t2 : w1.cell? ⟨w.heap.size, 2, none⟩ = some (ev) := keep_cell hb1 (by go_simp)
      have t3 : w1.cell? ⟨w.heap.size, 3, none⟩ = some (lk) := keep_cell hb1 (by go_simp)
      have t4 : w1.cell? ⟨w.heap.size, 4, none⟩ = some (.int .i64 st) := keep_cell hb1 (by go_simp)
      have tL : w.heap.size < w1.heap.size := block_lt_of_cell t0
      have s0 : w1.cell? ⟨(w.heap.size + 1), 0, none⟩ = some (.int .i64 1) := keep_cell hb1 (by go_simp)
      have s1 : w1.cell? ⟨(w.heap.size + 1), 1, none⟩ = some (.int .i64 x') := keep_cell hb1 (by go_simp)
      have s2 : w1.cell? ⟨(w.heap.size + 1), 2, none⟩ = some (ev') := keep_cell hb1 (by go_simp)
      have s3 : w1.cell? ⟨(w.heap.size + 1), 3, none⟩ = some (lk') := keep_cell hb1 (by go_simp)
      have s4 : w1.cell? ⟨(w.heap.size + 1), 4, none⟩ = some (.int .i64 st') := keep_cell hb1 (by go_simp)
      have sL : (w.heap.size + 1) < w1.heap.size := block_lt_of_cell s0
      go_wp2
      go_ret
      exact ⟨rfl, (by repeat (first | with_reducible exact Below.refl _ _ | with_reducible refine bel_alloc ?_ _ | with_reducible refine bel_set ?_ (by first | exact Nat.le_refl _ | (simp; done) | (simp; omega)) _ | with_reducible refine Below.drew ?_ | refine bel_trans ?_ (by assumption)))⟩
    · have e : refR ⟨k, x, ev, lk, st, es, ls⟩ ⟨1, x', ev', lk', st', es', ls'⟩ = true := by simp [refR, hr1]
      rw [e]; clear e hr1 hr3
      go_enter Tryd.func21, Tryd.ntmps21
      go_wp2_with fail
      refine (rsame_to ⟨k, x, ev, lk, st, es, ls⟩ ⟨1, x', ev', lk', st', es', ls'⟩ _ (RunAt.keep HA.out (by repeat (first | with_reducible exact Below.refl _ _ | with_reducible refine bel_alloc ?_ _ | with_reducible refine bel_set ?_ (by first | exact Nat.le_refl _ | (simp; done) | (simp; omega)) _ | with_reducible refine Below.drew ?_ | refine bel_trans ?_ (by assumption)))) (RunAt.keep HB.out (by repeat (first | with_reducible exact Below.refl _ _ | with_reducible refine bel_alloc ?_ _ | with_reducible refine bel_set ?_ (by first | exact Nat.le_refl _ | (simp; done) | (simp; omega)) _ | with_reducible refine Below.drew ?_ | refine bel_trans ?_ (by assumption)))) true HR1).mono ?_
      rintro e w1 ⟨rfl, hb1⟩
      have t0 : w1.cell? ⟨w.heap.size, 0, none⟩ = some (.int .i64 k) := keep_cell hb1 (by go_simp)
      have t1 : w1.cell? ⟨w.heap.size, 1, none⟩ = some (.int .i64 x) := keep_cell hb1 (by go_simp)
      have t2 : w1.cell? ⟨w.heap.size, 2, none⟩ = some (ev) := keep_cell hb1 (by go_simp)
      have t3 : w1.cell? ⟨w.heap.size, 3, none⟩ = some (lk) := keep_cell hb1 (by go_simp)
      have t4 : w1.cell? ⟨w.heap.size, 4, none⟩ = some (.int .i64 st) := keep_cell hb1 (by go_simp)
      have tL : w.heap.size < w1.heap.size := block_lt_of_cell t0
      have s0 : w1.cell? ⟨(w.heap.size + 1), 0, none⟩ = some (.int .i64 1) := keep_cell hb1 (by go_simp)
      have s1 : w1.cell? ⟨(w.heap.size + 1), 1, none⟩ = some (.int .i64 x') := keep_cell hb1 (by go_simp)
      have s2 : w1.cell? ⟨(w.heap.size + 1), 2, none⟩ = some (ev') := keep_cell hb1 (by go_simp)
      have s3 : w1.cell? ⟨(w.heap.size + 1), 3, none⟩ = some (lk') := keep_cell hb1 (by go_simp)
      have s4 : w1.cell? ⟨(w.heap.size + 1), 4, none⟩ = some (.int .i64 st') := keep_cell hb1 (by go_simp)
      have sL : (w.heap.size + 1) < w1.heap.size := block_lt_of_cell s0
      go_wp2
      go_ret
      exact ⟨rfl, (by repeat (first | with_reducible exact Below.refl _ _ | with_reducible refine bel_alloc ?_ _ | with_reducible refine bel_set ?_ (by first | exact Nat.le_refl _ | (simp; done) | (simp; omega)) _ | with_reducible refine Below.drew ?_ | refine bel_trans ?_ (by assumption)))⟩
  have q1 : (k' == 1) = false := by simpa using h1
  by_cases h2 : k' = 2
  · subst h2
    clear q1
    obtain ⟨r3, hr3⟩ : ∃ r, evPre es es' = r := ⟨_, rfl⟩
    obtain ⟨r4, hr4⟩ : ∃ r, evPre es' es = r := ⟨_, rfl⟩
    have e : refR ⟨k, x, ev, lk, st, es, ls⟩ ⟨2, x', ev', lk', st', es', ls'⟩ = (r3 || r4) := by simp [refR, hr3, hr4]
    rw [e]; clear e h1
    have HR3 : Hid (r3 = evRef false es es') := hr3.symm
    have HR4 : Hid (r4 = evRef false es' es) := hr4.symm
    clear hr3 hr4
    cases r3
    · go_enter Tryd.func21, Tryd.ntmps21
      go_wp2_with fail
      refine (events_to (EvAt.keep HA.out.1 (by repeat (first | with_reducible exact Below.refl _ _ | with_reducible refine bel_alloc ?_ _ | with_reducible refine bel_set ?_ (by first | exact Nat.le_refl _ | (simp; done) | (simp; omega)) _ | with_reducible refine Below.drew ?_ | refine bel_trans ?_ (by assumption)))) (EvAt.keep HB.out.1 (by repeat (first | with_reducible exact Below.refl _ _ | with_reducible refine bel_alloc ?_ _ | with_reducible refine bel_set ?_ (by first | exact Nat.le_refl _ | (simp; done) | (simp; omega)) _ | with_reducible refine Below.drew ?_ | refine bel_trans ?_ (by assumption)))) false (r := false) HR3).mono ?_
      rintro e w1 ⟨rfl, hb1⟩
      have t0 : w1.cell? ⟨w.heap.size, 0, none⟩ = some (.int .i64 k) := keep_cell hb1 (by go_simp)
      have t1 : w1.cell? ⟨w.heap.size, 1, none⟩ = some (.int .i64 x) := keep_cell hb1 (by go_simp)
      have t2 : w1.cell? ⟨w.heap.size, 2, none⟩ = some (ev) := keep_cell hb1 (by go_simp)
      have t3 : w1.cell? ⟨w.heap.size, 3, none⟩ = some (lk) := keep_cell hb1 (by go_simp)
      have t4 : w1.cell? ⟨w.heap.size, 4, none⟩ = some (.int .i64 st) := keep_cell hb1 (by go_simp)
      have tL : w.heap.size < w1.heap.size := block_lt_of_cell t0
      have s0 : w1.cell? ⟨(w.heap.size + 1), 0, none⟩ = some (.int .i64 2) := keep_cell hb1 (by go_simp)
      have s1 : w1.cell? ⟨(w.heap.size + 1), 1, none⟩ = some (.int .i64 x') := keep_cell hb1 (by go_simp)
      have s2 : w1.cell? ⟨(w.heap.size + 1), 2, none⟩ = some (ev') := keep_cell hb1 (by go_simp)
      have s3 : w1.cell? ⟨(w.heap.size + 1), 3, none⟩ = some (lk') := keep_cell hb1 (by go_simp)
      have s4 : w1.cell? ⟨(w.heap.size + 1), 4, none⟩ = some (.int .i64 st') := keep_cell hb1 (by go_simp)
      have sL : (w.heap.size + 1) < w1.heap.size := block_lt_of_cell s0
      go_wp2_with fail
      refine (events_to (EvAt.keep HB.out.1 (by repeat (first | with_reducible exact Below.refl _ _ | with_reducible refine bel_alloc ?_ _ | with_reducible refine bel_set ?_ (by first | exact Nat.le_refl _ | (simp; done) | (simp; omega)) _ | with_reducible refine Below.drew ?_ | refine bel_trans ?_ (by assumption)))) (EvAt.keep HA.out.1 (by repeat (first | with_reducible exact Below.refl _ _ | with_reducible refine bel_alloc ?_ _ | with_reducible refine bel_set ?_ (by first | exact Nat.le_refl _ | (simp; done) | (simp; omega)) _ | with_reducible refine Below.drew ?_ | refine bel_trans ?_ (by assumption)))) false (r := r4) HR4).mono ?_
      rintro e w2 ⟨rfl, hb2⟩
      replace t0 : w2.cell? ⟨w.heap.size, 0, none⟩ = some (.int .i64 k) := keep_cell hb2 (by go_simp)
      replace t1 : w2.cell? ⟨w.heap.size, 1, none⟩ = some (.int .i64 x) := keep_cell hb2 (by go_simp)
      replace t2 : w2.cell? ⟨w.heap.size, 2, none⟩ = some (ev) := keep_cell hb2 (by go_simp)
      replace t3 : w2.cell? ⟨w.heap.size, 3, none⟩ = some (lk) := keep_cell hb2 (by go_simp)
      replace t4 : w2.cell? ⟨w.heap.size, 4, none⟩ = some (.int .i64 st) := keep_cell hb2 (by go_simp)
      replace tL : w.heap.size < w2.heap.size := block_lt_of_cell t0
      replace s0 : w2.cell? ⟨(w.heap.size + 1), 0, none⟩ = some (.int .i64 2) := keep_cell hb2 (by go_simp)
      replace s1 : w2.cell? ⟨(w.heap.size + 1), 1, none⟩ = some (.int .i64 x') := keep_cell hb2 (by go_simp)
      replace s2 : w2.cell? ⟨(w.heap.size + 1), 2, none⟩ = some (ev') := keep_cell hb2 (by go_simp)
      replace s3 : w2.cell? ⟨(w.heap.size + 1), 3, none⟩ = some (lk') := keep_cell hb2 (by go_simp)
      replace s4 : w2.cell? ⟨(w.heap.size + 1), 4, none⟩ = some (.int .i64 st') := keep_cell hb2 (by go_simp)
      replace sL : (w.heap.size + 1) < w2.heap.size := block_lt_of_cell s0
      go_wp2
      go_ret
      exact ⟨rfl, (by repeat (first | with_reducible exact Below.refl _ _ | with_reducible refine bel_alloc ?_ _ | with_reducible refine bel_set ?_ (by first | exact Nat.le_refl _ | (simp; done) | (simp; omega)) _ | with_reducible refine Below.drew ?_ | refine bel_trans ?_ (by assumption)))⟩
    · go_enter Tryd.func21, Tryd.ntmps21
      go_wp2_with fail
      refine (events_to (EvAt.keep HA.out.1 (by repeat (first | with_reducible exact Below.refl _ _ | with_reducible refine bel_alloc ?_ _ | with_reducible refine bel_set ?_ (by first | exact Nat.le_refl _ | (simp; done) | (simp; omega)) _ | with_reducible refine Below.drew ?_ | refine bel_trans ?_ (by assumption)))) (EvAt.keep HB.out.1 (by repeat (first | with_reducible exact Below.refl _ _ | with_reducible refine bel_alloc ?_ _ | with_reducible refine bel_set ?_ (by first | exact Nat.le_refl _ | (simp; done) | (simp; omega)) _ | with_reducible refine Below.drew ?_ | refine bel_trans ?_ (by assumption)))) false (r := true) HR3).mono ?_
      rintro e w1 ⟨rfl, hb1⟩
      have t0 : w1.cell? ⟨w.heap.size, 0, none⟩ = some (.int .i64 k) := keep_cell hb1 (by go_simp)
      have t1 : w1.cell? ⟨w.heap.size, 1, none⟩ = some (.int .i64 x) := keep_cell hb1 (by go_simp)
      have t2 : w1.cell? ⟨w.heap.size, 2, none⟩ = some (ev) := keep_cell hb1 (by go_simp)
      have t3 : w1.cell? ⟨w.heap.size, 3, none⟩ = some (lk) := keep_cell hb1 (by go_simp)
      have t4 : w1.cell? ⟨w.heap.size, 4, none⟩ = some (.int .i64 st) := keep_cell hb1 (by go_simp)
      have tL : w.heap.size < w1.heap.size := block_lt_of_cell t0
      have s0 : w1.cell? ⟨(w.heap.size + 1), 0, none⟩ = some (.int .i64 2) := keep_cell hb1 (by go_simp)
      have s1 : w1.cell? ⟨(w.heap.size + 1), 1, none⟩ = some (.int .i64 x') := keep_cell hb1 (by go_simp)
      have s2 : w1.cell? ⟨(w.heap.size + 1), 2, none⟩ = some (ev') := keep_cell hb1 (by go_simp)
      have s3 : w1.cell? ⟨(w.heap.size + 1), 3, none⟩ = some (lk') := keep_cell hb1 (by go_simp)
      have s4 : w1.cell? ⟨(w.heap.size + 1), 4, none⟩ = some (.int .i64 st') := keep_cell hb1 (by go_simp)
      have sL : (w.heap.size + 1) < w1.heap.size := block_lt_of_cell s0
      go_wp2
      go_ret
      exact ⟨rfl, (by repeat (first | with_reducible exact Below.refl _ _ | with_reducible refine bel_alloc ?_ _ | with_reducible refine bel_set ?_ (by first | exact Nat.le_refl _ | (simp; done) | (simp; omega)) _ | with_reducible refine Below.drew ?_ | refine bel_trans ?_ (by assumption)))⟩
  have q2 : (k' == 2) = false := by simpa using h2
  by_cases h3 : k' = 3
  · subst h3
    clear q1 q2
    have e : refR ⟨k, x, ev, lk, st, es, ls⟩ ⟨3, x', ev', lk', st', es', ls'⟩ = true := by simp [refR]
    rw [e]; clear e
    go_enter Tryd.func21, Tryd.ntmps21
    go_wp2
    go_ret
    exact ⟨rfl, (by repeat (first | with_reducible exact Below.refl _ _ | with_reducible refine bel_alloc ?_ _ | with_reducible refine bel_set ?_ (by first | exact Nat.le_refl _ | (simp; done) | (simp; omega)) _ | with_reducible refine Below.drew ?_ | refine bel_trans ?_ (by assumption)))⟩
  · have q3 : (k' == 3) = false := by simpa using h3
    have e : refR ⟨k, x, ev, lk, st, es, ls⟩ ⟨k', x', ev', lk', st', es', ls'⟩ = false := by simp [refR, h1, h2, h3]
    rw [e]; clear e h1 h2 h3
    go_enter Tryd.func21, Tryd.ntmps21
    go_wp2
    go_ret
    exact ⟨rfl, (by repeat (first | with_reducible exact Below.refl _ _ | with_reducible refine bel_alloc ?_ _ | with_reducible refine bel_set ?_ (by first | exact Nat.le_refl _ | (simp; done) | (simp; omega)) _ | with_reducible refine Below.drew ?_ | refine bel_trans ?_ (by assumption)))⟩

theorem rrefines_to (a b : RD) (w : World) (ha : RunAt w a) (hb : RunAt w b) (r : Bool) (H : Hid (refR a b = r)) : Calls Tryd.prog 21 #[a.v, b.v] w (retP (.bool r) w) := by
  have := rrefines_any a b w ha hb; rw [H.out] at this; exact this
theorem rleaks_to (a b : RD) (w : World) (ha : RunAt w a) (hb : RunAt w b) (r : Bool) (H : Hid (leaksR a b = r)) : Calls Tryd.prog 20 #[a.v, b.v] w (retP (.bool r) w) := by
  have := rleaks_any a b w ha hb; rw [H.out] at this; exact this

end Go.Proofs.YtdibjidjocmfhaaDoor
