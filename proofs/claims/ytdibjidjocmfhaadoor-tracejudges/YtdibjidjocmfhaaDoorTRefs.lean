/- Contracts of the document's own judges: Events, Same, Leaks, Refines. -/
import Derived.Test.YtdibjidjocmfhaaDoorTAwake
namespace Go.Proofs.YtdibjidjocmfhaaDoor
open Go.ChangeShapes Go.WideShapes Go.ChangeAt Go.RowKit Go.Deep Pl
set_option linter.unusedSimpArgs false
set_option linter.unusedVariables false

def evRef (all : Bool) (l m : List Ev) : Bool := if all then evEq l m else evPre l m


set_option maxHeartbeats 2000000 in
theorem events_walk (a1 a2 : Option Addr) (n1 n2 c1 c2 : Nat) (l1 l2 : List Ev) (all r : Bool) (w : World) (HN1 : Hid (n1 = l1.length)) (HN2 : Hid (n2 = l2.length)) (m1 : (n1 : Int) ≤ 9223372036854775807) (m2 : (n2 : Int) ≤ 9223372036854775807) (h1 : EvL w a1 l1) (h2 : EvL w a2 l2) (HR : Hid (r = evRef all l1 l2)) :
    Calls Tryd.prog 22 #[.slice a1 n1 c1, .slice a2 n2 c2, .bool all] w (retP (.bool r) w) := by
  have H1 : Hid (EvL w a1 l1) := h1
  have H2 : Hid (EvL w a2 l2) := h2
  clear h1 h2
  by_cases hgt : n2 < n1
  · have g : (n2 : Int) < n1 := by omega
    have hr : r = false := by
      rw [HR.out]; unfold evRef evEq evPre
      have e1 := HN1.out; have e2 := HN2.out
      cases all
      · simp only [Bool.false_eq_true, if_false]; rw [decide_eq_false_iff_not]; intro e; have := congrArg List.length e; rw [List.length_take] at this; omega
      · simp only [if_true]; rw [decide_eq_false_iff_not]; intro e; have := congrArg List.length e; omega
    subst hr
    go_enter Tryd.func22, Tryd.ntmps22
    go_wp2
    go_ret
    exact ⟨rfl, Below.refl _ _⟩
  have g : ¬ (n2 : Int) < n1 := by omega
  by_cases hne : all = true ∧ n1 ≠ n2
  · obtain ⟨rfl, hne⟩ := hne
    have gne : ((n1 : Int) == n2) = false := by simp; omega
    have gne' : ((n1 : Int) != n2) = true := by simp; omega
    have hr : r = false := by
      rw [HR.out]; simp only [evRef, if_true, evEq]; rw [decide_eq_false_iff_not]; intro e
      have := congrArg List.length e; have e1 := HN1.out; have e2 := HN2.out; omega
    subst hr
    clear hne
    go_enter Tryd.func22, Tryd.ntmps22
    go_wp2
    go_ret
    exact ⟨rfl, Below.refl _ _⟩
  have HRP : Hid (r = decide (l1 = l2.take n1)) := by
    show _ = _
    rw [HR.out]; unfold evRef evEq evPre
    have e1 := HN1.out; have e2 := HN2.out
    cases all
    · simp only [Bool.false_eq_true, if_false]; rw [e1]
    · have : n1 = n2 := Classical.byContradiction fun h => hne ⟨rfl, h⟩
      simp only [if_true]; rw [List.take_of_length_le (by omega)]
  have hstart : ∀ Q : Prop, (all = false → Q) → (all = true → n1 = n2 → Q) → Q := fun Q q1 q2 => by
    cases all
    · exact q1 rfl
    · exact q2 rfl (Classical.byContradiction fun h => hne ⟨rfl, h⟩)
  clear HR hne
  have main : ∀ (W : Bool), Hid (W = all) → (W = true → n1 = n2) → Calls Tryd.prog 22 #[.slice a1 n1 c1, .slice a2 n2 c2, .bool W] w (retP (.bool r) w) := by
    intro W HW hW
    cases W
    all_goals
      try (have hnn := hW rfl)
      try (have gnn : ((n1 : Int) != n2) = false := by simp [hnn])
      clear hW
      go_enter Tryd.func22, Tryd.ntmps22
      go_wp2
      go_loopw [7] (fun v wr => ∃ i : Nat, i ≤ n1 ∧ v = .int .i64 i ∧ Hid (l1.take i = l2.take i) ∧ Hid (Below w.heap.size w wr)) (fun v _ => n1 - (intOf v).toNat)
      case atStart => exact ⟨0, by omega, rfl, by show _ = _; simp, Below.refl _ _⟩
      case round =>
        obtain ⟨i, hi, rfl, HT, HB⟩ := hrel
        by_cases hin : i < n1
        · have i0 : (0 : Int) ≤ i := by omega
          have i1 : (i : Int) < n1 := by omega
          have i2 : (i : Int) < n2 := by omega
          have xg := List.getElem?_eq_getElem (l := l1) (show i < l1.length by rw [← HN1.out]; exact hin)
          have yg := List.getElem?_eq_getElem (l := l2) (show i < l2.length by rw [← HN2.out]; omega)
          generalize l1[i]'(by rw [← HN1.out]; exact hin) = xx at xg
          generalize l2[i]'(by rw [← HN2.out]; omega) = yy at yg
          obtain ⟨b, off, rfl, xh⟩ := H1.out (fun e => by rw [e] at xg; simp at xg)
          obtain ⟨b', off', rfl, yh⟩ := H2.out (fun e => by rw [e] at yg; simp at yg)
          obtain ⟨x0, x1⟩ := xx
          obtain ⟨y0, y1⟩ := yy
          have xc0 := keep_cell HB.out (xh i _ xg).1
          have xc1 := keep_cell HB.out (xh i _ xg).2
          have yc0 := keep_cell HB.out (yh i _ yg).1
          have yc1 := keep_cell HB.out (yh i _ yg).2
          clear xh yh
          have HX : Hid (l1[i]? = some (x0, x1)) := xg
          have HY : Hid (l2[i]? = some (y0, y1)) := yg
          clear xg yg
          by_cases he : (x0, x1) = (y0, y1)
          · have HS : Hid (l1.take (i + 1) = l2.take (i + 1)) := take_eq_succ HT.out HX.out (by rw [he]; exact HY.out)
            simp only [Prod.mk.injEq] at he
            obtain ⟨rfl, rfl⟩ := he
            go_wp2
            go_quiet (fail)
            go_wp2
            go_roundw
            case rel => exact ⟨i + 1, by omega, by simp, HS, bel_drewN HB.out _⟩
            case measure => simp [intOf]; omega
          · have hr : r = false := by
              rw [HRP.out]; rw [decide_eq_false_iff_not]; intro e
              have := HX.out; rw [e, List.getElem?_take, if_pos hin, HY.out] at this; exact he (Option.some.inj this).symm
            subst hr
            simp only [Prod.mk.injEq] at he
            by_cases e0 : x0 = y0
            · subst e0
              have e1 : ¬ x1 = y1 := by simpa using he
              have q1 : (x1 == y1) = false := by simpa using e1
              clear he
              go_wp2
              go_quiet (fail)
              go_wp2
              go_ret
              exact ⟨rfl, bel_drewN HB.out _⟩
            · have q0 : (x0 == y0) = false := by simpa using e0
              clear he
              go_wp2
              go_quiet (fail)
              go_wp2
              go_ret
              exact ⟨rfl, bel_drewN HB.out _⟩
        · have hie : i = n1 := by omega
          subst hie
          have hr : r = true := by
            rw [HRP.out]; rw [decide_eq_true_eq]
            have := HT.out; rw [List.take_of_length_le (by rw [← HN1.out]; omega)] at this; exact this
          subst hr
          go_wp2
          go_ret
          exact ⟨rfl, HB.out⟩
  exact main all rfl (fun h => hstart _ (fun h' => by rw [h'] at h; cases h) (fun _ h' => h'))
theorem events_to {w : World} {v1 v2 : Value} {l1 l2 : List Ev} (h1 : EvAt w v1 l1) (h2 : EvAt w v2 l2) (all : Bool) {r : Bool} (HR : Hid (r = evRef all l1 l2)) : Calls Tryd.prog 22 #[v1, v2, .bool all] w (retP (.bool r) w) := by
  obtain ⟨a1, c1, rfl, e1, f1, g1⟩ := h1
  obtain ⟨a2, c2, rfl, e2, f2, g2⟩ := h2
  exact events_walk a1 a2 _ _ c1 c2 l1 l2 all r w rfl rfl (by omega) (by omega) g1 g2 HR

set_option maxHeartbeats 1000000 in
theorem rsame_any (a b : RD) (w : World) (ha : RunAt w a) (hb' : RunAt w b) : Calls Tryd.prog 18 #[a.v, b.v] w (retP (.bool (sameR a b)) w) := by
  obtain ⟨k, x, ev, lk, st, es, ls⟩ := a
  obtain ⟨k', x', ev', lk', st', es', ls'⟩ := b
  have HA : Hid (EvAt w ev es) := ha.1
  have HB : Hid (EvAt w ev' es') := hb'.1
  clear ha hb'
  show Calls _ _ #[.agg #[.int .i64 k, .int .i64 x, ev, lk, .int .i64 st], .agg #[.int .i64 k', .int .i64 x', ev', lk', .int .i64 st']] w _
  by_cases hk : k = k'
  · subst hk
    by_cases hx : x = x'
    · subst hx
      have e : sameR ⟨k, x, ev, lk, st, es, ls⟩ ⟨k, x, ev', lk', st', es', ls'⟩ = evEq es es' := by simp [sameR]
      rw [e]; clear e
      go_enter Tryd.func18, Tryd.ntmps18
      go_wp2_with fail
      refine (events_to (EvAt.keep HA.out (by repeat (first | with_reducible exact Below.refl _ _ | with_reducible refine bel_alloc ?_ _ | with_reducible refine bel_set ?_ (by first | exact Nat.le_refl _ | (simp; done) | (simp; omega)) _ | with_reducible refine Below.drew ?_ | refine bel_trans ?_ (by assumption)))) (EvAt.keep HB.out (by repeat (first | with_reducible exact Below.refl _ _ | with_reducible refine bel_alloc ?_ _ | with_reducible refine bel_set ?_ (by first | exact Nat.le_refl _ | (simp; done) | (simp; omega)) _ | with_reducible refine Below.drew ?_ | refine bel_trans ?_ (by assumption)))) true (r := evEq es es') rfl).mono ?_
      rintro e w1 ⟨rfl, hb⟩
      go_wp2
      go_ret
      exact ⟨rfl, (by repeat (first | with_reducible exact Below.refl _ _ | with_reducible refine bel_alloc ?_ _ | with_reducible refine bel_set ?_ (by first | exact Nat.le_refl _ | (simp; done) | (simp; omega)) _ | with_reducible refine Below.drew ?_ | refine bel_trans ?_ (by assumption)))⟩
    · have hx0 : (x == x') = false := by simpa using hx
      have e : sameR ⟨k, x, ev, lk, st, es, ls⟩ ⟨k, x', ev', lk', st', es', ls'⟩ = false := by simp [sameR, hx]
      rw [e]; clear e hx
      go_enter Tryd.func18, Tryd.ntmps18
      go_wp2
      go_ret
      exact ⟨rfl, (by repeat (first | with_reducible exact Below.refl _ _ | with_reducible refine bel_alloc ?_ _ | with_reducible refine bel_set ?_ (by first | exact Nat.le_refl _ | (simp; done) | (simp; omega)) _ | with_reducible refine Below.drew ?_ | refine bel_trans ?_ (by assumption)))⟩
  · have hk0 : (k == k') = false := by simpa using hk
    have e : sameR ⟨k, x, ev, lk, st, es, ls⟩ ⟨k', x', ev', lk', st', es', ls'⟩ = false := by simp [sameR, hk]
    rw [e]; clear e hk
    go_enter Tryd.func18, Tryd.ntmps18
    go_wp2
    go_ret
    exact ⟨rfl, (by repeat (first | with_reducible exact Below.refl _ _ | with_reducible refine bel_alloc ?_ _ | with_reducible refine bel_set ?_ (by first | exact Nat.le_refl _ | (simp; done) | (simp; omega)) _ | with_reducible refine Below.drew ?_ | refine bel_trans ?_ (by assumption)))⟩


set_option maxHeartbeats 4000000 in
theorem rleaks_walk (k x st k' x' st' : Int) (ev ev' : Value) (a1 a2 : Option Addr) (n1 n2 c1 c2 : Nat) (l1 l2 : List Lk) (r : Bool) (w : World) (HN1 : Hid (n1 = l1.length)) (HN2 : Hid (n2 = l2.length)) (m1 : (n1 : Int) ≤ 9223372036854775807) (m2 : (n2 : Int) ≤ 9223372036854775807) (h1 : LkL w a1 l1) (h2 : LkL w a2 l2) (HR : Hid (r = (decide (k = k') && lkEq l1 l2))) :
    Calls Tryd.prog 20 #[.agg #[.int .i64 k, .int .i64 x, ev, .slice a1 n1 c1, .int .i64 st], .agg #[.int .i64 k', .int .i64 x', ev', .slice a2 n2 c2, .int .i64 st']] w (retP (.bool r) w) := by
  have H1 : Hid (LkL w a1 l1) := h1
  have H2 : Hid (LkL w a2 l2) := h2
  clear h1 h2
  by_cases hk : k = k'
  · subst hk
    have HRL : Hid (r = lkEq l1 l2) := by show _ = _; rw [HR.out]; simp
    clear HR
    by_cases hn : n1 = n2
    · subst hn
      have fin : ∀ wr, Below ((w.alloc (.cells #[.int .i64 k, .int .i64 x, ev, .slice a1 n1 c1, .int .i64 st] 27)).alloc (.cells #[.int .i64 k, .int .i64 x', ev', .slice a2 n1 c2, .int .i64 st'] 27)).heap.size ((w.alloc (.cells #[.int .i64 k, .int .i64 x, ev, .slice a1 n1 c1, .int .i64 st] 27)).alloc (.cells #[.int .i64 k, .int .i64 x', ev', .slice a2 n1 c2, .int .i64 st'] 27)) wr → Below w.heap.size w wr := fun wr h => bel_trans (bel_alloc (bel_alloc (Below.refl _ _) _) _) h
      go_enter Tryd.func20, Tryd.ntmps20
      go_wp2
      go_loopw [5] (fun v wr => ∃ i : Nat, i ≤ n1 ∧ v = .int .i64 i ∧ Hid (l1.take i = l2.take i) ∧ Hid (Below ((w.alloc (.cells #[.int .i64 k, .int .i64 x, ev, .slice a1 n1 c1, .int .i64 st] 27)).alloc (.cells #[.int .i64 k, .int .i64 x', ev', .slice a2 n1 c2, .int .i64 st'] 27)).heap.size ((w.alloc (.cells #[.int .i64 k, .int .i64 x, ev, .slice a1 n1 c1, .int .i64 st] 27)).alloc (.cells #[.int .i64 k, .int .i64 x', ev', .slice a2 n1 c2, .int .i64 st'] 27)) wr)) (fun v _ => n1 - (intOf v).toNat)
      case atStart => exact ⟨0, by omega, rfl, by show _ = _; simp, by show Below _ _ _; exact Below.refl _ _⟩
      case round =>
        obtain ⟨i, hi, rfl, HT, HB⟩ := hrel
        have t3 : wr.cell? ⟨w.heap.size, 3, none⟩ = some (.slice a1 n1 c1) := keep_cell HB.out (by go_simp)
        have s3 : wr.cell? ⟨w.heap.size + 1, 3, none⟩ = some (.slice a2 n1 c2) := keep_cell HB.out (by go_simp)
        by_cases hin : i < n1
        · have i0 : (0 : Int) ≤ i := by omega
          have i1 : (i : Int) < n1 := by omega
          have xg := List.getElem?_eq_getElem (l := l1) (show i < l1.length by rw [← HN1.out]; exact hin)
          have yg := List.getElem?_eq_getElem (l := l2) (show i < l2.length by rw [← HN2.out]; exact hin)
          generalize l1[i]'(by rw [← HN1.out]; exact hin) = xx at xg
          generalize l2[i]'(by rw [← HN2.out]; exact hin) = yy at yg
          obtain ⟨b, off, rfl, xh⟩ := H1.out (fun e => by rw [e] at xg; simp at xg)
          obtain ⟨b', off', rfl, yh⟩ := H2.out (fun e => by rw [e] at yg; simp at yg)
          obtain ⟨x0, x1, x2⟩ := xx
          obtain ⟨y0, y1, y2⟩ := yy
          have hbw := fin _ HB.out
          have xc0 := keep_cell hbw (xh i _ xg).1
          have xc1 := keep_cell hbw (xh i _ xg).2.1
          have xc2 := keep_cell hbw (xh i _ xg).2.2
          have yc0 := keep_cell hbw (yh i _ yg).1
          have yc1 := keep_cell hbw (yh i _ yg).2.1
          have yc2 := keep_cell hbw (yh i _ yg).2.2
          clear xh yh hbw
          have HX : Hid (l1[i]? = some (x0, x1, x2)) := xg
          have HY : Hid (l2[i]? = some (y0, y1, y2)) := yg
          clear xg yg
          by_cases he : (x0, x1, x2) = (y0, y1, y2)
          · have HS : Hid (l1.take (i + 1) = l2.take (i + 1)) := take_eq_succ HT.out HX.out (by rw [he]; exact HY.out)
            simp only [Prod.mk.injEq] at he
            obtain ⟨rfl, rfl, rfl⟩ := he
            go_wp2
            go_quiet (fail)
            go_wp2
            go_roundw
            case rel => exact ⟨i + 1, by omega, by simp, HS, bel_drewN HB.out _⟩
            case measure => simp [intOf]; omega
          · have hr : r = false := by
              rw [HRL.out]; unfold lkEq; rw [decide_eq_false_iff_not]; intro e
              have := HX.out; rw [e, HY.out] at this; exact he (Option.some.inj this).symm
            subst hr
            simp only [Prod.mk.injEq] at he
            by_cases e0 : x0 = y0
            · subst e0
              by_cases e1 : x1 = y1
              · subst e1
                have e2 : ¬ x2 = y2 := by simpa using he
                have q2 : (x2 == y2) = false := by simpa using e2
                clear he
                go_wp2
                go_quiet (fail)
                go_wp2
                go_ret
                exact ⟨rfl, fin _ (bel_drewN HB.out _)⟩
              · have q1 : (x1 == y1) = false := by simpa using e1
                clear he
                go_wp2
                go_quiet (fail)
                go_wp2
                go_ret
                exact ⟨rfl, fin _ (bel_drewN HB.out _)⟩
            · have q0 : (x0 == y0) = false := by simpa using e0
              clear he
              go_wp2
              go_quiet (fail)
              go_wp2
              go_ret
              exact ⟨rfl, fin _ (bel_drewN HB.out _)⟩
        · have hie : i = n1 := by omega
          subst hie
          have hr : r = true := by
            rw [HRL.out]; unfold lkEq; rw [decide_eq_true_eq]
            have := HT.out; rw [List.take_of_length_le (by rw [← HN1.out]; omega), List.take_of_length_le (by rw [← HN2.out]; omega)] at this; exact this
          subst hr
          go_wp2
          go_ret
          exact ⟨rfl, fin _ HB.out⟩
    · have hr : r = false := by
        rw [HRL.out]; unfold lkEq; rw [decide_eq_false_iff_not]; intro e
        exact hn (by rw [HN1.out, HN2.out, e])
      subst hr
      have gne : ((n1 : Int) == n2) = false := by simp; omega
      have gne' : ((n1 : Int) != n2) = true := by simp; omega
      go_enter Tryd.func20, Tryd.ntmps20
      go_wp2
      go_ret
      exact ⟨rfl, (by repeat (first | with_reducible exact Below.refl _ _ | with_reducible refine bel_alloc ?_ _ | with_reducible refine bel_set ?_ (by first | exact Nat.le_refl _ | (simp; done) | (simp; omega)) _ | with_reducible refine Below.drew ?_ | refine bel_trans ?_ (by assumption)))⟩
  · have hr : r = false := by rw [HR.out]; simp [hk]
    subst hr
    have gk : (k == k') = false := by simpa using hk
    have gk' : (k != k') = true := by simpa using hk
    go_enter Tryd.func20, Tryd.ntmps20
    go_wp2
    go_ret
    exact ⟨rfl, (by repeat (first | with_reducible exact Below.refl _ _ | with_reducible refine bel_alloc ?_ _ | with_reducible refine bel_set ?_ (by first | exact Nat.le_refl _ | (simp; done) | (simp; omega)) _ | with_reducible refine Below.drew ?_ | refine bel_trans ?_ (by assumption)))⟩
theorem rleaks_any (a b : RD) (w : World) (ha : RunAt w a) (hb : RunAt w b) : Calls Tryd.prog 20 #[a.v, b.v] w (retP (.bool (leaksR a b)) w) := by
  obtain ⟨k, x, ev, lk, st, es, ls⟩ := a
  obtain ⟨k', x', ev', lk', st', es', ls'⟩ := b
  obtain ⟨_, ⟨a1, c1, h1, e1, f1, g1⟩⟩ := ha
  obtain ⟨_, ⟨a2, c2, h2, e2, f2, g2⟩⟩ := hb
  simp only [] at h1 h2
  subst h1 h2
  exact rleaks_walk k x st k' x' st' ev ev' a1 a2 _ _ c1 c2 ls ls' _ w rfl rfl (by simp only [] at *; omega) (by simp only [] at *; omega) g1 g2 rfl

end Go.Proofs.YtdibjidjocmfhaaDoor
