/- Rows of events and of leaks in memory; contracts of slices.Equal over them. -/
import Derived.Test.YtokdnjnkgflbcaaDoorTLeaf
import Derived.Laws.StructEq
import Derived.Deep.QuietTactic
import Derived.BigQuiet
import Derived.LoopTactic
namespace Go.Proofs.YtokdnjnkgflbcaaDoor
open Go.ChangeShapes Go.WideShapes Go.ChangeAt Go.RowKit Pl
set_option linter.unusedSimpArgs false
set_option linter.unusedVariables false

abbrev Ev := Int × Int
abbrev Lk := Int × Int × Int
/-- The cells of a row of events, from that address on. -/
def EvL (w : World) (a : Option Addr) (l : List Ev) : Prop := l ≠ [] → ∃ b off : Nat, a = some ⟨b, off, none⟩ ∧ ∀ (i : Nat) (x : Ev), l[i]? = some x → w.cell? ⟨b, off + i * 2, none⟩ = some (.int .i64 x.1) ∧ w.cell? ⟨b, off + i * 2 + 1, none⟩ = some (.int .i64 x.2)
/-- The cells of a row of leaks, from that address on. -/
def LkL (w : World) (a : Option Addr) (l : List Lk) : Prop := l ≠ [] → ∃ b off : Nat, a = some ⟨b, off, none⟩ ∧ ∀ (i : Nat) (x : Lk), l[i]? = some x → w.cell? ⟨b, off + i * 3, none⟩ = some (.int .i64 x.1) ∧ w.cell? ⟨b, off + i * 3 + 1, none⟩ = some (.int .i64 x.2.1) ∧ w.cell? ⟨b, off + i * 3 + 2, none⟩ = some (.int .i64 x.2.2)
/-- The value is a slice that holds these events. -/
def EvAt (w : World) (v : Value) (l : List Ev) : Prop := ∃ (a : Option Addr) (cap : Nat), v = .slice a l.length cap ∧ l.length ≤ cap ∧ (cap : Int) ≤ 9223372036854775807 ∧ EvL w a l
def LkAt (w : World) (v : Value) (l : List Lk) : Prop := ∃ (a : Option Addr) (cap : Nat), v = .slice a l.length cap ∧ l.length ≤ cap ∧ (cap : Int) ≤ 9223372036854775807 ∧ LkL w a l
theorem EvL.keep {w w' : World} {a : Option Addr} {l : List Ev} (h : EvL w a l) (hb : Below w.heap.size w w') : EvL w' a l := fun hl => by
  obtain ⟨b, off, rfl, hc⟩ := h hl
  exact ⟨b, off, rfl, fun i x hx => ⟨keep_cell hb (hc i x hx).1, keep_cell hb (hc i x hx).2⟩⟩
theorem LkL.keep {w w' : World} {a : Option Addr} {l : List Lk} (h : LkL w a l) (hb : Below w.heap.size w w') : LkL w' a l := fun hl => by
  obtain ⟨b, off, rfl, hc⟩ := h hl
  exact ⟨b, off, rfl, fun i x hx => ⟨keep_cell hb (hc i x hx).1, keep_cell hb (hc i x hx).2.1, keep_cell hb (hc i x hx).2.2⟩⟩
theorem EvAt.keep {w w' : World} {v : Value} {l : List Ev} (h : EvAt w v l) (hb : Below w.heap.size w w') : EvAt w' v l := by
  obtain ⟨a, cap, hv, h1, h2, h3⟩ := h
  exact ⟨a, cap, hv, h1, h2, h3.keep hb⟩
theorem LkAt.keep {w w' : World} {v : Value} {l : List Lk} (h : LkAt w v l) (hb : Below w.heap.size w w') : LkAt w' v l := by
  obtain ⟨a, cap, hv, h1, h2, h3⟩ := h
  exact ⟨a, cap, hv, h1, h2, h3.keep hb⟩
theorem bel_drewN {B : Nat} {a w : World} (h : Below B a w) (n : Nat) : Below B a (w.drewN n) := ⟨h.os, h.tape, h.output, h.size, h.block⟩
def evEq (l m : List Ev) : Bool := decide (l = m)
def lkEq (l m : List Lk) : Bool := decide (l = m)
theorem take_eq_succ {α : Type} {l m : List α} {i : Nat} {x : α} (h : l.take i = m.take i) (h1 : l[i]? = some x) (h2 : m[i]? = some x) : l.take (i + 1) = m.take (i + 1) := by
  rw [List.take_add_one, List.take_add_one, h, h1, h2]


set_option maxHeartbeats 1000000 in
theorem equalE_walk (a1 a2 : Option Addr) (n1 n2 c1 c2 : Nat) (l1 l2 : List Ev) (r : Bool) (w : World) (HN1 : Hid (n1 = l1.length)) (HN2 : Hid (n2 = l2.length)) (m1 : (n1 : Int) ≤ 9223372036854775807) (m2 : (n2 : Int) ≤ 9223372036854775807) (h1 : EvL w a1 l1) (h2 : EvL w a2 l2) (HR : Hid (r = evEq l1 l2)) :
    Calls Tryd.prog 32 #[.slice a1 n1 c1, .slice a2 n2 c2] w (retP (.bool r) w) := by
  have H1 : Hid (EvL w a1 l1) := h1
  have H2 : Hid (EvL w a2 l2) := h2
  clear h1 h2
  by_cases hn : n1 = n2
  · subst hn
    go_enter Tryd.func32, Tryd.ntmps32
    go_wp2
    go_loopw [13] (fun v wr => ∃ i : Nat, i ≤ n1 ∧ v = .int .i64 i ∧ Hid (l1.take i = l2.take i) ∧ Hid (Below w.heap.size w wr)) (fun v _ => n1 - (intOf v).toNat)
    case atStart => exact ⟨0, by omega, rfl, by show _ = _; simp, Below.refl _ _⟩
    case round =>
      obtain ⟨i, hi, rfl, HT, HB⟩ := hrel
      by_cases hin : i < n1
      · have i0 : (0 : Int) ≤ i := by omega
        have i1 : (i : Int) < n1 := by omega
        have xg := List.getElem?_eq_getElem (l := l1) (show i < l1.length by rw [← HN1.out]; exact hin)
        have yg := List.getElem?_eq_getElem (l := l2) (show i < l2.length by rw [← HN2.out]; exact hin)
        generalize l1[i]'(by rw [← HN1.out]; exact hin) = xx at xg
        generalize l2[i]'(by rw [← HN2.out]; exact hin) = yy at yg
        obtain ⟨b, off, rfl, xh⟩ := H1.out (fun e => by rw [e] at xg; simp at xg)
        obtain ⟨b', off', rfl, yh⟩ := H2.out (fun e => by rw [e] at yg; simp at yg)
        obtain ⟨x0, x1⟩ := xx
        obtain ⟨y0, y1⟩ := yy
        have xc0 := keep_cell HB.out (xh i _ xg).1
        have xc1 := keep_cell HB.out (xh i _ xg).2
        have yc0 := keep_cell HB.out (yh i _ yg).1
        have yc1 := keep_cell HB.out (yh i _ yg).2
        clear xh yh
        have HX : Hid (l1[i]? = some (x0, x1)) := xg
        have HY : Hid (l2[i]? = some (y0, y1)) := yg
        clear xg yg
        by_cases he : (x0, x1) = (y0, y1)
        · have HS : Hid (l1.take (i + 1) = l2.take (i + 1)) := take_eq_succ HT.out HX.out (by rw [he]; exact HY.out)
          simp only [Prod.mk.injEq] at he
          obtain ⟨rfl, rfl⟩ := he
          go_wp2
          go_quiet (fail)
          go_wp2
          go_roundw
          case rel => exact ⟨i + 1, by omega, by simp, HS, bel_drewN HB.out _⟩
          case measure => simp [intOf]; omega
        · have hr : r = false := by
            rw [HR.out]; unfold evEq; rw [decide_eq_false_iff_not]; intro e
            have := HX.out; rw [e, HY.out] at this; exact he (Option.some.inj this).symm
          subst hr
          simp only [Prod.mk.injEq] at he
          by_cases e0 : x0 = y0
          · subst e0
            have e1 : ¬ x1 = y1 := by simpa using he
            have q1 : (x1 == y1) = false := by simpa using e1
            clear he
            go_wp2
            go_quiet (fail)
            go_wp2
            go_ret
            exact ⟨rfl, bel_drewN HB.out _⟩
          · have q0 : (x0 == y0) = false := by simpa using e0
            clear he
            go_wp2
            go_quiet (fail)
            go_wp2
            go_ret
            exact ⟨rfl, bel_drewN HB.out _⟩
      · have hie : i = n1 := by omega
        subst hie
        have hr : r = true := by
          rw [HR.out]; unfold evEq; rw [decide_eq_true_eq]
          have := HT.out; rw [List.take_of_length_le (by rw [← HN1.out]; omega), List.take_of_length_le (by rw [← HN2.out]; omega)] at this; exact this
        subst hr
        go_wp2
        go_ret
        exact ⟨rfl, HB.out⟩
  · have hr : r = false := by
      rw [HR.out]; unfold evEq; rw [decide_eq_false_iff_not]; intro e
      exact hn (by rw [HN1.out, HN2.out, e])
    subst hr
    go_enter Tryd.func32, Tryd.ntmps32
    go_wp2
    go_ret
    exact ⟨rfl, Below.refl _ _⟩


set_option maxHeartbeats 1000000 in
theorem equalK_walk (a1 a2 : Option Addr) (n1 n2 c1 c2 : Nat) (l1 l2 : List Lk) (r : Bool) (w : World) (HN1 : Hid (n1 = l1.length)) (HN2 : Hid (n2 = l2.length)) (m1 : (n1 : Int) ≤ 9223372036854775807) (m2 : (n2 : Int) ≤ 9223372036854775807) (h1 : LkL w a1 l1) (h2 : LkL w a2 l2) (HR : Hid (r = lkEq l1 l2)) :
    Calls Tryd.prog 34 #[.slice a1 n1 c1, .slice a2 n2 c2] w (retP (.bool r) w) := by
  have H1 : Hid (LkL w a1 l1) := h1
  have H2 : Hid (LkL w a2 l2) := h2
  clear h1 h2
  by_cases hn : n1 = n2
  · subst hn
    go_enter Tryd.func34, Tryd.ntmps34
    go_wp2
    go_loopw [13] (fun v wr => ∃ i : Nat, i ≤ n1 ∧ v = .int .i64 i ∧ Hid (l1.take i = l2.take i) ∧ Hid (Below w.heap.size w wr)) (fun v _ => n1 - (intOf v).toNat)
    case atStart => exact ⟨0, by omega, rfl, by show _ = _; simp, Below.refl _ _⟩
    case round =>
      obtain ⟨i, hi, rfl, HT, HB⟩ := hrel
      by_cases hin : i < n1
      · have i0 : (0 : Int) ≤ i := by omega
        have i1 : (i : Int) < n1 := by omega
        have xg := List.getElem?_eq_getElem (l := l1) (show i < l1.length by rw [← HN1.out]; exact hin)
        have yg := List.getElem?_eq_getElem (l := l2) (show i < l2.length by rw [← HN2.out]; exact hin)
        generalize l1[i]'(by rw [← HN1.out]; exact hin) = xx at xg
        generalize l2[i]'(by rw [← HN2.out]; exact hin) = yy at yg
        obtain ⟨b, off, rfl, xh⟩ := H1.out (fun e => by rw [e] at xg; simp at xg)
        obtain ⟨b', off', rfl, yh⟩ := H2.out (fun e => by rw [e] at yg; simp at yg)
        obtain ⟨x0, x1, x2⟩ := xx
        obtain ⟨y0, y1, y2⟩ := yy
        have xc0 := keep_cell HB.out (xh i _ xg).1
        have xc1 := keep_cell HB.out (xh i _ xg).2.1
        have xc2 := keep_cell HB.out (xh i _ xg).2.2
        have yc0 := keep_cell HB.out (yh i _ yg).1
        have yc1 := keep_cell HB.out (yh i _ yg).2.1
        have yc2 := keep_cell HB.out (yh i _ yg).2.2
        clear xh yh
        have HX : Hid (l1[i]? = some (x0, x1, x2)) := xg
        have HY : Hid (l2[i]? = some (y0, y1, y2)) := yg
        clear xg yg
        by_cases he : (x0, x1, x2) = (y0, y1, y2)
        · have HS : Hid (l1.take (i + 1) = l2.take (i + 1)) := take_eq_succ HT.out HX.out (by rw [he]; exact HY.out)
          simp only [Prod.mk.injEq] at he
          obtain ⟨rfl, rfl, rfl⟩ := he
          go_wp2
          go_quiet (fail)
          go_wp2
          go_roundw
          case rel => exact ⟨i + 1, by omega, by simp, HS, bel_drewN HB.out _⟩
          case measure => simp [intOf]; omega
        · have hr : r = false := by
            rw [HR.out]; unfold lkEq; rw [decide_eq_false_iff_not]; intro e
            have := HX.out; rw [e, HY.out] at this; exact he (Option.some.inj this).symm
          subst hr
          simp only [Prod.mk.injEq] at he
          by_cases e0 : x0 = y0
          · subst e0
            by_cases e1 : x1 = y1
            · subst e1
              have e2 : ¬ x2 = y2 := by simpa using he
              have q2 : (x2 == y2) = false := by simpa using e2
              clear he
              go_wp2
              go_quiet (fail)
              go_wp2
              go_ret
              exact ⟨rfl, bel_drewN HB.out _⟩
            · have q1 : (x1 == y1) = false := by simpa using e1
              clear he
              go_wp2
              go_quiet (fail)
              go_wp2
              go_ret
              exact ⟨rfl, bel_drewN HB.out _⟩
          · have q0 : (x0 == y0) = false := by simpa using e0
            clear he
            go_wp2
            go_quiet (fail)
            go_wp2
            go_ret
            exact ⟨rfl, bel_drewN HB.out _⟩
      · have hie : i = n1 := by omega
        subst hie
        have hr : r = true := by
          rw [HR.out]; unfold lkEq; rw [decide_eq_true_eq]
          have := HT.out; rw [List.take_of_length_le (by rw [← HN1.out]; omega), List.take_of_length_le (by rw [← HN2.out]; omega)] at this; exact this
        subst hr
        go_wp2
        go_ret
        exact ⟨rfl, HB.out⟩
  · have hr : r = false := by
      rw [HR.out]; unfold lkEq; rw [decide_eq_false_iff_not]; intro e
      exact hn (by rw [HN1.out, HN2.out, e])
    subst hr
    go_enter Tryd.func34, Tryd.ntmps34
    go_wp2
    go_ret
    exact ⟨rfl, Below.refl _ _⟩

end Go.Proofs.YtokdnjnkgflbcaaDoor
