
import Derived.Test.YtncondlfngeilaaGreatDoorTzA
import Derived.Test.YtncondlfngeilaaGreatDoorTzD
import Derived.BigQuiet
import Derived.Deep.QuietTactic
namespace Go.Proofs.YtncondlfngeilaaGreatDoor
open Go.ChangeShapes Go.WideShapes Go.ChangeAt Go.RowKit Go.Proofs.Tryz
set_option linter.unusedSimpArgs false
set_option linter.unusedVariables false
set_option maxRecDepth 100000
set_option maxHeartbeats 40000000

theorem bel_drewN {B : Nat} {a w : World} (h : Below B a w) (n : Nat) : Below B a (w.drewN n) := ⟨h.os, h.tape, h.output, h.size, h.block⟩
def inB (m x : Int) : Bool := !(decide (x < 0) || decide (m ≤ x))
def subOk (op sub k frame : Int) : Bool :=
 if op = 4 then decide (1 ≤ sub) && decide (sub ≤ 4) else if op = 5 then decide (11 ≤ sub) && decide (sub ≤ 26) else if op = 11 then decide (21 ≤ sub) && decide (sub ≤ 26)
 else if op = 6 ∨ op = 7 then sub == 1 || sub == 4 || sub == 8 else if op = 9 then decide (0 ≤ k) && decide (k ≤ frame) else decide (1 ≤ op ∧ op ≤ 14)
def lackL (na nb nd : Bool) (op a b d wr : Int) : Bool := ((na && a == -1) || (nb && b == -1) || (nd && wr == -1)) || (op == 10 && decide (d < -1))
def rightL (na nb nd : Bool) (op sub a b d k wr regs frame n : Int) (u s : List Int) : Bool :=
 !lackL na nb nd op a b d wr && (u.all (inB regs) && (!(decide (regs ≤ wr) || decide (wr < -1)) && (s.all (inB n) && subOk op sub k frame)))
theorem rt_boxes {name : ByteArray} {pv : Value} {regs frame entry : Int} {ca : Option Addr} {n cap : Nat} {op sub a b d k : Int} {v : Value} {s t : Int} {w W : World} (hb : Below ((w.alloc (.cells #[.string name, pv, .int .i64 regs, .int .i64 frame, .int .i64 entry, .slice ca n cap] 25 (0, 0))).alloc (.cells #[.int .i64 op, .int .i64 sub, .int .i64 a, .int .i64 b, .int .i64 d, .int .i64 k, v, .int .i64 s, .int .i64 t] 38 (0, 0))).heap.size ((w.alloc (.cells #[.string name, pv, .int .i64 regs, .int .i64 frame, .int .i64 entry, .slice ca n cap] 25 (0, 0))).alloc (.cells #[.int .i64 op, .int .i64 sub, .int .i64 a, .int .i64 b, .int .i64 d, .int .i64 k, v, .int .i64 s, .int .i64 t] 38 (0, 0))) W) :
  W.cell? ⟨w.heap.size, 2, none⟩ = some (.int .i64 regs) ∧ W.cell? ⟨w.heap.size, 3, none⟩ = some (.int .i64 frame) ∧ W.cell? ⟨w.heap.size, 5, none⟩ = some (.slice ca n cap) ∧ W.cell? ⟨w.heap.size + 1, 0, none⟩ = some (.int .i64 op) ∧ W.cell? ⟨w.heap.size + 1, 1, none⟩ = some (.int .i64 sub) ∧ W.cell? ⟨w.heap.size + 1, 2, none⟩ = some (.int .i64 a) ∧ W.cell? ⟨w.heap.size + 1, 3, none⟩ = some (.int .i64 b) ∧ W.cell? ⟨w.heap.size + 1, 4, none⟩ = some (.int .i64 d) ∧ W.cell? ⟨w.heap.size + 1, 5, none⟩ = some (.int .i64 k) ∧ W.cell? ⟨w.heap.size + 1, 6, none⟩ = some (v) ∧ W.cell? ⟨w.heap.size + 1, 7, none⟩ = some (.int .i64 s) ∧ W.cell? ⟨w.heap.size + 1, 8, none⟩ = some (.int .i64 t) := by
 refine ⟨keep_cell hb (by simp), keep_cell hb (by simp), keep_cell hb (by simp), keep_cell hb (by simp), keep_cell hb (by simp), keep_cell hb (by simp), keep_cell hb (by simp), keep_cell hb (by simp), keep_cell hb (by simp), keep_cell hb (by simp), keep_cell hb (by simp), keep_cell hb (by simp)⟩
theorem all_bad {f : Int → Bool} {l : List Int} {i : Nat} {x : Int} (h : l[i]? = some x) (hx : f x = false) : l.all f = false := by
 rw [List.all_eq_false];exact ⟨x, List.mem_of_getElem? h, by simp [hx]⟩
theorem all_good {f : Int → Bool} {l : List Int} {n : Nat} (hn : n = l.length) (h : ∀ j x, j < n → l[j]? = some x → f x = true) : l.all f = true := by
 rw [List.all_eq_true];intro x hx;obtain ⟨j, hj⟩ := List.getElem?_of_mem hx;exact h j x (by rw [hn]; exact (List.getElem?_eq_some_iff.1 hj).1) hj
theorem all_step {f : Int → Bool} {l : List Int} {i : Nat} {x : Int} (hget : l[i]? = some x) (hf : f x = true) (h : ∀ j y, j < i → l[j]? = some y → f y = true) : ∀ j y, j < i + 1 → l[j]? = some y → f y = true := fun j y hj hy => by
 by_cases e : j = i
 ·subst e; rw [hget] at hy; cases hy; exact hf
 ·exact h j y (by omega) hy
theorem IL.parts {w : World} {v : Value} {l : List Int} (h : IL w v l) : ∃ (a : Option Addr) (cap b off : Nat), v = .slice a l.length cap ∧ l.length * 8 ≤ 140737488355328 ∧ (0 < l.length → a = some ⟨b, off, none⟩) ∧ ∀ (i : Nat) x, l[i]? = some x → w.cell? ⟨b, off + i, none⟩ = some (.int .i64 x) := by
 obtain ⟨a, cap, hv, h1, h0, h2⟩ := h
 by_cases hl : l = []
 ·exact ⟨a, cap, 0, 0, hv, h1, (fun h => by rw [hl] at h; simp at h), fun i x hx => by rw [hl] at hx; simp at hx⟩
 ·obtain ⟨b, off, e, hc⟩ := h2 hl
  exact ⟨a, cap, b, off, hv, h1, fun _ => e, hc⟩

theorem hid {p : Prop} (h : p) : Hid p := h
theorem right_walk (name : ByteArray) (pv : Value) (regs frame entry : Int) (ca : Option Addr) (n cap : Nat) (op sub a b d k : Int) (v : Value) (s t : Int) (na nb nd : Bool) (wr : Int) (u sL : List Int) (r : Bool) (w : World) (hn : n * 88 ≤ 140737488355328)
  (HN : Hid (∀ W, Calls prog 33 #[.agg #[.int .i64 op, .int .i64 sub, .int .i64 a, .int .i64 b, .int .i64 d, .int .i64 k, v, .int .i64 s, .int .i64 t]] W (retP (.tuple #[.bool na, .bool nb, .bool nd]) W)))
  (HW : Hid (∀ W, Calls prog 34 #[.agg #[.int .i64 op, .int .i64 sub, .int .i64 a, .int .i64 b, .int .i64 d, .int .i64 k, v, .int .i64 s, .int .i64 t]] W (retP (.int .i64 wr) W)))
  (HU : Hid (∀ W, Below w.heap.size w W → Calls prog 35 #[.agg #[.int .i64 op, .int .i64 sub, .int .i64 a, .int .i64 b, .int .i64 d, .int .i64 k, v, .int .i64 s, .int .i64 t]] W (retI u W)))
  (HS : Hid (∀ W, Calls prog 36 #[.agg #[.int .i64 op, .int .i64 sub, .int .i64 a, .int .i64 b, .int .i64 d, .int .i64 k, v, .int .i64 s, .int .i64 t]] W (retI sL W)))
  (HE : Hid (r = rightL na nb nd op sub a b d k wr regs frame n u sL)) :
  Calls prog 19 #[.agg #[.string name, pv, .int .i64 regs, .int .i64 frame, .int .i64 entry, .slice ca n cap], .agg #[.int .i64 op, .int .i64 sub, .int .i64 a, .int .i64 b, .int .i64 d, .int .i64 k, v, .int .i64 s, .int .i64 t]] w (retP (.bool r) w) := by
 obtain ⟨c1, hc1⟩ : ∃ c, c = lackL na nb nd op a b d wr := ⟨_, rfl⟩;have HC1 : Hid (c1 = lackL na nb nd op a b d wr) := hc1;clear hc1;have hn1 : (n : Int) ≤ 9223372036854775807 := by omega
 go_enter func19, ntmps19
 go_upto_region 2 with (go_at_call 33; refine (HN.out _).mono ?_; rintro e w1 ⟨rfl, hb1⟩; obtain ⟨f2, f3, f5, i0, i1, i2, i3, i4, i5, i6, i7, i8⟩ := rt_boxes hb1; have HB1 := hid hb1; clear hb1)
 go_cut [49] (fun sv w' => sv = .bool c1 ∧ Hid (Below ((w.alloc (.cells #[.string name, pv, .int .i64 regs, .int .i64 frame, .int .i64 entry, .slice ca n cap] 25 (0, 0))).alloc (.cells #[.int .i64 op, .int .i64 sub, .int .i64 a, .int .i64 b, .int .i64 d, .int .i64 k, v, .int .i64 s, .int .i64 t] 38 (0, 0))).heap.size ((w.alloc (.cells #[.string name, pv, .int .i64 regs, .int .i64 frame, .int .i64 entry, .slice ca n cap] 25 (0, 0))).alloc (.cells #[.int .i64 op, .int .i64 sub, .int .i64 a, .int .i64 b, .int .i64 d, .int .i64 k, v, .int .i64 s, .int .i64 t] 38 (0, 0))) w'))
 case first =>
  cases na with
  | true =>
   by_cases hqa : (a == -1) = true
   ·have qa := hqa
    clear hqa;have ec : c1 = true := by rw [HC1.out]; simp only [lackL, Bool.true_and, Bool.false_and, Bool.or_true, Bool.true_or, Bool.or_false, Bool.false_or, *]
    clear HC1
    go_wp2_with (go_at_call 34; refine (HW.out _).mono ?_; rintro e w2 ⟨rfl, hb2⟩; replace HB1 := hid (bel_trans HB1.out hb2); obtain ⟨f2, f3, f5, i0, i1, i2, i3, i4, i5, i6, i7, i8⟩ := rt_boxes HB1.out; clear hb2)
    go_meet
    case rel => exact ⟨by rw [ec], HB1⟩
   ·have qa : (a == -1) = false := by simpa using hqa
    clear hqa
    cases nb with
    | true =>
     by_cases hqb : (b == -1) = true
     ·have qb := hqb
      clear hqb;have ec : c1 = true := by rw [HC1.out]; simp only [lackL, Bool.true_and, Bool.false_and, Bool.or_true, Bool.true_or, Bool.or_false, Bool.false_or, *]
      clear HC1
      go_wp2_with (go_at_call 34; refine (HW.out _).mono ?_; rintro e w2 ⟨rfl, hb2⟩; replace HB1 := hid (bel_trans HB1.out hb2); obtain ⟨f2, f3, f5, i0, i1, i2, i3, i4, i5, i6, i7, i8⟩ := rt_boxes HB1.out; clear hb2)
      go_meet
      case rel => exact ⟨by rw [ec], HB1⟩
     ·have qb : (b == -1) = false := by simpa using hqb
      clear hqb
      cases nd with
      | true =>
       by_cases hqw : (wr == -1) = true
       ·have qw := hqw
        clear hqw;have ec : c1 = true := by rw [HC1.out]; simp only [lackL, Bool.true_and, Bool.false_and, Bool.or_true, Bool.true_or, Bool.or_false, Bool.false_or, *]
        clear HC1
        go_wp2_with (go_at_call 34; refine (HW.out _).mono ?_; rintro e w2 ⟨rfl, hb2⟩; replace HB1 := hid (bel_trans HB1.out hb2); obtain ⟨f2, f3, f5, i0, i1, i2, i3, i4, i5, i6, i7, i8⟩ := rt_boxes HB1.out; clear hb2)
        go_meet
        case rel => exact ⟨by rw [ec], HB1⟩
       ·have qw : (wr == -1) = false := by simpa using hqw
        clear hqw
        by_cases hqo : (op == 10) = true
        ·have qo := hqo
         clear hqo
         by_cases hqd : (decide (d < -1)) = true
         ·have qd := hqd
          clear hqd;have ec : c1 = true := by rw [HC1.out]; simp only [lackL, Bool.true_and, Bool.false_and, Bool.or_true, Bool.true_or, Bool.or_false, Bool.false_or, *]
          clear HC1
          go_wp2_with (go_at_call 34; refine (HW.out _).mono ?_; rintro e w2 ⟨rfl, hb2⟩; replace HB1 := hid (bel_trans HB1.out hb2); obtain ⟨f2, f3, f5, i0, i1, i2, i3, i4, i5, i6, i7, i8⟩ := rt_boxes HB1.out; clear hb2)
          go_meet
          case rel => exact ⟨by rw [ec], HB1⟩
         ·have qd : (decide (d < -1)) = false := by simpa using hqd
          clear hqd;have ec : c1 = false := by rw [HC1.out]; simp only [lackL, Bool.true_and, Bool.false_and, Bool.or_true, Bool.true_or, Bool.or_false, Bool.false_or, *]
          clear HC1
          go_wp2_with (go_at_call 34; refine (HW.out _).mono ?_; rintro e w2 ⟨rfl, hb2⟩; replace HB1 := hid (bel_trans HB1.out hb2); obtain ⟨f2, f3, f5, i0, i1, i2, i3, i4, i5, i6, i7, i8⟩ := rt_boxes HB1.out; clear hb2)
          go_meet
          case rel => exact ⟨by rw [ec], HB1⟩
        ·have qo : (op == 10) = false := by simpa using hqo
         clear hqo;have ec : c1 = false := by rw [HC1.out]; simp only [lackL, Bool.true_and, Bool.false_and, Bool.or_true, Bool.true_or, Bool.or_false, Bool.false_or, *]
         clear HC1
         go_wp2_with (go_at_call 34; refine (HW.out _).mono ?_; rintro e w2 ⟨rfl, hb2⟩; replace HB1 := hid (bel_trans HB1.out hb2); obtain ⟨f2, f3, f5, i0, i1, i2, i3, i4, i5, i6, i7, i8⟩ := rt_boxes HB1.out; clear hb2)
         go_meet
         case rel => exact ⟨by rw [ec], HB1⟩
      | false =>
       by_cases hqo : (op == 10) = true
       ·have qo := hqo
        clear hqo
        by_cases hqd : (decide (d < -1)) = true
        ·have qd := hqd
         clear hqd;have ec : c1 = true := by rw [HC1.out]; simp only [lackL, Bool.true_and, Bool.false_and, Bool.or_true, Bool.true_or, Bool.or_false, Bool.false_or, *]
         clear HC1
         go_wp2_with (go_at_call 34; refine (HW.out _).mono ?_; rintro e w2 ⟨rfl, hb2⟩; replace HB1 := hid (bel_trans HB1.out hb2); obtain ⟨f2, f3, f5, i0, i1, i2, i3, i4, i5, i6, i7, i8⟩ := rt_boxes HB1.out; clear hb2)
         go_meet
         case rel => exact ⟨by rw [ec], HB1⟩
        ·have qd : (decide (d < -1)) = false := by simpa using hqd
         clear hqd;have ec : c1 = false := by rw [HC1.out]; simp only [lackL, Bool.true_and, Bool.false_and, Bool.or_true, Bool.true_or, Bool.or_false, Bool.false_or, *]
         clear HC1
         go_wp2_with (go_at_call 34; refine (HW.out _).mono ?_; rintro e w2 ⟨rfl, hb2⟩; replace HB1 := hid (bel_trans HB1.out hb2); obtain ⟨f2, f3, f5, i0, i1, i2, i3, i4, i5, i6, i7, i8⟩ := rt_boxes HB1.out; clear hb2)
         go_meet
         case rel => exact ⟨by rw [ec], HB1⟩
       ·have qo : (op == 10) = false := by simpa using hqo
        clear hqo;have ec : c1 = false := by rw [HC1.out]; simp only [lackL, Bool.true_and, Bool.false_and, Bool.or_true, Bool.true_or, Bool.or_false, Bool.false_or, *]
        clear HC1
        go_wp2_with (go_at_call 34; refine (HW.out _).mono ?_; rintro e w2 ⟨rfl, hb2⟩; replace HB1 := hid (bel_trans HB1.out hb2); obtain ⟨f2, f3, f5, i0, i1, i2, i3, i4, i5, i6, i7, i8⟩ := rt_boxes HB1.out; clear hb2)
        go_meet
        case rel => exact ⟨by rw [ec], HB1⟩
    | false =>
     cases nd with
     | true =>
      by_cases hqw : (wr == -1) = true
      ·have qw := hqw
       clear hqw;have ec : c1 = true := by rw [HC1.out]; simp only [lackL, Bool.true_and, Bool.false_and, Bool.or_true, Bool.true_or, Bool.or_false, Bool.false_or, *]
       clear HC1
       go_wp2_with (go_at_call 34; refine (HW.out _).mono ?_; rintro e w2 ⟨rfl, hb2⟩; replace HB1 := hid (bel_trans HB1.out hb2); obtain ⟨f2, f3, f5, i0, i1, i2, i3, i4, i5, i6, i7, i8⟩ := rt_boxes HB1.out; clear hb2)
       go_meet
       case rel => exact ⟨by rw [ec], HB1⟩
      ·have qw : (wr == -1) = false := by simpa using hqw
       clear hqw
       by_cases hqo : (op == 10) = true
       ·have qo := hqo
        clear hqo
        by_cases hqd : (decide (d < -1)) = true
        ·have qd := hqd
         clear hqd;have ec : c1 = true := by rw [HC1.out]; simp only [lackL, Bool.true_and, Bool.false_and, Bool.or_true, Bool.true_or, Bool.or_false, Bool.false_or, *]
         clear HC1
         go_wp2_with (go_at_call 34; refine (HW.out _).mono ?_; rintro e w2 ⟨rfl, hb2⟩; replace HB1 := hid (bel_trans HB1.out hb2); obtain ⟨f2, f3, f5, i0, i1, i2, i3, i4, i5, i6, i7, i8⟩ := rt_boxes HB1.out; clear hb2)
         go_meet
         case rel => exact ⟨by rw [ec], HB1⟩
        ·have qd : (decide (d < -1)) = false := by simpa using hqd
         clear hqd;have ec : c1 = false := by rw [HC1.out]; simp only [lackL, Bool.true_and, Bool.false_and, Bool.or_true, Bool.true_or, Bool.or_false, Bool.false_or, *]
         clear HC1
         go_wp2_with (go_at_call 34; refine (HW.out _).mono ?_; rintro e w2 ⟨rfl, hb2⟩; replace HB1 := hid (bel_trans HB1.out hb2); obtain ⟨f2, f3, f5, i0, i1, i2, i3, i4, i5, i6, i7, i8⟩ := rt_boxes HB1.out; clear hb2)
         go_meet
         case rel => exact ⟨by rw [ec], HB1⟩
       ·have qo : (op == 10) = false := by simpa using hqo
        clear hqo;have ec : c1 = false := by rw [HC1.out]; simp only [lackL, Bool.true_and, Bool.false_and, Bool.or_true, Bool.true_or, Bool.or_false, Bool.false_or, *]
        clear HC1
        go_wp2_with (go_at_call 34; refine (HW.out _).mono ?_; rintro e w2 ⟨rfl, hb2⟩; replace HB1 := hid (bel_trans HB1.out hb2); obtain ⟨f2, f3, f5, i0, i1, i2, i3, i4, i5, i6, i7, i8⟩ := rt_boxes HB1.out; clear hb2)
        go_meet
        case rel => exact ⟨by rw [ec], HB1⟩
     | false =>
      by_cases hqo : (op == 10) = true
      ·have qo := hqo
       clear hqo
       by_cases hqd : (decide (d < -1)) = true
       ·have qd := hqd
        clear hqd;have ec : c1 = true := by rw [HC1.out]; simp only [lackL, Bool.true_and, Bool.false_and, Bool.or_true, Bool.true_or, Bool.or_false, Bool.false_or, *]
        clear HC1
        go_wp2_with (go_at_call 34; refine (HW.out _).mono ?_; rintro e w2 ⟨rfl, hb2⟩; replace HB1 := hid (bel_trans HB1.out hb2); obtain ⟨f2, f3, f5, i0, i1, i2, i3, i4, i5, i6, i7, i8⟩ := rt_boxes HB1.out; clear hb2)
        go_meet
        case rel => exact ⟨by rw [ec], HB1⟩
       ·have qd : (decide (d < -1)) = false := by simpa using hqd
        clear hqd;have ec : c1 = false := by rw [HC1.out]; simp only [lackL, Bool.true_and, Bool.false_and, Bool.or_true, Bool.true_or, Bool.or_false, Bool.false_or, *]
        clear HC1
        go_wp2_with (go_at_call 34; refine (HW.out _).mono ?_; rintro e w2 ⟨rfl, hb2⟩; replace HB1 := hid (bel_trans HB1.out hb2); obtain ⟨f2, f3, f5, i0, i1, i2, i3, i4, i5, i6, i7, i8⟩ := rt_boxes HB1.out; clear hb2)
        go_meet
        case rel => exact ⟨by rw [ec], HB1⟩
      ·have qo : (op == 10) = false := by simpa using hqo
       clear hqo;have ec : c1 = false := by rw [HC1.out]; simp only [lackL, Bool.true_and, Bool.false_and, Bool.or_true, Bool.true_or, Bool.or_false, Bool.false_or, *]
       clear HC1
       go_wp2_with (go_at_call 34; refine (HW.out _).mono ?_; rintro e w2 ⟨rfl, hb2⟩; replace HB1 := hid (bel_trans HB1.out hb2); obtain ⟨f2, f3, f5, i0, i1, i2, i3, i4, i5, i6, i7, i8⟩ := rt_boxes HB1.out; clear hb2)
       go_meet
       case rel => exact ⟨by rw [ec], HB1⟩
  | false =>
   cases nb with
   | true =>
    by_cases hqb : (b == -1) = true
    ·have qb := hqb
     clear hqb;have ec : c1 = true := by rw [HC1.out]; simp only [lackL, Bool.true_and, Bool.false_and, Bool.or_true, Bool.true_or, Bool.or_false, Bool.false_or, *]
     clear HC1
     go_wp2_with (go_at_call 34; refine (HW.out _).mono ?_; rintro e w2 ⟨rfl, hb2⟩; replace HB1 := hid (bel_trans HB1.out hb2); obtain ⟨f2, f3, f5, i0, i1, i2, i3, i4, i5, i6, i7, i8⟩ := rt_boxes HB1.out; clear hb2)
     go_meet
     case rel => exact ⟨by rw [ec], HB1⟩
    ·have qb : (b == -1) = false := by simpa using hqb
     clear hqb
     cases nd with
     | true =>
      by_cases hqw : (wr == -1) = true
      ·have qw := hqw
       clear hqw;have ec : c1 = true := by rw [HC1.out]; simp only [lackL, Bool.true_and, Bool.false_and, Bool.or_true, Bool.true_or, Bool.or_false, Bool.false_or, *]
       clear HC1
       go_wp2_with (go_at_call 34; refine (HW.out _).mono ?_; rintro e w2 ⟨rfl, hb2⟩; replace HB1 := hid (bel_trans HB1.out hb2); obtain ⟨f2, f3, f5, i0, i1, i2, i3, i4, i5, i6, i7, i8⟩ := rt_boxes HB1.out; clear hb2)
       go_meet
       case rel => exact ⟨by rw [ec], HB1⟩
      ·have qw : (wr == -1) = false := by simpa using hqw
       clear hqw
       by_cases hqo : (op == 10) = true
       ·have qo := hqo
        clear hqo
        by_cases hqd : (decide (d < -1)) = true
        ·have qd := hqd
         clear hqd;have ec : c1 = true := by rw [HC1.out]; simp only [lackL, Bool.true_and, Bool.false_and, Bool.or_true, Bool.true_or, Bool.or_false, Bool.false_or, *]
         clear HC1
         go_wp2_with (go_at_call 34; refine (HW.out _).mono ?_; rintro e w2 ⟨rfl, hb2⟩; replace HB1 := hid (bel_trans HB1.out hb2); obtain ⟨f2, f3, f5, i0, i1, i2, i3, i4, i5, i6, i7, i8⟩ := rt_boxes HB1.out; clear hb2)
         go_meet
         case rel => exact ⟨by rw [ec], HB1⟩
        ·have qd : (decide (d < -1)) = false := by simpa using hqd
         clear hqd;have ec : c1 = false := by rw [HC1.out]; simp only [lackL, Bool.true_and, Bool.false_and, Bool.or_true, Bool.true_or, Bool.or_false, Bool.false_or, *]
         clear HC1
         go_wp2_with (go_at_call 34; refine (HW.out _).mono ?_; rintro e w2 ⟨rfl, hb2⟩; replace HB1 := hid (bel_trans HB1.out hb2); obtain ⟨f2, f3, f5, i0, i1, i2, i3, i4, i5, i6, i7, i8⟩ := rt_boxes HB1.out; clear hb2)
         go_meet
         case rel => exact ⟨by rw [ec], HB1⟩
       ·have qo : (op == 10) = false := by simpa using hqo
        clear hqo;have ec : c1 = false := by rw [HC1.out]; simp only [lackL, Bool.true_and, Bool.false_and, Bool.or_true, Bool.true_or, Bool.or_false, Bool.false_or, *]
        clear HC1
        go_wp2_with (go_at_call 34; refine (HW.out _).mono ?_; rintro e w2 ⟨rfl, hb2⟩; replace HB1 := hid (bel_trans HB1.out hb2); obtain ⟨f2, f3, f5, i0, i1, i2, i3, i4, i5, i6, i7, i8⟩ := rt_boxes HB1.out; clear hb2)
        go_meet
        case rel => exact ⟨by rw [ec], HB1⟩
     | false =>
      by_cases hqo : (op == 10) = true
      ·have qo := hqo
       clear hqo
       by_cases hqd : (decide (d < -1)) = true
       ·have qd := hqd
        clear hqd;have ec : c1 = true := by rw [HC1.out]; simp only [lackL, Bool.true_and, Bool.false_and, Bool.or_true, Bool.true_or, Bool.or_false, Bool.false_or, *]
        clear HC1
        go_wp2_with (go_at_call 34; refine (HW.out _).mono ?_; rintro e w2 ⟨rfl, hb2⟩; replace HB1 := hid (bel_trans HB1.out hb2); obtain ⟨f2, f3, f5, i0, i1, i2, i3, i4, i5, i6, i7, i8⟩ := rt_boxes HB1.out; clear hb2)
        go_meet
        case rel => exact ⟨by rw [ec], HB1⟩
       ·have qd : (decide (d < -1)) = false := by simpa using hqd
        clear hqd;have ec : c1 = false := by rw [HC1.out]; simp only [lackL, Bool.true_and, Bool.false_and, Bool.or_true, Bool.true_or, Bool.or_false, Bool.false_or, *]
        clear HC1
        go_wp2_with (go_at_call 34; refine (HW.out _).mono ?_; rintro e w2 ⟨rfl, hb2⟩; replace HB1 := hid (bel_trans HB1.out hb2); obtain ⟨f2, f3, f5, i0, i1, i2, i3, i4, i5, i6, i7, i8⟩ := rt_boxes HB1.out; clear hb2)
        go_meet
        case rel => exact ⟨by rw [ec], HB1⟩
      ·have qo : (op == 10) = false := by simpa using hqo
       clear hqo;have ec : c1 = false := by rw [HC1.out]; simp only [lackL, Bool.true_and, Bool.false_and, Bool.or_true, Bool.true_or, Bool.or_false, Bool.false_or, *]
       clear HC1
       go_wp2_with (go_at_call 34; refine (HW.out _).mono ?_; rintro e w2 ⟨rfl, hb2⟩; replace HB1 := hid (bel_trans HB1.out hb2); obtain ⟨f2, f3, f5, i0, i1, i2, i3, i4, i5, i6, i7, i8⟩ := rt_boxes HB1.out; clear hb2)
       go_meet
       case rel => exact ⟨by rw [ec], HB1⟩
   | false =>
    cases nd with
    | true =>
     by_cases hqw : (wr == -1) = true
     ·have qw := hqw
      clear hqw;have ec : c1 = true := by rw [HC1.out]; simp only [lackL, Bool.true_and, Bool.false_and, Bool.or_true, Bool.true_or, Bool.or_false, Bool.false_or, *]
      clear HC1
      go_wp2_with (go_at_call 34; refine (HW.out _).mono ?_; rintro e w2 ⟨rfl, hb2⟩; replace HB1 := hid (bel_trans HB1.out hb2); obtain ⟨f2, f3, f5, i0, i1, i2, i3, i4, i5, i6, i7, i8⟩ := rt_boxes HB1.out; clear hb2)
      go_meet
      case rel => exact ⟨by rw [ec], HB1⟩
     ·have qw : (wr == -1) = false := by simpa using hqw
      clear hqw
      by_cases hqo : (op == 10) = true
      ·have qo := hqo
       clear hqo
       by_cases hqd : (decide (d < -1)) = true
       ·have qd := hqd
        clear hqd;have ec : c1 = true := by rw [HC1.out]; simp only [lackL, Bool.true_and, Bool.false_and, Bool.or_true, Bool.true_or, Bool.or_false, Bool.false_or, *]
        clear HC1
        go_wp2_with (go_at_call 34; refine (HW.out _).mono ?_; rintro e w2 ⟨rfl, hb2⟩; replace HB1 := hid (bel_trans HB1.out hb2); obtain ⟨f2, f3, f5, i0, i1, i2, i3, i4, i5, i6, i7, i8⟩ := rt_boxes HB1.out; clear hb2)
        go_meet
        case rel => exact ⟨by rw [ec], HB1⟩
       ·have qd : (decide (d < -1)) = false := by simpa using hqd
        clear hqd;have ec : c1 = false := by rw [HC1.out]; simp only [lackL, Bool.true_and, Bool.false_and, Bool.or_true, Bool.true_or, Bool.or_false, Bool.false_or, *]
        clear HC1
        go_wp2_with (go_at_call 34; refine (HW.out _).mono ?_; rintro e w2 ⟨rfl, hb2⟩; replace HB1 := hid (bel_trans HB1.out hb2); obtain ⟨f2, f3, f5, i0, i1, i2, i3, i4, i5, i6, i7, i8⟩ := rt_boxes HB1.out; clear hb2)
        go_meet
        case rel => exact ⟨by rw [ec], HB1⟩
      ·have qo : (op == 10) = false := by simpa using hqo
       clear hqo;have ec : c1 = false := by rw [HC1.out]; simp only [lackL, Bool.true_and, Bool.false_and, Bool.or_true, Bool.true_or, Bool.or_false, Bool.false_or, *]
       clear HC1
       go_wp2_with (go_at_call 34; refine (HW.out _).mono ?_; rintro e w2 ⟨rfl, hb2⟩; replace HB1 := hid (bel_trans HB1.out hb2); obtain ⟨f2, f3, f5, i0, i1, i2, i3, i4, i5, i6, i7, i8⟩ := rt_boxes HB1.out; clear hb2)
       go_meet
       case rel => exact ⟨by rw [ec], HB1⟩
    | false =>
     by_cases hqo : (op == 10) = true
     ·have qo := hqo
      clear hqo
      by_cases hqd : (decide (d < -1)) = true
      ·have qd := hqd
       clear hqd;have ec : c1 = true := by rw [HC1.out]; simp only [lackL, Bool.true_and, Bool.false_and, Bool.or_true, Bool.true_or, Bool.or_false, Bool.false_or, *]
       clear HC1
       go_wp2_with (go_at_call 34; refine (HW.out _).mono ?_; rintro e w2 ⟨rfl, hb2⟩; replace HB1 := hid (bel_trans HB1.out hb2); obtain ⟨f2, f3, f5, i0, i1, i2, i3, i4, i5, i6, i7, i8⟩ := rt_boxes HB1.out; clear hb2)
       go_meet
       case rel => exact ⟨by rw [ec], HB1⟩
      ·have qd : (decide (d < -1)) = false := by simpa using hqd
       clear hqd;have ec : c1 = false := by rw [HC1.out]; simp only [lackL, Bool.true_and, Bool.false_and, Bool.or_true, Bool.true_or, Bool.or_false, Bool.false_or, *]
       clear HC1
       go_wp2_with (go_at_call 34; refine (HW.out _).mono ?_; rintro e w2 ⟨rfl, hb2⟩; replace HB1 := hid (bel_trans HB1.out hb2); obtain ⟨f2, f3, f5, i0, i1, i2, i3, i4, i5, i6, i7, i8⟩ := rt_boxes HB1.out; clear hb2)
       go_meet
       case rel => exact ⟨by rw [ec], HB1⟩
     ·have qo : (op == 10) = false := by simpa using hqo
      clear hqo;have ec : c1 = false := by rw [HC1.out]; simp only [lackL, Bool.true_and, Bool.false_and, Bool.or_true, Bool.true_or, Bool.or_false, Bool.false_or, *]
      clear HC1
      go_wp2_with (go_at_call 34; refine (HW.out _).mono ?_; rintro e w2 ⟨rfl, hb2⟩; replace HB1 := hid (bel_trans HB1.out hb2); obtain ⟨f2, f3, f5, i0, i1, i2, i3, i4, i5, i6, i7, i8⟩ := rt_boxes HB1.out; clear hb2)
      go_meet
      case rel => exact ⟨by rw [ec], HB1⟩

 case rest =>
  obtain ⟨rfl, HB1c⟩ := hcut;clear HB1;clear f2 f3 f5 i0 i1 i2 i3 i4 i5 i6 i7 i8;obtain ⟨f2, f3, f5, i0, i1, i2, i3, i4, i5, i6, i7, i8⟩ := rt_boxes HB1c.out
  cases c1 with
  | true =>
   have er : r = false := by rw [HE.out, rightL, ← HC1.out]; rfl
   subst er;go_wp2;go_ret;exact ⟨rfl, bel_trans (bel_alloc (bel_alloc (Below.refl _ _) _) _) HB1c.out⟩
  | false =>
   have HE1 : Hid (r = (u.all (inB regs) && (!(decide (regs ≤ wr) || decide (wr < -1)) && (sL.all (inB n) && subOk op sub k frame)))) := by show _ = _; rw [HE.out, rightL, ← HC1.out]; rfl
   clear HC1 HE
   go_wp2_with (go_at_call 35; refine (HU.out _ (bel_trans (bel_alloc (bel_alloc (Below.refl _ _) _) _) HB1c.out)).mono ?_; rintro e w2 ⟨vu, rfl, hil, hb2⟩; have HB2 := hid (bel_trans HB1c.out hb2); obtain ⟨ua, ucap, ub, uo, rfl, hul, hua, huc⟩ := hil.parts; have HUA := hid hua; have HUC := hid huc; obtain ⟨nu, hnu⟩ : ∃ m, m = u.length := ⟨_, rfl⟩; have HNU := hid hnu; rw [← hnu] at hul hua; rw [← hnu]; clear hil hb2 hua huc hnu; clear f2 f3 f5 i0 i1 i2 i3 i4 i5 i6 i7 i8; obtain ⟨f2, f3, f5, i0, i1, i2, i3, i4, i5, i6, i7, i8⟩ := rt_boxes HB2.out)
   have HBAD9 : Hid (∀ i x, u[i]? = some x → inB regs x = false → r = false) := fun i x h1 h2 => by rw [HE1.out, all_bad h1 h2]; rfl
   clear HB1c
   go_loopw [9] (fun vv wz => ∃ i : Nat, i ≤ nu ∧ vv = .int .i64 i ∧ Hid (∀ j x, j < i → u[j]? = some x → inB regs x = true) ∧ Hid (Below w2.heap.size w2 wz)) (fun vv _ => nu - (intOf vv).toNat)
   case atStart => exact ⟨0, by omega, rfl, fun j x hj => by omega, Below.refl _ _⟩
   case round =>
    obtain ⟨i, hi, rfl, HI, HBz⟩ := hrel
    rename World => wz
    obtain ⟨f2, f3, f5, i0, i1, i2, i3, i4, i5, i6, i7, i8⟩ := rt_boxes (bel_trans HB2.out HBz.out)
    by_cases hin : i < nu
    ·obtain rfl := HUA.out (by rw [← HNU.out]; omega)
     have j0 : (0 : Int) ≤ i := by omega
     have j1 : (i : Int) < nu := by omega
     have hget := List.getElem?_eq_getElem (l := u) (show i < u.length by rw [← HNU.out]; exact hin)
     generalize u[i]'(by rw [← HNU.out]; exact hin) = x at hget
     have cx := keep_cell HBz.out (HUC.out i x hget);have HG : Hid (u[i]? = some x) := hget;clear hget
     by_cases hx0 : x < 0
     ·have q0 : decide (x < 0) = true := by simpa using hx0
      have er : r = false := HBAD9.out i x HG.out (by simp [inB, q0]);subst er;clear hx0;go_wp2_with fail
      go_quiet (fail)
      go_wp2;go_ret;exact ⟨rfl, (bel_trans (bel_trans (bel_alloc (bel_alloc (Below.refl _ _) _) _) HB2.out) (bel_drewN HBz.out _))⟩
     ·have q0 : decide (x < 0) = false := by simpa using hx0
      clear hx0
      by_cases hx1 : regs ≤ x
      ·have q1 : decide (regs ≤ x) = true := by simpa using hx1
       have er : r = false := HBAD9.out i x HG.out (by simp [inB, q0, hx1]);subst er;go_wp2_with fail
       go_quiet (fail)
       go_wp2;go_ret;exact ⟨rfl, (bel_trans (bel_trans (bel_alloc (bel_alloc (Below.refl _ _) _) _) HB2.out) (bel_drewN HBz.out _))⟩
      ·have q1 : decide (regs ≤ x) = false := by simpa using hx1
       have HI2 := all_step HG.out (show inB regs x = true by simp [inB, q0]; omega) HI.out;go_wp2_with fail
       go_quiet (fail)
       go_wp2
       go_roundw
       case rel => exact ⟨i + 1, by omega, by simp, hid HI2, hid (bel_drewN HBz.out _)⟩
       case measure => simp [intOf]; omega
    ·obtain rfl : i = nu := by omega
     have HALL : Hid (u.all (inB regs) = true) := all_good HNU.out HI.out;clear HI hin hi;have HE2 : Hid (r = (!(decide (regs ≤ wr) || decide (wr < -1)) && (sL.all (inB n) && subOk op sub k frame))) := by show _ = _; rw [HE1.out, HALL.out, Bool.true_and]
     have HB3 : Hid (Below ((w.alloc (.cells #[.string name, pv, .int .i64 regs, .int .i64 frame, .int .i64 entry, .slice ca n cap] 25 (0, 0))).alloc (.cells #[.int .i64 op, .int .i64 sub, .int .i64 a, .int .i64 b, .int .i64 d, .int .i64 k, v, .int .i64 s, .int .i64 t] 38 (0, 0))).heap.size ((w.alloc (.cells #[.string name, pv, .int .i64 regs, .int .i64 frame, .int .i64 entry, .slice ca n cap] 25 (0, 0))).alloc (.cells #[.int .i64 op, .int .i64 sub, .int .i64 a, .int .i64 b, .int .i64 d, .int .i64 k, v, .int .i64 s, .int .i64 t] 38 (0, 0))) wz) := bel_trans HB2.out HBz.out;clear HALL HE1 HBz HB2 HUA HUC HBAD9;have hdB : ∀ {A0 A1 A2 A3 A4 A5 A6 A7 A8 A9 A10 A11 : Prop} {x : World}, A0 ∧ A1 ∧ A2 ∧ A3 ∧ A4 ∧ A5 ∧ A6 ∧ A7 ∧ A8 ∧ A9 ∧ A10 ∧ A11 ∧ Below wz.heap.size wz x → Below wz.heap.size wz x := fun h => h.2.2.2.2.2.2.2.2.2.2.2.2;have hdS : ∀ {x : World}, Below wz.heap.size wz x → (x.cell? ⟨w.heap.size, 2, none⟩ = some (.int .i64 regs) ∧ x.cell? ⟨w.heap.size, 3, none⟩ = some (.int .i64 frame) ∧ x.cell? ⟨w.heap.size, 5, none⟩ = some (.slice ca n cap) ∧ x.cell? ⟨w.heap.size + 1, 0, none⟩ = some (.int .i64 op) ∧ x.cell? ⟨w.heap.size + 1, 1, none⟩ = some (.int .i64 sub) ∧ x.cell? ⟨w.heap.size + 1, 2, none⟩ = some (.int .i64 a) ∧ x.cell? ⟨w.heap.size + 1, 3, none⟩ = some (.int .i64 b) ∧ x.cell? ⟨w.heap.size + 1, 4, none⟩ = some (.int .i64 d) ∧ x.cell? ⟨w.heap.size + 1, 5, none⟩ = some (.int .i64 k) ∧ x.cell? ⟨w.heap.size + 1, 6, none⟩ = some (v) ∧ x.cell? ⟨w.heap.size + 1, 7, none⟩ = some (.int .i64 s) ∧ x.cell? ⟨w.heap.size + 1, 8, none⟩ = some (.int .i64 t) ∧ Below wz.heap.size wz x) := fun h => ⟨keep_cell h f2, keep_cell h f3, keep_cell h f5, keep_cell h i0, keep_cell h i1, keep_cell h i2, keep_cell h i3, keep_cell h i4, keep_cell h i5, keep_cell h i6, keep_cell h i7, keep_cell h i8, h⟩;go_wp2_with fail
     obtain ⟨c2, hc2⟩ : ∃ c, (decide (regs ≤ wr) || decide (wr < -1)) = c := ⟨_, rfl⟩;have HC2 : Hid ((decide (regs ≤ wr) || decide (wr < -1)) = c2) := hc2;clear hc2
     go_cut [81] (fun sv w' => sv = .bool c2 ∧ Hid (Below wz.heap.size wz w'))
     case first =>
      by_cases hq : regs ≤ wr
      ·have q : decide (regs ≤ wr) = true := by simpa using hq
       have ec : c2 = true := by rw [← HC2.out, q]; rfl
       refine wp_region_held_drew (S := (fun w' => w'.cell? ⟨w.heap.size, 2, none⟩ = some (.int .i64 regs) ∧ w'.cell? ⟨w.heap.size, 3, none⟩ = some (.int .i64 frame) ∧ w'.cell? ⟨w.heap.size, 5, none⟩ = some (.slice ca n cap) ∧ w'.cell? ⟨w.heap.size + 1, 0, none⟩ = some (.int .i64 op) ∧ w'.cell? ⟨w.heap.size + 1, 1, none⟩ = some (.int .i64 sub) ∧ w'.cell? ⟨w.heap.size + 1, 2, none⟩ = some (.int .i64 a) ∧ w'.cell? ⟨w.heap.size + 1, 3, none⟩ = some (.int .i64 b) ∧ w'.cell? ⟨w.heap.size + 1, 4, none⟩ = some (.int .i64 d) ∧ w'.cell? ⟨w.heap.size + 1, 5, none⟩ = some (.int .i64 k) ∧ w'.cell? ⟨w.heap.size + 1, 6, none⟩ = some (v) ∧ w'.cell? ⟨w.heap.size + 1, 7, none⟩ = some (.int .i64 s) ∧ w'.cell? ⟨w.heap.size + 1, 8, none⟩ = some (.int .i64 t) ∧ Below wz.heap.size wz w')) (by kernel_rfl) (hdS (Below.drew (Below.refl _ _))) (fun hHeld => ?_);refine wpAnyH_take (i := 0) (oi := ?oia0) (v := ?vva0) ?hia0 (by kernel_rfl) (by kernel_rfl) (by kernel_rfl) ?hqa0 ?hya0 hHeld ?_
       case hia0 => simp only [zga, zgs, zgz]; rfl
       case hqa0 => exact fun _ _ _ h => h
       case hya0 => refine .inl ⟨by rfl, ?_⟩; intro w' hSw; (try dsimp only at hSw); go_simp; try with_reducible rfl
       simp only [Act.put, zsa, zsz, zss];refine wpAnyH_take (i := 2) (oi := ?oia2) (v := ?vva2) ?hia2 (by kernel_rfl) (by kernel_rfl) (by kernel_rfl) ?hqa2 ?hya2 hHeld ?_
       case hia2 => simp only [zga, zgs, zgz]; rfl
       case hqa2 => exact fun _ _ _ h => h
       case hya2 => refine .inl ⟨by rfl, ?_⟩; intro w' hSw; (try dsimp only at hSw); go_simp; try with_reducible rfl
       simp only [Act.put, zsa, zsz, zss];refine wpAnyH_take (i := 3) (oi := ?oia3) (v := ?vva3) ?hia3 (by kernel_rfl) (by kernel_rfl) (by kernel_rfl) ?hqa3 ?hya3 hHeld ?_
       case hia3 => simp only [zga, zgs, zgz]; rfl
       case hqa3 => exact fun _ _ _ h => h
       case hya3 => refine .inl ⟨by rfl, ?_⟩; intro w' hSw; (try dsimp only at hSw); go_simp; try with_reducible rfl
       simp only [Act.put, zsa, zsz, zss];refine wpAnyH_ready (rs := [1]) (by kernel_rfl) (by simp) ?_;refine AllReadyH.cons (o := ?oia1) ?hia1 (fun K hK => ?_) AllReadyH.nil
       case hia1 => simp only [zga, zgs, zgz]; rfl
       go_simp;refine (HW.out _).mono ?_;rintro e v1 ⟨rfl, hv1⟩;go_wp2_with fail
       refine hK.out _ _ (hdS (bel_trans (hdB hHeld) hv1)) (fun hN => ?_);clear hK K hHeld;have hHeld := hN;clear hN
       try simp only [Act.put, zsa, zsz, zss]
       refine wpAnyH_take (i := 4) (oi := ?oia4) (v := ?vva4) ?hia4 (by kernel_rfl) (by kernel_rfl) (by kernel_rfl) ?hqa4 ?hya4 hHeld ?_
       case hia4 => simp only [zga, zgs, zgz]; rfl
       case hqa4 => exact fun _ _ _ h => h
       case hya4 => refine .inl ⟨by rfl, ?_⟩; intro w' hSw; (try dsimp only at hSw); go_simp; try with_reducible rfl
       simp only [Act.put, zsa, zsz, zss];refine wpAnyH_take (i := 5) (oi := ?oia5) (v := ?vva5) ?hia5 (by kernel_rfl) (by kernel_rfl) (by kernel_rfl) ?hqa5 ?hya5 hHeld ?_
       case hia5 => simp only [zga, zgs, zgz]; rfl
       case hqa5 => exact fun _ _ _ h => h
       case hya5 => refine .inl ⟨by rfl, ?_⟩; intro w' hSw; (try dsimp only at hSw); go_simp; try with_reducible rfl
       simp only [Act.put, zsa, zsz, zss];refine wpAnyH_take (i := 6) (oi := ?oia6) (v := undef) ?hia6 (by kernel_rfl) (by kernel_rfl) (by kernel_rfl) ?hqa6 ?hya6 hHeld ?_
       case hia6 => simp only [zga, zgs, zgz]; rfl
       case hqa6 => exact fun _ _ _ h => h
       case hya6 => exact Or.inr ⟨by rfl, rfl⟩
       simp only [Act.put, zsa, zsz, zss];refine wpAnyH_ready (rs := [7]) (by kernel_rfl) (by simp) ?_;refine AllReadyH.cons (o := ?oia7) ?hia7 (fun K hK => ?_) AllReadyH.nil
       case hia7 => simp only [zga, zgs, zgz]; rfl
       go_simp;refine hK.out _ _ hHeld (fun hN => ?_);clear hK K hHeld;have hHeld := hN;clear hN
       try simp only [Act.put, zsa, zsz, zss]
       refine wpAnyH_take (i := 8) (oi := ?oia8) (v := undef) ?hia8 (by kernel_rfl) (by kernel_rfl) (by kernel_rfl) ?hqa8 ?hya8 hHeld ?_
       case hia8 => simp only [zga, zgs, zgz]; rfl
       case hqa8 => exact fun _ _ _ h => h
       case hya8 => exact Or.inr ⟨by rfl, rfl⟩
       simp only [Act.put, zsa, zsz, zss];refine wpAnyH_take (i := 9) (oi := ?oia9) (v := ?vva9) ?hia9 (by kernel_rfl) (by kernel_rfl) (by kernel_rfl) ?hqa9 ?hya9 hHeld ?_
       case hia9 => simp only [zga, zgs, zgz]; rfl
       case hqa9 => exact fun _ _ _ h => h
       case hya9 => refine .inl ⟨by rfl, ?_⟩; intro w' hSw; (try dsimp only at hSw); go_simp; try with_reducible rfl
       simp only [Act.put, zsa, zsz, zss];refine wpAnyH_done (by kernel_rfl) ?_ _;have hfin := hdB hHeld;go_wp2
       go_meet
       case rel => exact ⟨by rw [ec], hid hfin⟩
      ·have q : decide (regs ≤ wr) = false := by simpa using hq
       have ec : c2 = decide (wr < -1) := by rw [← HC2.out, q]; rfl
       refine wp_region_held_drew (S := (fun w' => w'.cell? ⟨w.heap.size, 2, none⟩ = some (.int .i64 regs) ∧ w'.cell? ⟨w.heap.size, 3, none⟩ = some (.int .i64 frame) ∧ w'.cell? ⟨w.heap.size, 5, none⟩ = some (.slice ca n cap) ∧ w'.cell? ⟨w.heap.size + 1, 0, none⟩ = some (.int .i64 op) ∧ w'.cell? ⟨w.heap.size + 1, 1, none⟩ = some (.int .i64 sub) ∧ w'.cell? ⟨w.heap.size + 1, 2, none⟩ = some (.int .i64 a) ∧ w'.cell? ⟨w.heap.size + 1, 3, none⟩ = some (.int .i64 b) ∧ w'.cell? ⟨w.heap.size + 1, 4, none⟩ = some (.int .i64 d) ∧ w'.cell? ⟨w.heap.size + 1, 5, none⟩ = some (.int .i64 k) ∧ w'.cell? ⟨w.heap.size + 1, 6, none⟩ = some (v) ∧ w'.cell? ⟨w.heap.size + 1, 7, none⟩ = some (.int .i64 s) ∧ w'.cell? ⟨w.heap.size + 1, 8, none⟩ = some (.int .i64 t) ∧ Below wz.heap.size wz w')) (by kernel_rfl) (hdS (Below.drew (Below.refl _ _))) (fun hHeld => ?_);refine wpAnyH_take (i := 0) (oi := ?oib0) (v := ?vvb0) ?hib0 (by kernel_rfl) (by kernel_rfl) (by kernel_rfl) ?hqb0 ?hyb0 hHeld ?_
       case hib0 => simp only [zga, zgs, zgz]; rfl
       case hqb0 => exact fun _ _ _ h => h
       case hyb0 => refine .inl ⟨by rfl, ?_⟩; intro w' hSw; (try dsimp only at hSw); go_simp; try with_reducible rfl
       simp only [Act.put, zsa, zsz, zss];refine wpAnyH_take (i := 2) (oi := ?oib2) (v := ?vvb2) ?hib2 (by kernel_rfl) (by kernel_rfl) (by kernel_rfl) ?hqb2 ?hyb2 hHeld ?_
       case hib2 => simp only [zga, zgs, zgz]; rfl
       case hqb2 => exact fun _ _ _ h => h
       case hyb2 => refine .inl ⟨by rfl, ?_⟩; intro w' hSw; (try dsimp only at hSw); go_simp; try with_reducible rfl
       simp only [Act.put, zsa, zsz, zss];refine wpAnyH_take (i := 3) (oi := ?oib3) (v := ?vvb3) ?hib3 (by kernel_rfl) (by kernel_rfl) (by kernel_rfl) ?hqb3 ?hyb3 hHeld ?_
       case hib3 => simp only [zga, zgs, zgz]; rfl
       case hqb3 => exact fun _ _ _ h => h
       case hyb3 => refine .inl ⟨by rfl, ?_⟩; intro w' hSw; (try dsimp only at hSw); go_simp; try with_reducible rfl
       simp only [Act.put, zsa, zsz, zss];refine wpAnyH_ready (rs := [1]) (by kernel_rfl) (by simp) ?_;refine AllReadyH.cons (o := ?oib1) ?hib1 (fun K hK => ?_) AllReadyH.nil
       case hib1 => simp only [zga, zgs, zgz]; rfl
       go_simp;refine (HW.out _).mono ?_;rintro e v1 ⟨rfl, hv1⟩;go_wp2_with fail
       refine hK.out _ _ (hdS (bel_trans (hdB hHeld) hv1)) (fun hN => ?_);clear hK K hHeld;have hHeld := hN;clear hN
       try simp only [Act.put, zsa, zsz, zss]
       refine wpAnyH_take (i := 4) (oi := ?oib4) (v := ?vvb4) ?hib4 (by kernel_rfl) (by kernel_rfl) (by kernel_rfl) ?hqb4 ?hyb4 hHeld ?_
       case hib4 => simp only [zga, zgs, zgz]; rfl
       case hqb4 => exact fun _ _ _ h => h
       case hyb4 => refine .inl ⟨by rfl, ?_⟩; intro w' hSw; (try dsimp only at hSw); go_simp; try with_reducible rfl
       simp only [Act.put, zsa, zsz, zss];refine wpAnyH_take (i := 5) (oi := ?oib5) (v := ?vvb5) ?hib5 (by kernel_rfl) (by kernel_rfl) (by kernel_rfl) ?hqb5 ?hyb5 hHeld ?_
       case hib5 => simp only [zga, zgs, zgz]; rfl
       case hqb5 => exact fun _ _ _ h => h
       case hyb5 => refine .inl ⟨by rfl, ?_⟩; intro w' hSw; (try dsimp only at hSw); go_simp; try with_reducible rfl
       simp only [Act.put, zsa, zsz, zss];refine wpAnyH_take (i := 6) (oi := ?oib6) (v := ?vvb6) ?hib6 (by kernel_rfl) (by kernel_rfl) (by kernel_rfl) ?hqb6 ?hyb6 hHeld ?_
       case hib6 => simp only [zga, zgs, zgz]; rfl
       case hqb6 => exact fun _ _ _ h => h
       case hyb6 => refine .inl ⟨by rfl, ?_⟩; intro w' hSw; (try dsimp only at hSw); go_simp; try with_reducible rfl
       simp only [Act.put, zsa, zsz, zss];refine wpAnyH_ready (rs := [7]) (by kernel_rfl) (by simp) ?_;refine AllReadyH.cons (o := ?oib7) ?hib7 (fun K hK => ?_) AllReadyH.nil
       case hib7 => simp only [zga, zgs, zgz]; rfl
       go_simp;refine (HW.out _).mono ?_;rintro e v7 ⟨rfl, hv7⟩;go_wp2_with fail
       refine hK.out _ _ (hdS (bel_trans (hdB hHeld) hv7)) (fun hN => ?_);clear hK K hHeld;have hHeld := hN;clear hN
       try simp only [Act.put, zsa, zsz, zss]
       refine wpAnyH_take (i := 8) (oi := ?oib8) (v := ?vvb8) ?hib8 (by kernel_rfl) (by kernel_rfl) (by kernel_rfl) ?hqb8 ?hyb8 hHeld ?_
       case hib8 => simp only [zga, zgs, zgz]; rfl
       case hqb8 => exact fun _ _ _ h => h
       case hyb8 => refine .inl ⟨by rfl, ?_⟩; intro w' hSw; (try dsimp only at hSw); go_simp; try with_reducible rfl
       simp only [Act.put, zsa, zsz, zss];refine wpAnyH_take (i := 9) (oi := ?oib9) (v := ?vvb9) ?hib9 (by kernel_rfl) (by kernel_rfl) (by kernel_rfl) ?hqb9 ?hyb9 hHeld ?_
       case hib9 => simp only [zga, zgs, zgz]; rfl
       case hqb9 => exact fun _ _ _ h => h
       case hyb9 => refine .inl ⟨by rfl, ?_⟩; intro w' hSw; (try dsimp only at hSw); go_simp; try with_reducible rfl
       simp only [Act.put, zsa, zsz, zss];refine wpAnyH_done (by kernel_rfl) ?_ _;have hfin := hdB hHeld;go_wp2
       go_meet
       case rel => exact ⟨by rw [ec], hid hfin⟩
     case rest =>
      obtain ⟨rfl, HBc⟩ := hcut;replace HB3 := hid (bel_trans HB3.out HBc.out);clear f2 f3 f5 i0 i1 i2 i3 i4 i5 i6 i7 i8 hdB hdS HBc;obtain ⟨f2, f3, f5, i0, i1, i2, i3, i4, i5, i6, i7, i8⟩ := rt_boxes HB3.out
      cases c2 with
      | true =>
       have er : r = false := by rw [HE2.out, HC2.out]; rfl
       subst er;go_wp2;go_ret;exact ⟨rfl, bel_trans (bel_alloc (bel_alloc (Below.refl _ _) _) _) HB3.out⟩
      | false =>
       have HE3 : Hid (r = (sL.all (inB n) && subOk op sub k frame)) := by show _ = _; rw [HE2.out, HC2.out]; rfl
       clear HC2 HE2
       go_wp2_with (go_at_call 36; refine (HS.out _).mono ?_; rintro e w4 ⟨vs, rfl, hil, hb4⟩; have HB4 := hid (bel_trans HB3.out hb4); obtain ⟨sa, scap, sb, so, rfl, hsl, hsa, hsc⟩ := hil.parts; have HSA := hid hsa; have HSC := hid hsc; obtain ⟨m, hm⟩ : ∃ m, m = sL.length := ⟨_, rfl⟩; have HM := hid hm; rw [← hm] at hsl hsa; rw [← hm]; clear hil hb4 hsa hsc hm; clear f2 f3 f5 i0 i1 i2 i3 i4 i5 i6 i7 i8; obtain ⟨f2, f3, f5, i0, i1, i2, i3, i4, i5, i6, i7, i8⟩ := rt_boxes HB4.out)
       have HBAD11 : Hid (∀ i x, sL[i]? = some x → inB n x = false → r = false) := fun i x h1 h2 => by rw [HE3.out, all_bad h1 h2]; rfl
       have HE4 := HE3;clear HE3 HB3
       go_loopw [11] (fun vv wz => ∃ i : Nat, i ≤ m ∧ vv = .int .i64 i ∧ Hid (∀ j x, j < i → sL[j]? = some x → inB (n : Int) x = true) ∧ Hid (Below w4.heap.size w4 wz)) (fun vv _ => m - (intOf vv).toNat)
       case atStart => exact ⟨0, by omega, rfl, fun j x hj => by omega, Below.refl _ _⟩
       case round =>
        obtain ⟨i, hi, rfl, HI, HBz⟩ := hrel
        rename World => wz
        obtain ⟨f2, f3, f5, i0, i1, i2, i3, i4, i5, i6, i7, i8⟩ := rt_boxes (bel_trans HB4.out HBz.out)
        by_cases hin : i < m
        ·obtain rfl := HSA.out (by rw [← HM.out]; omega)
         have j0 : (0 : Int) ≤ i := by omega
         have j1 : (i : Int) < m := by omega
         have hget := List.getElem?_eq_getElem (l := sL) (show i < sL.length by rw [← HM.out]; exact hin)
         generalize sL[i]'(by rw [← HM.out]; exact hin) = x at hget
         have cx := keep_cell HBz.out (HSC.out i x hget);have HG : Hid (sL[i]? = some x) := hget;clear hget
         by_cases hx0 : x < 0
         ·have q0 : decide (x < 0) = true := by simpa using hx0
          have er : r = false := HBAD11.out i x HG.out (by simp [inB, q0]);subst er;clear hx0;go_wp2_with fail
          go_quiet (fail)
          go_wp2;go_ret;exact ⟨rfl, (bel_trans (bel_trans (bel_alloc (bel_alloc (Below.refl _ _) _) _) HB4.out) (bel_drewN HBz.out _))⟩
         ·have q0 : decide (x < 0) = false := by simpa using hx0
          clear hx0
          by_cases hx1 : (n : Int) ≤ x
          ·have q1 : decide ((n : Int) ≤ x) = true := by simpa using hx1
           have er : r = false := HBAD11.out i x HG.out (by simp [inB, q0, hx1]);subst er;go_wp2_with fail
           go_quiet (fail)
           go_wp2;go_ret;exact ⟨rfl, (bel_trans (bel_trans (bel_alloc (bel_alloc (Below.refl _ _) _) _) HB4.out) (bel_drewN HBz.out _))⟩
          ·have q1 : decide ((n : Int) ≤ x) = false := by simpa using hx1
           have HI2 := all_step HG.out (show inB (n : Int) x = true by simp [inB, q0]; omega) HI.out;go_wp2_with fail
           go_quiet (fail)
           go_wp2
           go_roundw
           case rel => exact ⟨i + 1, by omega, by simp, hid HI2, hid (bel_drewN HBz.out _)⟩
           case measure => simp [intOf]; omega
        ·obtain rfl : i = m := by omega
         have HALL : Hid (sL.all (inB (n : Int)) = true) := all_good HM.out HI.out;clear HI hin hi;have HR : Hid (r = subOk op sub k frame) := by show _ = _; rw [HE4.out, HALL.out, Bool.true_and]
         clear HALL HE4
         rcases op_cases op with rfl | rfl | rfl | rfl | rfl | rfl | rfl | rfl | rfl | rfl | rfl | rfl | rfl | rfl | ho
         ·have er : r = true := by rw [HR.out]; simp [subOk]
          subst er;go_wp2;go_ret;exact ⟨rfl, (bel_trans (bel_trans (bel_alloc (bel_alloc (Below.refl _ _) _) _) HB4.out) HBz.out)⟩
         ·have er : r = true := by rw [HR.out]; simp [subOk]
          subst er;go_wp2;go_ret;exact ⟨rfl, (bel_trans (bel_trans (bel_alloc (bel_alloc (Below.refl _ _) _) _) HB4.out) HBz.out)⟩
         ·have er : r = true := by rw [HR.out]; simp [subOk]
          subst er;go_wp2;go_ret;exact ⟨rfl, (bel_trans (bel_trans (bel_alloc (bel_alloc (Below.refl _ _) _) _) HB4.out) HBz.out)⟩
         ·have er : r = (decide (1 ≤ sub) && decide (sub ≤ 4)) := by rw [HR.out]; simp [subOk]
          by_cases hs : 1 ≤ sub
          ·have q : decide (1 ≤ sub) = true := by simpa using hs
           rw [q, Bool.true_and] at er;subst er;go_wp2;go_ret;exact ⟨rfl, (bel_trans (bel_trans (bel_alloc (bel_alloc (Below.refl _ _) _) _) HB4.out) HBz.out)⟩
          ·have q : decide (1 ≤ sub) = false := by simpa using hs
           rw [q, Bool.false_and] at er;subst er;go_wp2;go_ret;exact ⟨rfl, (bel_trans (bel_trans (bel_alloc (bel_alloc (Below.refl _ _) _) _) HB4.out) HBz.out)⟩
         ·have er : r = (decide (11 ≤ sub) && decide (sub ≤ 26)) := by rw [HR.out]; simp [subOk]
          by_cases hs : 11 ≤ sub
          ·have q : decide (11 ≤ sub) = true := by simpa using hs
           rw [q, Bool.true_and] at er;subst er;go_wp2;go_ret;exact ⟨rfl, (bel_trans (bel_trans (bel_alloc (bel_alloc (Below.refl _ _) _) _) HB4.out) HBz.out)⟩
          ·have q : decide (11 ≤ sub) = false := by simpa using hs
           rw [q, Bool.false_and] at er;subst er;go_wp2;go_ret;exact ⟨rfl, (bel_trans (bel_trans (bel_alloc (bel_alloc (Below.refl _ _) _) _) HB4.out) HBz.out)⟩
         ·have er : r = (sub == 1 || sub == 4 || sub == 8) := by rw [HR.out]; simp [subOk]
          by_cases h1 : sub = 1
          ·subst h1
           have er2 : r = true := by rw [er]; rfl
           clear er;subst er2;go_wp2;go_ret;exact ⟨rfl, (bel_trans (bel_trans (bel_alloc (bel_alloc (Below.refl _ _) _) _) HB4.out) HBz.out)⟩
          ·have q1 : (sub == 1) = false := by simpa using h1
           by_cases h4 : sub = 4
           ·subst h4
            have er2 : r = true := by rw [er]; rfl
            clear er;subst er2;go_wp2;go_ret;exact ⟨rfl, (bel_trans (bel_trans (bel_alloc (bel_alloc (Below.refl _ _) _) _) HB4.out) HBz.out)⟩
           ·have q4 : (sub == 4) = false := by simpa using h4
            rw [q1, q4, Bool.false_or, Bool.false_or] at er;subst er;go_wp2;go_ret;exact ⟨rfl, (bel_trans (bel_trans (bel_alloc (bel_alloc (Below.refl _ _) _) _) HB4.out) HBz.out)⟩
         ·have er : r = (sub == 1 || sub == 4 || sub == 8) := by rw [HR.out]; simp [subOk]
          by_cases h1 : sub = 1
          ·subst h1
           have er2 : r = true := by rw [er]; rfl
           clear er;subst er2;go_wp2;go_ret;exact ⟨rfl, (bel_trans (bel_trans (bel_alloc (bel_alloc (Below.refl _ _) _) _) HB4.out) HBz.out)⟩
          ·have q1 : (sub == 1) = false := by simpa using h1
           by_cases h4 : sub = 4
           ·subst h4
            have er2 : r = true := by rw [er]; rfl
            clear er;subst er2;go_wp2;go_ret;exact ⟨rfl, (bel_trans (bel_trans (bel_alloc (bel_alloc (Below.refl _ _) _) _) HB4.out) HBz.out)⟩
           ·have q4 : (sub == 4) = false := by simpa using h4
            rw [q1, q4, Bool.false_or, Bool.false_or] at er;subst er;go_wp2;go_ret;exact ⟨rfl, (bel_trans (bel_trans (bel_alloc (bel_alloc (Below.refl _ _) _) _) HB4.out) HBz.out)⟩
         ·have er : r = true := by rw [HR.out]; simp [subOk]
          subst er;go_wp2;go_ret;exact ⟨rfl, (bel_trans (bel_trans (bel_alloc (bel_alloc (Below.refl _ _) _) _) HB4.out) HBz.out)⟩
         ·have er : r = (decide (0 ≤ k) && decide (k ≤ frame)) := by rw [HR.out]; simp [subOk]
          by_cases hs : 0 ≤ k
          ·have q : decide (0 ≤ k) = true := by simpa using hs
           rw [q, Bool.true_and] at er;subst er;go_wp2;go_ret;exact ⟨rfl, (bel_trans (bel_trans (bel_alloc (bel_alloc (Below.refl _ _) _) _) HB4.out) HBz.out)⟩
          ·have q : decide (0 ≤ k) = false := by simpa using hs
           rw [q, Bool.false_and] at er;subst er;go_wp2;go_ret;exact ⟨rfl, (bel_trans (bel_trans (bel_alloc (bel_alloc (Below.refl _ _) _) _) HB4.out) HBz.out)⟩
         ·have er : r = true := by rw [HR.out]; simp [subOk]
          subst er;go_wp2;go_ret;exact ⟨rfl, (bel_trans (bel_trans (bel_alloc (bel_alloc (Below.refl _ _) _) _) HB4.out) HBz.out)⟩
         ·have er : r = (decide (21 ≤ sub) && decide (sub ≤ 26)) := by rw [HR.out]; simp [subOk]
          by_cases hs : 21 ≤ sub
          ·have q : decide (21 ≤ sub) = true := by simpa using hs
           rw [q, Bool.true_and] at er;subst er;go_wp2;go_ret;exact ⟨rfl, (bel_trans (bel_trans (bel_alloc (bel_alloc (Below.refl _ _) _) _) HB4.out) HBz.out)⟩
          ·have q : decide (21 ≤ sub) = false := by simpa using hs
           rw [q, Bool.false_and] at er;subst er;go_wp2;go_ret;exact ⟨rfl, (bel_trans (bel_trans (bel_alloc (bel_alloc (Below.refl _ _) _) _) HB4.out) HBz.out)⟩
         ·have er : r = true := by rw [HR.out]; simp [subOk]
          subst er;go_wp2;go_ret;exact ⟨rfl, (bel_trans (bel_trans (bel_alloc (bel_alloc (Below.refl _ _) _) _) HB4.out) HBz.out)⟩
         ·have er : r = true := by rw [HR.out]; simp [subOk]
          subst er;go_wp2;go_ret;exact ⟨rfl, (bel_trans (bel_trans (bel_alloc (bel_alloc (Below.refl _ _) _) _) HB4.out) HBz.out)⟩
         ·have er : r = true := by rw [HR.out]; simp [subOk]
          subst er;go_wp2;go_ret;exact ⟨rfl, (bel_trans (bel_trans (bel_alloc (bel_alloc (Below.refl _ _) _) _) HB4.out) HBz.out)⟩
         ·have e1 : (op == 1) = false := by simp; omega
          have e2 : (op == 2) = false := by simp; omega
          have e3 : (op == 3) = false := by simp; omega
          have e4 : (op == 4) = false := by simp; omega
          have e5 : (op == 5) = false := by simp; omega
          have e6 : (op == 6) = false := by simp; omega
          have e7 : (op == 7) = false := by simp; omega
          have e8 : (op == 8) = false := by simp; omega
          have e9 : (op == 9) = false := by simp; omega
          have e10 : (op == 10) = false := by simp; omega
          have e11 : (op == 11) = false := by simp; omega
          have e12 : (op == 12) = false := by simp; omega
          have e13 : (op == 13) = false := by simp; omega
          have e14 : (op == 14) = false := by simp; omega
          have er : r = false := by rw [HR.out]; unfold subOk; rw [if_neg (by omega), if_neg (by omega), if_neg (by omega), if_neg (by omega), if_neg (by omega)]; simp; omega
          subst er;clear ho;go_wp2;go_ret;exact ⟨rfl, (bel_trans (bel_trans (bel_alloc (bel_alloc (Below.refl _ _) _) _) HB4.out) HBz.out)⟩

def rightF (regs frame n : Int) (i : Ins) : Bool := rightL (needA i.op) (needB i.op) (needD i.op) i.op i.sub i.a i.b i.d i.k (writesF i.op i.d) regs frame n (usesF i.op i.a i.b i.args) (succsF i.op i.s i.t)
theorem rRight1_any {w : World} {fv iv : Value} {f : Fn} {i : Ins} (hf : FnV w fv f) (hi : ∃ v, iv = insV i.op i.sub i.a i.b i.d i.k v i.s i.t ∧ IL w v i.args) :
  Calls prog 19 #[fv, iv] w (retP (.bool (rightF f.regs f.frame f.code.length i)) w) := by
 obtain ⟨pv, cv, rfl, hp, hc, hnm⟩ := hf;obtain ⟨v, rfl, hv⟩ := hi;obtain ⟨ca, cap, rfl, hn, _, _⟩ := hc;exact right_walk f.name pv f.regs f.frame f.entry ca f.code.length cap i.op i.sub i.a i.b i.d i.k v i.s i.t _ _ _ _ _ _ _ w hn (fun W => rNeeds_any _ _ _ _ _ _ _ _ _ W) (fun W => rWrites_any _ _ _ _ _ _ _ _ _ W) (fun W hW => rUses_any _ _ _ _ _ _ _ _ _ _ W (hv.keep hW)) (fun W => rSuccs_any _ _ _ _ _ _ _ _ _ W) rfl

end Go.Proofs.YtncondlfngeilaaGreatDoor
