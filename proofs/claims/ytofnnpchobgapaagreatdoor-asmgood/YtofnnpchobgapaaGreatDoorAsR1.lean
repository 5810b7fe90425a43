/- The document's own machine code: leaves. -/
import Derived.Test.YtofnnpchobgapaaGreatDoorAsG3
namespace Go.Proofs.YtofnnpchobgapaaGreatDoor
open Go.ChangeShapes Go.WideShapes Go.ChangeAt Go.RowKit
set_option linter.unusedSimpArgs false
set_option linter.unusedVariables false

/-- The operations, one by one. -/
theorem aop_cases (op : Int) : op = 1 ∨ op = 2 ∨ op = 3 ∨ op = 4 ∨ op = 5 ∨ op = 6 ∨ op = 7 ∨ op = 8 ∨ op = 9 ∨ op = 10 ∨ op = 11 ∨ op = 12 ∨ op = 13 ∨ op = 14 ∨ op = 15 ∨ op = 16 ∨ op = 17 ∨ op = 18 ∨ op = 19 ∨ op = 20 ∨ op = 21 ∨ op = 22 ∨ op = 23 ∨ op = 24 ∨ op = 25 ∨ op = 26 ∨ (op < 1 ∨ 26 < op) := by omega

set_option maxHeartbeats 4000000 in
theorem awrites_any (op r m sub cc l k : Int) (w : World) : Calls Tryz.prog 28 #[.agg #[.int .i64 op, .int .i64 r, .int .i64 m, .int .i64 sub, .int .i64 cc, .int .i64 l, .int .i64 k]] w (retP (.bool (awrB op)) w) := by

  rcases aop_cases op with rfl | rfl | rfl | rfl | rfl | rfl | rfl | rfl | rfl | rfl | rfl | rfl | rfl | rfl | rfl | rfl | rfl | rfl | rfl | rfl | rfl | rfl | rfl | rfl | rfl | rfl | ho
  · go_enter Tryz.func28, Tryz.ntmps28
    go_wp2
    go_ret
    exact ⟨rfl, (by repeat (first | with_reducible exact Below.refl _ _ | with_reducible refine bel_alloc ?_ _ | with_reducible refine bel_set ?_ (by first | exact Nat.le_refl _ | (simp; done) | (simp; omega)) _ | with_reducible refine Below.drew ?_ | refine bel_trans ?_ (by assumption)))⟩
  · go_enter Tryz.func28, Tryz.ntmps28
    go_wp2
    go_ret
    exact ⟨rfl, (by repeat (first | with_reducible exact Below.refl _ _ | with_reducible refine bel_alloc ?_ _ | with_reducible refine bel_set ?_ (by first | exact Nat.le_refl _ | (simp; done) | (simp; omega)) _ | with_reducible refine Below.drew ?_ | refine bel_trans ?_ (by assumption)))⟩
  · go_enter Tryz.func28, Tryz.ntmps28
    go_wp2
    go_ret
    exact ⟨rfl, (by repeat (first | with_reducible exact Below.refl _ _ | with_reducible refine bel_alloc ?_ _ | with_reducible refine bel_set ?_ (by first | exact Nat.le_refl _ | (simp; done) | (simp; omega)) _ | with_reducible refine Below.drew ?_ | refine bel_trans ?_ (by assumption)))⟩
  · go_enter Tryz.func28, Tryz.ntmps28
    go_wp2
    go_ret
    exact ⟨rfl, (by repeat (first | with_reducible exact Below.refl _ _ | with_reducible refine bel_alloc ?_ _ | with_reducible refine bel_set ?_ (by first | exact Nat.le_refl _ | (simp; done) | (simp; omega)) _ | with_reducible refine Below.drew ?_ | refine bel_trans ?_ (by assumption)))⟩
  · go_enter Tryz.func28, Tryz.ntmps28
    go_wp2
    go_ret
    exact ⟨rfl, (by repeat (first | with_reducible exact Below.refl _ _ | with_reducible refine bel_alloc ?_ _ | with_reducible refine bel_set ?_ (by first | exact Nat.le_refl _ | (simp; done) | (simp; omega)) _ | with_reducible refine Below.drew ?_ | refine bel_trans ?_ (by assumption)))⟩
  · go_enter Tryz.func28, Tryz.ntmps28
    go_wp2
    go_ret
    exact ⟨rfl, (by repeat (first | with_reducible exact Below.refl _ _ | with_reducible refine bel_alloc ?_ _ | with_reducible refine bel_set ?_ (by first | exact Nat.le_refl _ | (simp; done) | (simp; omega)) _ | with_reducible refine Below.drew ?_ | refine bel_trans ?_ (by assumption)))⟩
  · go_enter Tryz.func28, Tryz.ntmps28
    go_wp2
    go_ret
    exact ⟨rfl, (by repeat (first | with_reducible exact Below.refl _ _ | with_reducible refine bel_alloc ?_ _ | with_reducible refine bel_set ?_ (by first | exact Nat.le_refl _ | (simp; done) | (simp; omega)) _ | with_reducible refine Below.drew ?_ | refine bel_trans ?_ (by assumption)))⟩
  · go_enter Tryz.func28, Tryz.ntmps28
    go_wp2
    go_ret
    exact ⟨rfl, (by repeat (first | with_reducible exact Below.refl _ _ | with_reducible refine bel_alloc ?_ _ | with_reducible refine bel_set ?_ (by first | exact Nat.le_refl _ | (simp; done) | (simp; omega)) _ | with_reducible refine Below.drew ?_ | refine bel_trans ?_ (by assumption)))⟩
  · go_enter Tryz.func28, Tryz.ntmps28
    go_wp2
    go_ret
    exact ⟨rfl, (by repeat (first | with_reducible exact Below.refl _ _ | with_reducible refine bel_alloc ?_ _ | with_reducible refine bel_set ?_ (by first | exact Nat.le_refl _ | (simp; done) | (simp; omega)) _ | with_reducible refine Below.drew ?_ | refine bel_trans ?_ (by assumption)))⟩
  · go_enter Tryz.func28, Tryz.ntmps28
    go_wp2
    go_ret
    exact ⟨rfl, (by repeat (first | with_reducible exact Below.refl _ _ | with_reducible refine bel_alloc ?_ _ | with_reducible refine bel_set ?_ (by first | exact Nat.le_refl _ | (simp; done) | (simp; omega)) _ | with_reducible refine Below.drew ?_ | refine bel_trans ?_ (by assumption)))⟩
  · go_enter Tryz.func28, Tryz.ntmps28
    go_wp2
    go_ret
    exact ⟨rfl, (by repeat (first | with_reducible exact Below.refl _ _ | with_reducible refine bel_alloc ?_ _ | with_reducible refine bel_set ?_ (by first | exact Nat.le_refl _ | (simp; done) | (simp; omega)) _ | with_reducible refine Below.drew ?_ | refine bel_trans ?_ (by assumption)))⟩
  · go_enter Tryz.func28, Tryz.ntmps28
    go_wp2
    go_ret
    exact ⟨rfl, (by repeat (first | with_reducible exact Below.refl _ _ | with_reducible refine bel_alloc ?_ _ | with_reducible refine bel_set ?_ (by first | exact Nat.le_refl _ | (simp; done) | (simp; omega)) _ | with_reducible refine Below.drew ?_ | refine bel_trans ?_ (by assumption)))⟩
  · go_enter Tryz.func28, Tryz.ntmps28
    go_wp2
    go_ret
    exact ⟨rfl, (by repeat (first | with_reducible exact Below.refl _ _ | with_reducible refine bel_alloc ?_ _ | with_reducible refine bel_set ?_ (by first | exact Nat.le_refl _ | (simp; done) | (simp; omega)) _ | with_reducible refine Below.drew ?_ | refine bel_trans ?_ (by assumption)))⟩
  · go_enter Tryz.func28, Tryz.ntmps28
    go_wp2
    go_ret
    exact ⟨rfl, (by repeat (first | with_reducible exact Below.refl _ _ | with_reducible refine bel_alloc ?_ _ | with_reducible refine bel_set ?_ (by first | exact Nat.le_refl _ | (simp; done) | (simp; omega)) _ | with_reducible refine Below.drew ?_ | refine bel_trans ?_ (by assumption)))⟩
  · go_enter Tryz.func28, Tryz.ntmps28
    go_wp2
    go_ret
    exact ⟨rfl, (by repeat (first | with_reducible exact Below.refl _ _ | with_reducible refine bel_alloc ?_ _ | with_reducible refine bel_set ?_ (by first | exact Nat.le_refl _ | (simp; done) | (simp; omega)) _ | with_reducible refine Below.drew ?_ | refine bel_trans ?_ (by assumption)))⟩
  · go_enter Tryz.func28, Tryz.ntmps28
    go_wp2
    go_ret
    exact ⟨rfl, (by repeat (first | with_reducible exact Below.refl _ _ | with_reducible refine bel_alloc ?_ _ | with_reducible refine bel_set ?_ (by first | exact Nat.le_refl _ | (simp; done) | (simp; omega)) _ | with_reducible refine Below.drew ?_ | refine bel_trans ?_ (by assumption)))⟩
  · go_enter Tryz.func28, Tryz.ntmps28
    go_wp2
    go_ret
    exact ⟨rfl, (by repeat (first | with_reducible exact Below.refl _ _ | with_reducible refine bel_alloc ?_ _ | with_reducible refine bel_set ?_ (by first | exact Nat.le_refl _ | (simp; done) | (simp; omega)) _ | with_reducible refine Below.drew ?_ | refine bel_trans ?_ (by assumption)))⟩
  · go_enter Tryz.func28, Tryz.ntmps28
    go_wp2
    go_ret
    exact ⟨rfl, (by repeat (first | with_reducible exact Below.refl _ _ | with_reducible refine bel_alloc ?_ _ | with_reducible refine bel_set ?_ (by first | exact Nat.le_refl _ | (simp; done) | (simp; omega)) _ | with_reducible refine Below.drew ?_ | refine bel_trans ?_ (by assumption)))⟩
  · go_enter Tryz.func28, Tryz.ntmps28
    go_wp2
    go_ret
    exact ⟨rfl, (by repeat (first | with_reducible exact Below.refl _ _ | with_reducible refine bel_alloc ?_ _ | with_reducible refine bel_set ?_ (by first | exact Nat.le_refl _ | (simp; done) | (simp; omega)) _ | with_reducible refine Below.drew ?_ | refine bel_trans ?_ (by assumption)))⟩
  · go_enter Tryz.func28, Tryz.ntmps28
    go_wp2
    go_ret
    exact ⟨rfl, (by repeat (first | with_reducible exact Below.refl _ _ | with_reducible refine bel_alloc ?_ _ | with_reducible refine bel_set ?_ (by first | exact Nat.le_refl _ | (simp; done) | (simp; omega)) _ | with_reducible refine Below.drew ?_ | refine bel_trans ?_ (by assumption)))⟩
  · go_enter Tryz.func28, Tryz.ntmps28
    go_wp2
    go_ret
    exact ⟨rfl, (by repeat (first | with_reducible exact Below.refl _ _ | with_reducible refine bel_alloc ?_ _ | with_reducible refine bel_set ?_ (by first | exact Nat.le_refl _ | (simp; done) | (simp; omega)) _ | with_reducible refine Below.drew ?_ | refine bel_trans ?_ (by assumption)))⟩
  · go_enter Tryz.func28, Tryz.ntmps28
    go_wp2
    go_ret
    exact ⟨rfl, (by repeat (first | with_reducible exact Below.refl _ _ | with_reducible refine bel_alloc ?_ _ | with_reducible refine bel_set ?_ (by first | exact Nat.le_refl _ | (simp; done) | (simp; omega)) _ | with_reducible refine Below.drew ?_ | refine bel_trans ?_ (by assumption)))⟩
  · go_enter Tryz.func28, Tryz.ntmps28
    go_wp2
    go_ret
    exact ⟨rfl, (by repeat (first | with_reducible exact Below.refl _ _ | with_reducible refine bel_alloc ?_ _ | with_reducible refine bel_set ?_ (by first | exact Nat.le_refl _ | (simp; done) | (simp; omega)) _ | with_reducible refine Below.drew ?_ | refine bel_trans ?_ (by assumption)))⟩
  · go_enter Tryz.func28, Tryz.ntmps28
    go_wp2
    go_ret
    exact ⟨rfl, (by repeat (first | with_reducible exact Below.refl _ _ | with_reducible refine bel_alloc ?_ _ | with_reducible refine bel_set ?_ (by first | exact Nat.le_refl _ | (simp; done) | (simp; omega)) _ | with_reducible refine Below.drew ?_ | refine bel_trans ?_ (by assumption)))⟩
  · go_enter Tryz.func28, Tryz.ntmps28
    go_wp2
    go_ret
    exact ⟨rfl, (by repeat (first | with_reducible exact Below.refl _ _ | with_reducible refine bel_alloc ?_ _ | with_reducible refine bel_set ?_ (by first | exact Nat.le_refl _ | (simp; done) | (simp; omega)) _ | with_reducible refine Below.drew ?_ | refine bel_trans ?_ (by assumption)))⟩
  · go_enter Tryz.func28, Tryz.ntmps28
    go_wp2
    go_ret
    exact ⟨rfl, (by repeat (first | with_reducible exact Below.refl _ _ | with_reducible refine bel_alloc ?_ _ | with_reducible refine bel_set ?_ (by first | exact Nat.le_refl _ | (simp; done) | (simp; omega)) _ | with_reducible refine Below.drew ?_ | refine bel_trans ?_ (by assumption)))⟩
  · have e1 : (op == 1) = false := by simp; omega
    have e2 : (op == 2) = false := by simp; omega
    have e3 : (op == 3) = false := by simp; omega
    have e4 : (op == 4) = false := by simp; omega
    have e5 : (op == 5) = false := by simp; omega
    have e6 : (op == 6) = false := by simp; omega
    have e7 : (op == 7) = false := by simp; omega
    have e8 : (op == 8) = false := by simp; omega
    have e9 : (op == 9) = false := by simp; omega
    have e10 : (op == 10) = false := by simp; omega
    have e11 : (op == 11) = false := by simp; omega
    have e12 : (op == 12) = false := by simp; omega
    have e13 : (op == 13) = false := by simp; omega
    have e14 : (op == 14) = false := by simp; omega
    have e15 : (op == 15) = false := by simp; omega
    have e16 : (op == 16) = false := by simp; omega
    have e17 : (op == 17) = false := by simp; omega
    have e18 : (op == 18) = false := by simp; omega
    have e19 : (op == 19) = false := by simp; omega
    have e20 : (op == 20) = false := by simp; omega
    have e21 : (op == 21) = false := by simp; omega
    have e22 : (op == 22) = false := by simp; omega
    have e23 : (op == 23) = false := by simp; omega
    have e24 : (op == 24) = false := by simp; omega
    have e25 : (op == 25) = false := by simp; omega
    have e26 : (op == 26) = false := by simp; omega
    have hw : awrB op = false := by unfold awrB; simp [e1, e2, e3, e5, e6, e7, e8, e9, e10, e11, e12, e17]
    rw [hw]
    clear hw ho
    go_enter Tryz.func28, Tryz.ntmps28
    go_wp2
    go_ret
    exact ⟨rfl, (by repeat (first | with_reducible exact Below.refl _ _ | with_reducible refine bel_alloc ?_ _ | with_reducible refine bel_set ?_ (by first | exact Nat.le_refl _ | (simp; done) | (simp; omega)) _ | with_reducible refine Below.drew ?_ | refine bel_trans ?_ (by assumption)))⟩

def retT (a b : Bool) (w : World) : Ending → World → Prop := fun e w' => e = .returned (.tuple #[.bool a, .bool b]) ∧ Below w.heap.size w w'
theorem end_T {P : Program} {fn : Func} {a : Act} {w w' : World} {x y : Bool} (hr : (results fn a.tmps).run P w' = .ok (.tuple #[.bool x, .bool y]) w') (hd : a.defers = []) (hb : Below w.heap.size w w') :
    bodyPost P fn (retT x y w) .ret a w' := bodyPost_ret hr hd ⟨rfl, hb⟩

set_option maxHeartbeats 8000000 in
theorem anames_any (op r m sub cc l k : Int) (w : World) : Calls Tryz.prog 27 #[.agg #[.int .i64 op, .int .i64 r, .int .i64 m, .int .i64 sub, .int .i64 cc, .int .i64 l, .int .i64 k]] w (retT (anrB op) (anmB op) w) := by
  have HW : Hid (∀ W, Calls Tryz.prog 28 #[.agg #[.int .i64 op, .int .i64 r, .int .i64 m, .int .i64 sub, .int .i64 cc, .int .i64 l, .int .i64 k]] W (retP (.bool (awrB op)) W)) := fun W => awrites_any op r m sub cc l k W

  rcases aop_cases op with rfl | rfl | rfl | rfl | rfl | rfl | rfl | rfl | rfl | rfl | rfl | rfl | rfl | rfl | rfl | rfl | rfl | rfl | rfl | rfl | rfl | rfl | rfl | rfl | rfl | rfl | ho
  · have e : awrB 1 = true := rfl
    rw [e] at HW
    clear e
    have en : anrB 1 = true := rfl
    have em : anmB 1 = true := rfl
    rw [en, em]
    clear en em
    go_enter Tryz.func27, Tryz.ntmps27
    go_wp2_with (go_at_call 28; refine (HW.out _).mono ?_; rintro e w1 ⟨rfl, hb1⟩; have HB1 := hid (bel_trans (bel_alloc (Below.refl _ _) _) hb1); have c0 := keep_cell hb1 (p := ⟨w.heap.size, 0, none⟩) (v := .int .i64 1) (by simp); clear hb1)
    exact end_T (by simp [results, Tryz.results27, go_sem]) rfl HB1.out
  · have e : awrB 2 = true := rfl
    rw [e] at HW
    clear e
    have en : anrB 2 = true := rfl
    have em : anmB 2 = false := rfl
    rw [en, em]
    clear en em
    go_enter Tryz.func27, Tryz.ntmps27
    go_wp2_with (go_at_call 28; refine (HW.out _).mono ?_; rintro e w1 ⟨rfl, hb1⟩; have HB1 := hid (bel_trans (bel_alloc (Below.refl _ _) _) hb1); have c0 := keep_cell hb1 (p := ⟨w.heap.size, 0, none⟩) (v := .int .i64 2) (by simp); clear hb1)
    exact end_T (by simp [results, Tryz.results27, go_sem]) rfl HB1.out
  · have e : awrB 3 = true := rfl
    rw [e] at HW
    clear e
    have en : anrB 3 = true := rfl
    have em : anmB 3 = true := rfl
    rw [en, em]
    clear en em
    go_enter Tryz.func27, Tryz.ntmps27
    go_wp2_with (go_at_call 28; refine (HW.out _).mono ?_; rintro e w1 ⟨rfl, hb1⟩; have HB1 := hid (bel_trans (bel_alloc (Below.refl _ _) _) hb1); have c0 := keep_cell hb1 (p := ⟨w.heap.size, 0, none⟩) (v := .int .i64 3) (by simp); clear hb1)
    exact end_T (by simp [results, Tryz.results27, go_sem]) rfl HB1.out
  · have e : awrB 4 = false := rfl
    rw [e] at HW
    clear e
    have en : anrB 4 = true := rfl
    have em : anmB 4 = true := rfl
    rw [en, em]
    clear en em
    go_enter Tryz.func27, Tryz.ntmps27
    go_wp2_with (go_at_call 28; refine (HW.out _).mono ?_; rintro e w1 ⟨rfl, hb1⟩; have HB1 := hid (bel_trans (bel_alloc (Below.refl _ _) _) hb1); have c0 := keep_cell hb1 (p := ⟨w.heap.size, 0, none⟩) (v := .int .i64 4) (by simp); clear hb1)
    exact end_T (by simp [results, Tryz.results27, go_sem]) rfl HB1.out
  · have e : awrB 5 = true := rfl
    rw [e] at HW
    clear e
    have en : anrB 5 = true := rfl
    have em : anmB 5 = true := rfl
    rw [en, em]
    clear en em
    go_enter Tryz.func27, Tryz.ntmps27
    go_wp2_with (go_at_call 28; refine (HW.out _).mono ?_; rintro e w1 ⟨rfl, hb1⟩; have HB1 := hid (bel_trans (bel_alloc (Below.refl _ _) _) hb1); have c0 := keep_cell hb1 (p := ⟨w.heap.size, 0, none⟩) (v := .int .i64 5) (by simp); clear hb1)
    exact end_T (by simp [results, Tryz.results27, go_sem]) rfl HB1.out
  · have e : awrB 6 = true := rfl
    rw [e] at HW
    clear e
    have en : anrB 6 = true := rfl
    have em : anmB 6 = false := rfl
    rw [en, em]
    clear en em
    go_enter Tryz.func27, Tryz.ntmps27
    go_wp2_with (go_at_call 28; refine (HW.out _).mono ?_; rintro e w1 ⟨rfl, hb1⟩; have HB1 := hid (bel_trans (bel_alloc (Below.refl _ _) _) hb1); have c0 := keep_cell hb1 (p := ⟨w.heap.size, 0, none⟩) (v := .int .i64 6) (by simp); clear hb1)
    exact end_T (by simp [results, Tryz.results27, go_sem]) rfl HB1.out
  · have e : awrB 7 = true := rfl
    rw [e] at HW
    clear e
    have en : anrB 7 = true := rfl
    have em : anmB 7 = true := rfl
    rw [en, em]
    clear en em
    go_enter Tryz.func27, Tryz.ntmps27
    go_wp2_with (go_at_call 28; refine (HW.out _).mono ?_; rintro e w1 ⟨rfl, hb1⟩; have HB1 := hid (bel_trans (bel_alloc (Below.refl _ _) _) hb1); have c0 := keep_cell hb1 (p := ⟨w.heap.size, 0, none⟩) (v := .int .i64 7) (by simp); clear hb1)
    exact end_T (by simp [results, Tryz.results27, go_sem]) rfl HB1.out
  · have e : awrB 8 = true := rfl
    rw [e] at HW
    clear e
    have en : anrB 8 = true := rfl
    have em : anmB 8 = false := rfl
    rw [en, em]
    clear en em
    go_enter Tryz.func27, Tryz.ntmps27
    go_wp2_with (go_at_call 28; refine (HW.out _).mono ?_; rintro e w1 ⟨rfl, hb1⟩; have HB1 := hid (bel_trans (bel_alloc (Below.refl _ _) _) hb1); have c0 := keep_cell hb1 (p := ⟨w.heap.size, 0, none⟩) (v := .int .i64 8) (by simp); clear hb1)
    exact end_T (by simp [results, Tryz.results27, go_sem]) rfl HB1.out
  · have e : awrB 9 = true := rfl
    rw [e] at HW
    clear e
    have en : anrB 9 = true := rfl
    have em : anmB 9 = false := rfl
    rw [en, em]
    clear en em
    go_enter Tryz.func27, Tryz.ntmps27
    go_wp2_with (go_at_call 28; refine (HW.out _).mono ?_; rintro e w1 ⟨rfl, hb1⟩; have HB1 := hid (bel_trans (bel_alloc (Below.refl _ _) _) hb1); have c0 := keep_cell hb1 (p := ⟨w.heap.size, 0, none⟩) (v := .int .i64 9) (by simp); clear hb1)
    exact end_T (by simp [results, Tryz.results27, go_sem]) rfl HB1.out
  · have e : awrB 10 = true := rfl
    rw [e] at HW
    clear e
    have en : anrB 10 = true := rfl
    have em : anmB 10 = true := rfl
    rw [en, em]
    clear en em
    go_enter Tryz.func27, Tryz.ntmps27
    go_wp2_with (go_at_call 28; refine (HW.out _).mono ?_; rintro e w1 ⟨rfl, hb1⟩; have HB1 := hid (bel_trans (bel_alloc (Below.refl _ _) _) hb1); have c0 := keep_cell hb1 (p := ⟨w.heap.size, 0, none⟩) (v := .int .i64 10) (by simp); clear hb1)
    exact end_T (by simp [results, Tryz.results27, go_sem]) rfl HB1.out
  · have e : awrB 11 = true := rfl
    rw [e] at HW
    clear e
    have en : anrB 11 = true := rfl
    have em : anmB 11 = false := rfl
    rw [en, em]
    clear en em
    go_enter Tryz.func27, Tryz.ntmps27
    go_wp2_with (go_at_call 28; refine (HW.out _).mono ?_; rintro e w1 ⟨rfl, hb1⟩; have HB1 := hid (bel_trans (bel_alloc (Below.refl _ _) _) hb1); have c0 := keep_cell hb1 (p := ⟨w.heap.size, 0, none⟩) (v := .int .i64 11) (by simp); clear hb1)
    exact end_T (by simp [results, Tryz.results27, go_sem]) rfl HB1.out
  · have e : awrB 12 = true := rfl
    rw [e] at HW
    clear e
    have en : anrB 12 = true := rfl
    have em : anmB 12 = false := rfl
    rw [en, em]
    clear en em
    go_enter Tryz.func27, Tryz.ntmps27
    go_wp2_with (go_at_call 28; refine (HW.out _).mono ?_; rintro e w1 ⟨rfl, hb1⟩; have HB1 := hid (bel_trans (bel_alloc (Below.refl _ _) _) hb1); have c0 := keep_cell hb1 (p := ⟨w.heap.size, 0, none⟩) (v := .int .i64 12) (by simp); clear hb1)
    exact end_T (by simp [results, Tryz.results27, go_sem]) rfl HB1.out
  · have e : awrB 13 = false := rfl
    rw [e] at HW
    clear e
    have en : anrB 13 = false := rfl
    have em : anmB 13 = false := rfl
    rw [en, em]
    clear en em
    go_enter Tryz.func27, Tryz.ntmps27
    go_wp2_with (go_at_call 28; refine (HW.out _).mono ?_; rintro e w1 ⟨rfl, hb1⟩; have HB1 := hid (bel_trans (bel_alloc (Below.refl _ _) _) hb1); have c0 := keep_cell hb1 (p := ⟨w.heap.size, 0, none⟩) (v := .int .i64 13) (by simp); clear hb1)
    exact end_T (by simp [results, Tryz.results27, go_sem]) rfl HB1.out
  · have e : awrB 14 = false := rfl
    rw [e] at HW
    clear e
    have en : anrB 14 = false := rfl
    have em : anmB 14 = true := rfl
    rw [en, em]
    clear en em
    go_enter Tryz.func27, Tryz.ntmps27
    go_wp2_with (go_at_call 28; refine (HW.out _).mono ?_; rintro e w1 ⟨rfl, hb1⟩; have HB1 := hid (bel_trans (bel_alloc (Below.refl _ _) _) hb1); have c0 := keep_cell hb1 (p := ⟨w.heap.size, 0, none⟩) (v := .int .i64 14) (by simp); clear hb1)
    exact end_T (by simp [results, Tryz.results27, go_sem]) rfl HB1.out
  · have e : awrB 15 = false := rfl
    rw [e] at HW
    clear e
    have en : anrB 15 = true := rfl
    have em : anmB 15 = true := rfl
    rw [en, em]
    clear en em
    go_enter Tryz.func27, Tryz.ntmps27
    go_wp2_with (go_at_call 28; refine (HW.out _).mono ?_; rintro e w1 ⟨rfl, hb1⟩; have HB1 := hid (bel_trans (bel_alloc (Below.refl _ _) _) hb1); have c0 := keep_cell hb1 (p := ⟨w.heap.size, 0, none⟩) (v := .int .i64 15) (by simp); clear hb1)
    exact end_T (by simp [results, Tryz.results27, go_sem]) rfl HB1.out
  · have e : awrB 16 = false := rfl
    rw [e] at HW
    clear e
    have en : anrB 16 = true := rfl
    have em : anmB 16 = false := rfl
    rw [en, em]
    clear en em
    go_enter Tryz.func27, Tryz.ntmps27
    go_wp2_with (go_at_call 28; refine (HW.out _).mono ?_; rintro e w1 ⟨rfl, hb1⟩; have HB1 := hid (bel_trans (bel_alloc (Below.refl _ _) _) hb1); have c0 := keep_cell hb1 (p := ⟨w.heap.size, 0, none⟩) (v := .int .i64 16) (by simp); clear hb1)
    exact end_T (by simp [results, Tryz.results27, go_sem]) rfl HB1.out
  · have e : awrB 17 = true := rfl
    rw [e] at HW
    clear e
    have en : anrB 17 = true := rfl
    have em : anmB 17 = false := rfl
    rw [en, em]
    clear en em
    go_enter Tryz.func27, Tryz.ntmps27
    go_wp2_with (go_at_call 28; refine (HW.out _).mono ?_; rintro e w1 ⟨rfl, hb1⟩; have HB1 := hid (bel_trans (bel_alloc (Below.refl _ _) _) hb1); have c0 := keep_cell hb1 (p := ⟨w.heap.size, 0, none⟩) (v := .int .i64 17) (by simp); clear hb1)
    exact end_T (by simp [results, Tryz.results27, go_sem]) rfl HB1.out
  · have e : awrB 18 = false := rfl
    rw [e] at HW
    clear e
    have en : anrB 18 = false := rfl
    have em : anmB 18 = false := rfl
    rw [en, em]
    clear en em
    go_enter Tryz.func27, Tryz.ntmps27
    go_wp2_with (go_at_call 28; refine (HW.out _).mono ?_; rintro e w1 ⟨rfl, hb1⟩; have HB1 := hid (bel_trans (bel_alloc (Below.refl _ _) _) hb1); have c0 := keep_cell hb1 (p := ⟨w.heap.size, 0, none⟩) (v := .int .i64 18) (by simp); clear hb1)
    exact end_T (by simp [results, Tryz.results27, go_sem]) rfl HB1.out
  · have e : awrB 19 = false := rfl
    rw [e] at HW
    clear e
    have en : anrB 19 = false := rfl
    have em : anmB 19 = false := rfl
    rw [en, em]
    clear en em
    go_enter Tryz.func27, Tryz.ntmps27
    go_wp2_with (go_at_call 28; refine (HW.out _).mono ?_; rintro e w1 ⟨rfl, hb1⟩; have HB1 := hid (bel_trans (bel_alloc (Below.refl _ _) _) hb1); have c0 := keep_cell hb1 (p := ⟨w.heap.size, 0, none⟩) (v := .int .i64 19) (by simp); clear hb1)
    exact end_T (by simp [results, Tryz.results27, go_sem]) rfl HB1.out
  · have e : awrB 20 = false := rfl
    rw [e] at HW
    clear e
    have en : anrB 20 = false := rfl
    have em : anmB 20 = false := rfl
    rw [en, em]
    clear en em
    go_enter Tryz.func27, Tryz.ntmps27
    go_wp2_with (go_at_call 28; refine (HW.out _).mono ?_; rintro e w1 ⟨rfl, hb1⟩; have HB1 := hid (bel_trans (bel_alloc (Below.refl _ _) _) hb1); have c0 := keep_cell hb1 (p := ⟨w.heap.size, 0, none⟩) (v := .int .i64 20) (by simp); clear hb1)
    exact end_T (by simp [results, Tryz.results27, go_sem]) rfl HB1.out
  · have e : awrB 21 = false := rfl
    rw [e] at HW
    clear e
    have en : anrB 21 = false := rfl
    have em : anmB 21 = false := rfl
    rw [en, em]
    clear en em
    go_enter Tryz.func27, Tryz.ntmps27
    go_wp2_with (go_at_call 28; refine (HW.out _).mono ?_; rintro e w1 ⟨rfl, hb1⟩; have HB1 := hid (bel_trans (bel_alloc (Below.refl _ _) _) hb1); have c0 := keep_cell hb1 (p := ⟨w.heap.size, 0, none⟩) (v := .int .i64 21) (by simp); clear hb1)
    exact end_T (by simp [results, Tryz.results27, go_sem]) rfl HB1.out
  · have e : awrB 22 = false := rfl
    rw [e] at HW
    clear e
    have en : anrB 22 = false := rfl
    have em : anmB 22 = false := rfl
    rw [en, em]
    clear en em
    go_enter Tryz.func27, Tryz.ntmps27
    go_wp2_with (go_at_call 28; refine (HW.out _).mono ?_; rintro e w1 ⟨rfl, hb1⟩; have HB1 := hid (bel_trans (bel_alloc (Below.refl _ _) _) hb1); have c0 := keep_cell hb1 (p := ⟨w.heap.size, 0, none⟩) (v := .int .i64 22) (by simp); clear hb1)
    exact end_T (by simp [results, Tryz.results27, go_sem]) rfl HB1.out
  · have e : awrB 23 = false := rfl
    rw [e] at HW
    clear e
    have en : anrB 23 = false := rfl
    have em : anmB 23 = false := rfl
    rw [en, em]
    clear en em
    go_enter Tryz.func27, Tryz.ntmps27
    go_wp2_with (go_at_call 28; refine (HW.out _).mono ?_; rintro e w1 ⟨rfl, hb1⟩; have HB1 := hid (bel_trans (bel_alloc (Below.refl _ _) _) hb1); have c0 := keep_cell hb1 (p := ⟨w.heap.size, 0, none⟩) (v := .int .i64 23) (by simp); clear hb1)
    exact end_T (by simp [results, Tryz.results27, go_sem]) rfl HB1.out
  · have e : awrB 24 = false := rfl
    rw [e] at HW
    clear e
    have en : anrB 24 = false := rfl
    have em : anmB 24 = false := rfl
    rw [en, em]
    clear en em
    go_enter Tryz.func27, Tryz.ntmps27
    go_wp2_with (go_at_call 28; refine (HW.out _).mono ?_; rintro e w1 ⟨rfl, hb1⟩; have HB1 := hid (bel_trans (bel_alloc (Below.refl _ _) _) hb1); have c0 := keep_cell hb1 (p := ⟨w.heap.size, 0, none⟩) (v := .int .i64 24) (by simp); clear hb1)
    exact end_T (by simp [results, Tryz.results27, go_sem]) rfl HB1.out
  · have e : awrB 25 = false := rfl
    rw [e] at HW
    clear e
    have en : anrB 25 = false := rfl
    have em : anmB 25 = false := rfl
    rw [en, em]
    clear en em
    go_enter Tryz.func27, Tryz.ntmps27
    go_wp2_with (go_at_call 28; refine (HW.out _).mono ?_; rintro e w1 ⟨rfl, hb1⟩; have HB1 := hid (bel_trans (bel_alloc (Below.refl _ _) _) hb1); have c0 := keep_cell hb1 (p := ⟨w.heap.size, 0, none⟩) (v := .int .i64 25) (by simp); clear hb1)
    exact end_T (by simp [results, Tryz.results27, go_sem]) rfl HB1.out
  · have e : awrB 26 = false := rfl
    rw [e] at HW
    clear e
    have en : anrB 26 = false := rfl
    have em : anmB 26 = false := rfl
    rw [en, em]
    clear en em
    go_enter Tryz.func27, Tryz.ntmps27
    go_wp2_with (go_at_call 28; refine (HW.out _).mono ?_; rintro e w1 ⟨rfl, hb1⟩; have HB1 := hid (bel_trans (bel_alloc (Below.refl _ _) _) hb1); have c0 := keep_cell hb1 (p := ⟨w.heap.size, 0, none⟩) (v := .int .i64 26) (by simp); clear hb1)
    exact end_T (by simp [results, Tryz.results27, go_sem]) rfl HB1.out
  · have e1 : (op == 1) = false := by simp; omega
    have e2 : (op == 2) = false := by simp; omega
    have e3 : (op == 3) = false := by simp; omega
    have e4 : (op == 4) = false := by simp; omega
    have e5 : (op == 5) = false := by simp; omega
    have e6 : (op == 6) = false := by simp; omega
    have e7 : (op == 7) = false := by simp; omega
    have e8 : (op == 8) = false := by simp; omega
    have e9 : (op == 9) = false := by simp; omega
    have e10 : (op == 10) = false := by simp; omega
    have e11 : (op == 11) = false := by simp; omega
    have e12 : (op == 12) = false := by simp; omega
    have e13 : (op == 13) = false := by simp; omega
    have e14 : (op == 14) = false := by simp; omega
    have e15 : (op == 15) = false := by simp; omega
    have e16 : (op == 16) = false := by simp; omega
    have e17 : (op == 17) = false := by simp; omega
    have e18 : (op == 18) = false := by simp; omega
    have e19 : (op == 19) = false := by simp; omega
    have e20 : (op == 20) = false := by simp; omega
    have e21 : (op == 21) = false := by simp; omega
    have e22 : (op == 22) = false := by simp; omega
    have e23 : (op == 23) = false := by simp; omega
    have e24 : (op == 24) = false := by simp; omega
    have e25 : (op == 25) = false := by simp; omega
    have e26 : (op == 26) = false := by simp; omega
    have hw : awrB op = false := by unfold awrB; simp [e1, e2, e3, e5, e6, e7, e8, e9, e10, e11, e12, e17]
    have hn : anrB op = false := by unfold anrB; rw [hw]; simp [e4, e15, e16]
    have hm : anmB op = false := by unfold anmB; simp [e1, e3, e4, e5, e7, e10, e14, e15]
    rw [hn, hm]
    rw [hw] at HW
    clear hw hn hm ho
    go_enter Tryz.func27, Tryz.ntmps27
    go_wp2_with (go_at_call 28; refine (HW.out _).mono ?_; rintro e w1 ⟨rfl, hb1⟩; have HB1 := hid (bel_trans (bel_alloc (Below.refl _ _) _) hb1); have c0 := keep_cell hb1 (p := ⟨w.heap.size, 0, none⟩) (v := .int .i64 op) (by simp); clear hb1)
    exact end_T (by simp [results, Tryz.results27, go_sem]) rfl HB1.out

set_option maxHeartbeats 1000000 in
theorem asmall_any (k : Int) (w : World) : Calls Tryz.prog 29 #[.int .i64 k] w fun e w' => e = .returned (.bool (a32B k)) ∧ w' = w := by
  by_cases h : -2147483648 ≤ k
  · have q : decide (-2147483648 ≤ k) = true := by simpa using h
    go_enter Tryz.func29, Tryz.ntmps29
    go_wp2
    go_ret
    exact ⟨by simp [a32B, h], rfl⟩
  · have q : decide (-2147483648 ≤ k) = false := by simpa using h
    go_enter Tryz.func29, Tryz.ntmps29
    go_wp2
    go_ret
    exact ⟨by simp only [a32B, q]; rfl, rfl⟩
set_option maxHeartbeats 1000000 in
theorem acc_any (k : Int) (w : World) : Calls Tryz.prog 31 #[.int .i64 k] w fun e w' => e = .returned (.bool (accB k)) ∧ w' = w := by
  by_cases h : 21 ≤ k
  · have q : decide (21 ≤ k) = true := by simpa using h
    go_enter Tryz.func31, Tryz.ntmps31
    go_wp2
    go_ret
    exact ⟨by simp [accB, h], rfl⟩
  · have q : decide (21 ≤ k) = false := by simpa using h
    go_enter Tryz.func31, Tryz.ntmps31
    go_wp2
    go_ret
    exact ⟨by simp only [accB, q]; rfl, rfl⟩

set_option maxHeartbeats 4000000 in
theorem aalu_any (n : Int) (w : World) : Calls Tryz.prog 30 #[.int .i64 n] w fun e w' => e = .returned (.bool (aluB n)) ∧ w' = w := by
  cases q11 : (n == 11)
  · skip
    cases q12 : (n == 12)
    · skip
      cases q13 : (n == 13)
      · skip
        cases q16 : (n == 16)
        · skip
          cases q17 : (n == 17)
          · skip
            go_enter Tryz.func30, Tryz.ntmps30
            go_wp2
            go_ret
            exact ⟨by simp only [aluB, *]; rfl, rfl⟩
          · skip
            go_enter Tryz.func30, Tryz.ntmps30
            go_wp2
            go_ret
            exact ⟨by simp only [aluB, *]; rfl, rfl⟩
        · skip
          go_enter Tryz.func30, Tryz.ntmps30
          go_wp2
          go_ret
          exact ⟨by simp only [aluB, *]; rfl, rfl⟩
      · skip
        go_enter Tryz.func30, Tryz.ntmps30
        go_wp2
        go_ret
        exact ⟨by simp only [aluB, *]; rfl, rfl⟩
    · skip
      go_enter Tryz.func30, Tryz.ntmps30
      go_wp2
      go_ret
      exact ⟨by simp only [aluB, *]; rfl, rfl⟩
  · skip
    go_enter Tryz.func30, Tryz.ntmps30
    go_wp2
    go_ret
    exact ⟨by simp only [aluB, *]; rfl, rfl⟩

theorem placeA_drop {l : Int} : ∀ {code : List AIns} {i : Nat} {x : AIns} (n : Nat), code[i]? = some x → (∀ (j : Nat) y, j < i → code[j]? = some y → (y.op == 20 && y.l == l) = false) → (x.op == 20 && x.l == l) = true → placeA l code n = ((n + i : Nat) : Int)
  | [], i, x, n, h, _, _ => by simp at h
  | y :: code, 0, x, n, h, _, hx => by
    have e : y = x := by simpa using h
    subst e
    simp only [Bool.and_eq_true, beq_iff_eq] at hx
    rw [placeA, if_pos hx, Nat.add_zero]
  | y :: code, i + 1, x, n, h, hb, hx => by
    have h0 := hb 0 y (by omega) rfl
    have hn : ¬ (y.op = 20 ∧ y.l = l) := by
      intro hc
      rw [hc.1, hc.2] at h0
      simp at h0
    rw [placeA, if_neg hn, placeA_drop (n + 1) (by simpa using h) (fun j z hj hz => hb (j + 1) z (by omega) (by simpa using hz)) hx]
    congr 1
    omega
theorem placeA_none {l : Int} : ∀ {code : List AIns} (n : Nat), (∀ (j : Nat) y, code[j]? = some y → (y.op == 20 && y.l == l) = false) → placeA l code n = -1
  | [], n, _ => rfl
  | y :: code, n, hb => by
    have h0 := hb 0 y rfl
    have hn : ¬ (y.op = 20 ∧ y.l = l) := by
      intro hc
      rw [hc.1, hc.2] at h0
      simp at h0
    rw [placeA, if_neg hn]
    exact placeA_none (n + 1) (fun j z hz => hb (j + 1) z (by simpa using hz))
set_option maxRecDepth 100000 in
set_option maxHeartbeats 4000000 in
theorem aplace_walk (name : ByteArray) (ca : Option Addr) (n cap cb co : Nat) (code : List AIns) (l : Int) (w : World) (hn : n * 56 ≤ 140737488355328) (HN : Hid (n = code.length)) (HA : Hid (0 < n → ca = some ⟨cb, co, none⟩)) (HC : Hid (∀ (i : Nat) x, code[i]? = some x → AInsAt w cb (co + i * 7) x)) :
    Calls Tryz.prog 19 #[.agg #[.string name, .slice ca n cap], .int .i64 l] w (retP (.int .i64 (placeA l code 0)) w) := by
  have hnm : (n : Int) ≤ 9223372036854775807 := by omega
  go_enter Tryz.func19, Tryz.ntmps19
  go_wp2
  go_loopw [5] (fun vv wz => ∃ i : Nat, i ≤ n ∧ vv = .int .i64 i ∧ Hid (∀ (j : Nat) y, j < i → code[j]? = some y → (y.op == 20 && y.l == l) = false) ∧ wz = w.alloc (.cells #[.string name, .slice ca n cap] 44 (0, 0))) (fun vv _ => n - (intOf vv).toNat)
  case atStart => exact ⟨0, by omega, rfl, fun j y hj => by omega, rfl⟩
  case round =>
    obtain ⟨i, hi, rfl, HI, rfl⟩ := hrel
    by_cases hin : i < n
    · obtain rfl := HA.out (by omega)
      have j0 : (0 : Int) ≤ i := by omega
      have j1 : (i : Int) < n := by omega
      have hget := List.getElem?_eq_getElem (l := code) (show i < code.length by rw [← HN.out]; exact hin)
      generalize code[i]'(by rw [← HN.out]; exact hin) = y at hget
      have HG := hid hget
      obtain ⟨cx, _, _, _, _, cl, _⟩ := (HC.out i y hget).keep (bel_alloc (Below.refl w.heap.size w) (.cells #[.string name, .slice (some ⟨cb, co, none⟩) n cap] 44 (0, 0)))
      clear hget
      cases hq : (y.op == 20) with
      | false =>
        have HI2 := hid (aall_step (f := fun y : AIns => !(y.op == 20 && y.l == l)) HG.out (by simp only [hq]; rfl) (fun j y hj hy => by simp only [HI.out j y hj hy]; rfl))
        go_wp2
        go_roundw
        case rel => exact ⟨i + 1, by omega, by simp, fun j y hj hy => by have h := HI2.out j y hj hy; simpa only [Bool.not_eq_true'] using h, trivial⟩
        case measure => simp [intOf]; omega
      | true =>
        cases hl : (y.l == l) with
        | true =>
          have er := placeA_drop 0 HG.out HI.out (by rw [hq, hl]; rfl)
          rw [er]
          clear er
          go_wp2
          go_ret
          exact ⟨by simp, (by repeat (first | with_reducible exact Below.refl _ _ | with_reducible refine bel_alloc ?_ _ | with_reducible refine bel_set ?_ (by first | exact Nat.le_refl _ | (simp; done) | (simp; omega)) _ | with_reducible refine Below.drew ?_ | refine bel_trans ?_ (by assumption)))⟩
        | false =>
          have HI2 := hid (aall_step (f := fun y : AIns => !(y.op == 20 && y.l == l)) HG.out (by simp only [hq, hl]; rfl) (fun j y hj hy => by simp only [HI.out j y hj hy]; rfl))
          go_wp2
          go_roundw
          case rel => exact ⟨i + 1, by omega, by simp, fun j y hj hy => by have h := HI2.out j y hj hy; simpa only [Bool.not_eq_true'] using h, trivial⟩
          case measure => simp [intOf]; omega
    · obtain rfl : n = i := by omega
      have er := placeA_none (l := l) 0 (fun j y hy => HI.out j y (by rw [HN.out]; exact (List.getElem?_eq_some_iff.1 hy).1) hy)
      go_wp2
      go_ret
      exact ⟨by rw [er]; rfl, (by repeat (first | with_reducible exact Below.refl _ _ | with_reducible refine bel_alloc ?_ _ | with_reducible refine bel_set ?_ (by first | exact Nat.le_refl _ | (simp; done) | (simp; omega)) _ | with_reducible refine Below.drew ?_ | refine bel_trans ?_ (by assumption)))⟩
theorem aplaceF_any {w : World} {v : Value} {f : AFn} (l : Int) (h : AFnV w v f) : Calls Tryz.prog 19 #[v, .int .i64 l] w (retP (.int .i64 (placeA l f.code 0)) w) := by
  obtain ⟨cv, rfl, hc, _⟩ := h
  obtain ⟨ca, cap, cb, co, rfl, hl, ha, hcc⟩ := hc.parts
  exact aplace_walk f.name ca _ cap cb co f.code l w hl rfl ha hcc

end Go.Proofs.YtofnnpchobgapaaGreatDoor
