/- Contracts of the document's own answers: Num (a number's text), by induction. -/
import Derived.Test.YtdibjidjocmfhaaDoorTAwake
import Derived.Deep.RegionWith
namespace Go.Proofs.YtdibjidjocmfhaaDoor
open Go.ChangeShapes Go.WideShapes Go.ChangeAt Go.RowKit Pl
set_option linter.unusedSimpArgs false
set_option linter.unusedVariables false
theorem i64w (n : Int) : IntKind.i64.wrap n = wrap64 n := IntWalk.i64_left n

theorem dig0 : (ByteArray.extract ⟨#[48, 49, 50, 51, 52, 53, 54, 55, 56, 57]⟩ 0 1) = ⟨#[48]⟩ := by decide
set_option maxHeartbeats 400000 in
theorem num_d0 (w : World) : Calls Tryd.prog 35 #[.int .i64 0] w (retP (.string (ByteArray.extract ⟨#[48, 49, 50, 51, 52, 53, 54, 55, 56, 57]⟩ 0 1)) w) := by
  go_enter Tryd.func35, Tryd.ntmps35
  go_wp2
  go_ret
  exact ⟨rfl, (by repeat (first | with_reducible exact Below.refl _ _ | with_reducible refine bel_alloc ?_ _ | with_reducible refine bel_set ?_ (by first | exact Nat.le_refl _ | (simp; done) | (simp; omega)) _ | with_reducible refine Below.drew ?_ | refine bel_trans ?_ (by assumption)))⟩

theorem dig1 : (ByteArray.extract ⟨#[48, 49, 50, 51, 52, 53, 54, 55, 56, 57]⟩ 1 2) = ⟨#[49]⟩ := by decide
set_option maxHeartbeats 400000 in
theorem num_d1 (w : World) : Calls Tryd.prog 35 #[.int .i64 1] w (retP (.string (ByteArray.extract ⟨#[48, 49, 50, 51, 52, 53, 54, 55, 56, 57]⟩ 1 2)) w) := by
  go_enter Tryd.func35, Tryd.ntmps35
  go_wp2
  go_ret
  exact ⟨rfl, (by repeat (first | with_reducible exact Below.refl _ _ | with_reducible refine bel_alloc ?_ _ | with_reducible refine bel_set ?_ (by first | exact Nat.le_refl _ | (simp; done) | (simp; omega)) _ | with_reducible refine Below.drew ?_ | refine bel_trans ?_ (by assumption)))⟩

theorem dig2 : (ByteArray.extract ⟨#[48, 49, 50, 51, 52, 53, 54, 55, 56, 57]⟩ 2 3) = ⟨#[50]⟩ := by decide
set_option maxHeartbeats 400000 in
theorem num_d2 (w : World) : Calls Tryd.prog 35 #[.int .i64 2] w (retP (.string (ByteArray.extract ⟨#[48, 49, 50, 51, 52, 53, 54, 55, 56, 57]⟩ 2 3)) w) := by
  go_enter Tryd.func35, Tryd.ntmps35
  go_wp2
  go_ret
  exact ⟨rfl, (by repeat (first | with_reducible exact Below.refl _ _ | with_reducible refine bel_alloc ?_ _ | with_reducible refine bel_set ?_ (by first | exact Nat.le_refl _ | (simp; done) | (simp; omega)) _ | with_reducible refine Below.drew ?_ | refine bel_trans ?_ (by assumption)))⟩

theorem dig3 : (ByteArray.extract ⟨#[48, 49, 50, 51, 52, 53, 54, 55, 56, 57]⟩ 3 4) = ⟨#[51]⟩ := by decide
set_option maxHeartbeats 400000 in
theorem num_d3 (w : World) : Calls Tryd.prog 35 #[.int .i64 3] w (retP (.string (ByteArray.extract ⟨#[48, 49, 50, 51, 52, 53, 54, 55, 56, 57]⟩ 3 4)) w) := by
  go_enter Tryd.func35, Tryd.ntmps35
  go_wp2
  go_ret
  exact ⟨rfl, (by repeat (first | with_reducible exact Below.refl _ _ | with_reducible refine bel_alloc ?_ _ | with_reducible refine bel_set ?_ (by first | exact Nat.le_refl _ | (simp; done) | (simp; omega)) _ | with_reducible refine Below.drew ?_ | refine bel_trans ?_ (by assumption)))⟩

theorem dig4 : (ByteArray.extract ⟨#[48, 49, 50, 51, 52, 53, 54, 55, 56, 57]⟩ 4 5) = ⟨#[52]⟩ := by decide
set_option maxHeartbeats 400000 in
theorem num_d4 (w : World) : Calls Tryd.prog 35 #[.int .i64 4] w (retP (.string (ByteArray.extract ⟨#[48, 49, 50, 51, 52, 53, 54, 55, 56, 57]⟩ 4 5)) w) := by
  go_enter Tryd.func35, Tryd.ntmps35
  go_wp2
  go_ret
  exact ⟨rfl, (by repeat (first | with_reducible exact Below.refl _ _ | with_reducible refine bel_alloc ?_ _ | with_reducible refine bel_set ?_ (by first | exact Nat.le_refl _ | (simp; done) | (simp; omega)) _ | with_reducible refine Below.drew ?_ | refine bel_trans ?_ (by assumption)))⟩

theorem dig5 : (ByteArray.extract ⟨#[48, 49, 50, 51, 52, 53, 54, 55, 56, 57]⟩ 5 6) = ⟨#[53]⟩ := by decide
set_option maxHeartbeats 400000 in
theorem num_d5 (w : World) : Calls Tryd.prog 35 #[.int .i64 5] w (retP (.string (ByteArray.extract ⟨#[48, 49, 50, 51, 52, 53, 54, 55, 56, 57]⟩ 5 6)) w) := by
  go_enter Tryd.func35, Tryd.ntmps35
  go_wp2
  go_ret
  exact ⟨rfl, (by repeat (first | with_reducible exact Below.refl _ _ | with_reducible refine bel_alloc ?_ _ | with_reducible refine bel_set ?_ (by first | exact Nat.le_refl _ | (simp; done) | (simp; omega)) _ | with_reducible refine Below.drew ?_ | refine bel_trans ?_ (by assumption)))⟩

theorem dig6 : (ByteArray.extract ⟨#[48, 49, 50, 51, 52, 53, 54, 55, 56, 57]⟩ 6 7) = ⟨#[54]⟩ := by decide
set_option maxHeartbeats 400000 in
theorem num_d6 (w : World) : Calls Tryd.prog 35 #[.int .i64 6] w (retP (.string (ByteArray.extract ⟨#[48, 49, 50, 51, 52, 53, 54, 55, 56, 57]⟩ 6 7)) w) := by
  go_enter Tryd.func35, Tryd.ntmps35
  go_wp2
  go_ret
  exact ⟨rfl, (by repeat (first | with_reducible exact Below.refl _ _ | with_reducible refine bel_alloc ?_ _ | with_reducible refine bel_set ?_ (by first | exact Nat.le_refl _ | (simp; done) | (simp; omega)) _ | with_reducible refine Below.drew ?_ | refine bel_trans ?_ (by assumption)))⟩

theorem dig7 : (ByteArray.extract ⟨#[48, 49, 50, 51, 52, 53, 54, 55, 56, 57]⟩ 7 8) = ⟨#[55]⟩ := by decide
set_option maxHeartbeats 400000 in
theorem num_d7 (w : World) : Calls Tryd.prog 35 #[.int .i64 7] w (retP (.string (ByteArray.extract ⟨#[48, 49, 50, 51, 52, 53, 54, 55, 56, 57]⟩ 7 8)) w) := by
  go_enter Tryd.func35, Tryd.ntmps35
  go_wp2
  go_ret
  exact ⟨rfl, (by repeat (first | with_reducible exact Below.refl _ _ | with_reducible refine bel_alloc ?_ _ | with_reducible refine bel_set ?_ (by first | exact Nat.le_refl _ | (simp; done) | (simp; omega)) _ | with_reducible refine Below.drew ?_ | refine bel_trans ?_ (by assumption)))⟩

theorem dig8 : (ByteArray.extract ⟨#[48, 49, 50, 51, 52, 53, 54, 55, 56, 57]⟩ 8 9) = ⟨#[56]⟩ := by decide
set_option maxHeartbeats 400000 in
theorem num_d8 (w : World) : Calls Tryd.prog 35 #[.int .i64 8] w (retP (.string (ByteArray.extract ⟨#[48, 49, 50, 51, 52, 53, 54, 55, 56, 57]⟩ 8 9)) w) := by
  go_enter Tryd.func35, Tryd.ntmps35
  go_wp2
  go_ret
  exact ⟨rfl, (by repeat (first | with_reducible exact Below.refl _ _ | with_reducible refine bel_alloc ?_ _ | with_reducible refine bel_set ?_ (by first | exact Nat.le_refl _ | (simp; done) | (simp; omega)) _ | with_reducible refine Below.drew ?_ | refine bel_trans ?_ (by assumption)))⟩

theorem dig9 : (ByteArray.extract ⟨#[48, 49, 50, 51, 52, 53, 54, 55, 56, 57]⟩ 9 10) = ⟨#[57]⟩ := by decide
set_option maxHeartbeats 400000 in
theorem num_d9 (w : World) : Calls Tryd.prog 35 #[.int .i64 9] w (retP (.string (ByteArray.extract ⟨#[48, 49, 50, 51, 52, 53, 54, 55, 56, 57]⟩ 9 10)) w) := by
  go_enter Tryd.func35, Tryd.ntmps35
  go_wp2
  go_ret
  exact ⟨rfl, (by repeat (first | with_reducible exact Below.refl _ _ | with_reducible refine bel_alloc ?_ _ | with_reducible refine bel_set ?_ (by first | exact Nat.le_refl _ | (simp; done) | (simp; omega)) _ | with_reducible refine Below.drew ?_ | refine bel_trans ?_ (by assumption)))⟩

set_option maxHeartbeats 1000000 in
theorem num_p0 (n q : Int) (s : ByteArray) (w : World) (hn : 9 < n) (hn1 : n ≤ 9223372036854775807) (hq : IntKind.i64.wrap (n.tdiv 10) = q) (hr : n.tmod 10 = 0) (q1 : ¬ 9223372036854775807 < s.size + 1) (HI : Hid (∀ w, Calls Tryd.prog 35 #[.int .i64 q] w (retP (.string s) w))) : Calls Tryd.prog 35 #[.int .i64 n] w (retP (.string (s ++ (ByteArray.extract ⟨#[48, 49, 50, 51, 52, 53, 54, 55, 56, 57]⟩ 0 1))) w) := by
  go_enter Tryd.func35, Tryd.ntmps35
  go_wp2_with fail
  go_region_with (go_at_call 35; refine (HI.out _).mono ?_; rintro e v1 ⟨rfl, hv1⟩)
  all_goals
    go_wp2
    go_ret
    exact ⟨rfl, (by repeat (first | with_reducible exact Below.refl _ _ | with_reducible refine bel_alloc ?_ _ | with_reducible refine bel_set ?_ (by first | exact Nat.le_refl _ | (simp; done) | (simp; omega)) _ | with_reducible refine Below.drew ?_ | refine bel_trans ?_ (by assumption)))⟩

set_option maxHeartbeats 1000000 in
theorem num_p1 (n q : Int) (s : ByteArray) (w : World) (hn : 9 < n) (hn1 : n ≤ 9223372036854775807) (hq : IntKind.i64.wrap (n.tdiv 10) = q) (hr : n.tmod 10 = 1) (q1 : ¬ 9223372036854775807 < s.size + 1) (HI : Hid (∀ w, Calls Tryd.prog 35 #[.int .i64 q] w (retP (.string s) w))) : Calls Tryd.prog 35 #[.int .i64 n] w (retP (.string (s ++ (ByteArray.extract ⟨#[48, 49, 50, 51, 52, 53, 54, 55, 56, 57]⟩ 1 2))) w) := by
  go_enter Tryd.func35, Tryd.ntmps35
  go_wp2_with fail
  go_region_with (go_at_call 35; refine (HI.out _).mono ?_; rintro e v1 ⟨rfl, hv1⟩)
  all_goals
    go_wp2
    go_ret
    exact ⟨rfl, (by repeat (first | with_reducible exact Below.refl _ _ | with_reducible refine bel_alloc ?_ _ | with_reducible refine bel_set ?_ (by first | exact Nat.le_refl _ | (simp; done) | (simp; omega)) _ | with_reducible refine Below.drew ?_ | refine bel_trans ?_ (by assumption)))⟩

set_option maxHeartbeats 1000000 in
theorem num_p2 (n q : Int) (s : ByteArray) (w : World) (hn : 9 < n) (hn1 : n ≤ 9223372036854775807) (hq : IntKind.i64.wrap (n.tdiv 10) = q) (hr : n.tmod 10 = 2) (q1 : ¬ 9223372036854775807 < s.size + 1) (HI : Hid (∀ w, Calls Tryd.prog 35 #[.int .i64 q] w (retP (.string s) w))) : Calls Tryd.prog 35 #[.int .i64 n] w (retP (.string (s ++ (ByteArray.extract ⟨#[48, 49, 50, 51, 52, 53, 54, 55, 56, 57]⟩ 2 3))) w) := by
  go_enter Tryd.func35, Tryd.ntmps35
  go_wp2_with fail
  go_region_with (go_at_call 35; refine (HI.out _).mono ?_; rintro e v1 ⟨rfl, hv1⟩)
  all_goals
    go_wp2
    go_ret
    exact ⟨rfl, (by repeat (first | with_reducible exact Below.refl _ _ | with_reducible refine bel_alloc ?_ _ | with_reducible refine bel_set ?_ (by first | exact Nat.le_refl _ | (simp; done) | (simp; omega)) _ | with_reducible refine Below.drew ?_ | refine bel_trans ?_ (by assumption)))⟩

set_option maxHeartbeats 1000000 in
theorem num_p3 (n q : Int) (s : ByteArray) (w : World) (hn : 9 < n) (hn1 : n ≤ 9223372036854775807) (hq : IntKind.i64.wrap (n.tdiv 10) = q) (hr : n.tmod 10 = 3) (q1 : ¬ 9223372036854775807 < s.size + 1) (HI : Hid (∀ w, Calls Tryd.prog 35 #[.int .i64 q] w (retP (.string s) w))) : Calls Tryd.prog 35 #[.int .i64 n] w (retP (.string (s ++ (ByteArray.extract ⟨#[48, 49, 50, 51, 52, 53, 54, 55, 56, 57]⟩ 3 4))) w) := by
  go_enter Tryd.func35, Tryd.ntmps35
  go_wp2_with fail
  go_region_with (go_at_call 35; refine (HI.out _).mono ?_; rintro e v1 ⟨rfl, hv1⟩)
  all_goals
    go_wp2
    go_ret
    exact ⟨rfl, (by repeat (first | with_reducible exact Below.refl _ _ | with_reducible refine bel_alloc ?_ _ | with_reducible refine bel_set ?_ (by first | exact Nat.le_refl _ | (simp; done) | (simp; omega)) _ | with_reducible refine Below.drew ?_ | refine bel_trans ?_ (by assumption)))⟩

set_option maxHeartbeats 1000000 in
theorem num_p4 (n q : Int) (s : ByteArray) (w : World) (hn : 9 < n) (hn1 : n ≤ 9223372036854775807) (hq : IntKind.i64.wrap (n.tdiv 10) = q) (hr : n.tmod 10 = 4) (q1 : ¬ 9223372036854775807 < s.size + 1) (HI : Hid (∀ w, Calls Tryd.prog 35 #[.int .i64 q] w (retP (.string s) w))) : Calls Tryd.prog 35 #[.int .i64 n] w (retP (.string (s ++ (ByteArray.extract ⟨#[48, 49, 50, 51, 52, 53, 54, 55, 56, 57]⟩ 4 5))) w) := by
  go_enter Tryd.func35, Tryd.ntmps35
  go_wp2_with fail
  go_region_with (go_at_call 35; refine (HI.out _).mono ?_; rintro e v1 ⟨rfl, hv1⟩)
  all_goals
    go_wp2
    go_ret
    exact ⟨rfl, (by repeat (first | with_reducible exact Below.refl _ _ | with_reducible refine bel_alloc ?_ _ | with_reducible refine bel_set ?_ (by first | exact Nat.le_refl _ | (simp; done) | (simp; omega)) _ | with_reducible refine Below.drew ?_ | refine bel_trans ?_ (by assumption)))⟩

set_option maxHeartbeats 1000000 in
theorem num_p5 (n q : Int) (s : ByteArray) (w : World) (hn : 9 < n) (hn1 : n ≤ 9223372036854775807) (hq : IntKind.i64.wrap (n.tdiv 10) = q) (hr : n.tmod 10 = 5) (q1 : ¬ 9223372036854775807 < s.size + 1) (HI : Hid (∀ w, Calls Tryd.prog 35 #[.int .i64 q] w (retP (.string s) w))) : Calls Tryd.prog 35 #[.int .i64 n] w (retP (.string (s ++ (ByteArray.extract ⟨#[48, 49, 50, 51, 52, 53, 54, 55, 56, 57]⟩ 5 6))) w) := by
  go_enter Tryd.func35, Tryd.ntmps35
  go_wp2_with fail
  go_region_with (go_at_call 35; refine (HI.out _).mono ?_; rintro e v1 ⟨rfl, hv1⟩)
  all_goals
    go_wp2
    go_ret
    exact ⟨rfl, (by repeat (first | with_reducible exact Below.refl _ _ | with_reducible refine bel_alloc ?_ _ | with_reducible refine bel_set ?_ (by first | exact Nat.le_refl _ | (simp; done) | (simp; omega)) _ | with_reducible refine Below.drew ?_ | refine bel_trans ?_ (by assumption)))⟩

set_option maxHeartbeats 1000000 in
theorem num_p6 (n q : Int) (s : ByteArray) (w : World) (hn : 9 < n) (hn1 : n ≤ 9223372036854775807) (hq : IntKind.i64.wrap (n.tdiv 10) = q) (hr : n.tmod 10 = 6) (q1 : ¬ 9223372036854775807 < s.size + 1) (HI : Hid (∀ w, Calls Tryd.prog 35 #[.int .i64 q] w (retP (.string s) w))) : Calls Tryd.prog 35 #[.int .i64 n] w (retP (.string (s ++ (ByteArray.extract ⟨#[48, 49, 50, 51, 52, 53, 54, 55, 56, 57]⟩ 6 7))) w) := by
  go_enter Tryd.func35, Tryd.ntmps35
  go_wp2_with fail
  go_region_with (go_at_call 35; refine (HI.out _).mono ?_; rintro e v1 ⟨rfl, hv1⟩)
  all_goals
    go_wp2
    go_ret
    exact ⟨rfl, (by repeat (first | with_reducible exact Below.refl _ _ | with_reducible refine bel_alloc ?_ _ | with_reducible refine bel_set ?_ (by first | exact Nat.le_refl _ | (simp; done) | (simp; omega)) _ | with_reducible refine Below.drew ?_ | refine bel_trans ?_ (by assumption)))⟩

set_option maxHeartbeats 1000000 in
theorem num_p7 (n q : Int) (s : ByteArray) (w : World) (hn : 9 < n) (hn1 : n ≤ 9223372036854775807) (hq : IntKind.i64.wrap (n.tdiv 10) = q) (hr : n.tmod 10 = 7) (q1 : ¬ 9223372036854775807 < s.size + 1) (HI : Hid (∀ w, Calls Tryd.prog 35 #[.int .i64 q] w (retP (.string s) w))) : Calls Tryd.prog 35 #[.int .i64 n] w (retP (.string (s ++ (ByteArray.extract ⟨#[48, 49, 50, 51, 52, 53, 54, 55, 56, 57]⟩ 7 8))) w) := by
  go_enter Tryd.func35, Tryd.ntmps35
  go_wp2_with fail
  go_region_with (go_at_call 35; refine (HI.out _).mono ?_; rintro e v1 ⟨rfl, hv1⟩)
  all_goals
    go_wp2
    go_ret
    exact ⟨rfl, (by repeat (first | with_reducible exact Below.refl _ _ | with_reducible refine bel_alloc ?_ _ | with_reducible refine bel_set ?_ (by first | exact Nat.le_refl _ | (simp; done) | (simp; omega)) _ | with_reducible refine Below.drew ?_ | refine bel_trans ?_ (by assumption)))⟩

set_option maxHeartbeats 1000000 in
theorem num_p8 (n q : Int) (s : ByteArray) (w : World) (hn : 9 < n) (hn1 : n ≤ 9223372036854775807) (hq : IntKind.i64.wrap (n.tdiv 10) = q) (hr : n.tmod 10 = 8) (q1 : ¬ 9223372036854775807 < s.size + 1) (HI : Hid (∀ w, Calls Tryd.prog 35 #[.int .i64 q] w (retP (.string s) w))) : Calls Tryd.prog 35 #[.int .i64 n] w (retP (.string (s ++ (ByteArray.extract ⟨#[48, 49, 50, 51, 52, 53, 54, 55, 56, 57]⟩ 8 9))) w) := by
  go_enter Tryd.func35, Tryd.ntmps35
  go_wp2_with fail
  go_region_with (go_at_call 35; refine (HI.out _).mono ?_; rintro e v1 ⟨rfl, hv1⟩)
  all_goals
    go_wp2
    go_ret
    exact ⟨rfl, (by repeat (first | with_reducible exact Below.refl _ _ | with_reducible refine bel_alloc ?_ _ | with_reducible refine bel_set ?_ (by first | exact Nat.le_refl _ | (simp; done) | (simp; omega)) _ | with_reducible refine Below.drew ?_ | refine bel_trans ?_ (by assumption)))⟩

set_option maxHeartbeats 1000000 in
theorem num_p9 (n q : Int) (s : ByteArray) (w : World) (hn : 9 < n) (hn1 : n ≤ 9223372036854775807) (hq : IntKind.i64.wrap (n.tdiv 10) = q) (hr : n.tmod 10 = 9) (q1 : ¬ 9223372036854775807 < s.size + 1) (HI : Hid (∀ w, Calls Tryd.prog 35 #[.int .i64 q] w (retP (.string s) w))) : Calls Tryd.prog 35 #[.int .i64 n] w (retP (.string (s ++ (ByteArray.extract ⟨#[48, 49, 50, 51, 52, 53, 54, 55, 56, 57]⟩ 9 10))) w) := by
  go_enter Tryd.func35, Tryd.ntmps35
  go_wp2_with fail
  go_region_with (go_at_call 35; refine (HI.out _).mono ?_; rintro e v1 ⟨rfl, hv1⟩)
  all_goals
    go_wp2
    go_ret
    exact ⟨rfl, (by repeat (first | with_reducible exact Below.refl _ _ | with_reducible refine bel_alloc ?_ _ | with_reducible refine bel_set ?_ (by first | exact Nat.le_refl _ | (simp; done) | (simp; omega)) _ | with_reducible refine Below.drew ?_ | refine bel_trans ?_ (by assumption)))⟩

set_option maxHeartbeats 1000000 in
theorem num_m (n : Int) (s : ByteArray) (w : World) (h9 : -9 ≤ n) (h : n < 0) (q1 : ¬ 9223372036854775807 < 1 + s.size) (HI : Hid (∀ w, Calls Tryd.prog 35 #[.int .i64 (-n)] w (retP (.string s) w))) : Calls Tryd.prog 35 #[.int .i64 n] w (retP (.string (⟨#[45]⟩ ++ s)) w) := by
  go_enter Tryd.func35, Tryd.ntmps35
  go_wp2_with (go_at_call 35; refine (HI.out _).mono ?_; rintro e v1 ⟨rfl, hv1⟩)
  go_ret
  exact ⟨rfl, (by repeat (first | with_reducible exact Below.refl _ _ | with_reducible refine bel_alloc ?_ _ | with_reducible refine bel_set ?_ (by first | exact Nat.le_refl _ | (simp; done) | (simp; omega)) _ | with_reducible refine Below.drew ?_ | refine bel_trans ?_ (by assumption)))⟩
set_option maxHeartbeats 1000000 in
theorem num_n (n q m r : Int) (s t : ByteArray) (w : World) (h : n < -9) (h0 : -9223372036854775808 ≤ n) (hq : n.tdiv 10 = q) (hr : n.tmod 10 = m) (m0 : -9 ≤ m) (m1 : m ≤ 0) (hm : -m = r) (qa : -9223372036854775808 ≤ q) (qb : q ≤ 0) (q1 : ¬ 9223372036854775807 < s.size + t.size) (HI : Hid (∀ w, Calls Tryd.prog 35 #[.int .i64 q] w (retP (.string s) w))) (HJ : Hid (∀ w, Calls Tryd.prog 35 #[.int .i64 r] w (retP (.string t) w))) : Calls Tryd.prog 35 #[.int .i64 n] w (retP (.string (s ++ t)) w) := by
  go_enter Tryd.func35, Tryd.ntmps35
  go_wp2_with fail
  refine (HI.out _).mono ?_
  rintro e v1 ⟨rfl, hv1⟩
  go_wp2_with fail
  refine (HJ.out _).mono ?_
  rintro e v2 ⟨rfl, hv2⟩
  go_wp2
  go_ret
  exact ⟨rfl, (by repeat (first | with_reducible exact Below.refl _ _ | with_reducible refine bel_alloc ?_ _ | with_reducible refine bel_set ?_ (by first | exact Nat.le_refl _ | (simp; done) | (simp; omega)) _ | with_reducible refine Below.drew ?_ | refine bel_trans ?_ (by assumption)))⟩

theorem dec1' (u : Nat) (h : u < 10) : Lib.decDigits u = [UInt8.ofNat (48 + u)] := by rw [Lib.decDigits, dif_pos h]
theorem decS' (u : Nat) (h : ¬ u < 10) : Lib.decDigits u = Lib.decDigits (u / 10) ++ [UInt8.ofNat (48 + u % 10)] := by rw [Lib.decDigits, dif_neg h]
theorem itoa_nat (k : Nat) : Lib.itoa (k : Int) = Lib.decDigits k := by unfold Lib.itoa; rw [if_neg (by omega)]; simp
theorem itoa_neg (k : Nat) (h : 0 < k) : Lib.itoa (-(k : Int)) = 45 :: Lib.decDigits k := by unfold Lib.itoa; rw [if_pos (by omega)]; simp
theorem ba_app (x y : List UInt8) : (⟨x.toArray⟩ ++ ⟨y.toArray⟩ : ByteArray) = ⟨(x ++ y).toArray⟩ := by apply ByteArray.ext; simp
theorem len_bd (n : Int) (h0 : -9223372036854775808 ≤ n) (h1 : n ≤ 9223372036854775807) : (⟨(Lib.itoa n).toArray⟩ : ByteArray).size ≤ 21 := Lib.itoa_length_le n h0 h1
theorem num_nat_digit (k : Nat) (h : k < 10) (w : World) : Calls Tryd.prog 35 #[.int .i64 (k : Int)] w (retP (.string ⟨(Lib.itoa (k : Int)).toArray⟩) w) := by
  rw [itoa_nat, dec1' k h]
  match k, h with
  | 0, _ => have := num_d0 w; rw [dig0] at this; exact this
  | 1, _ => have := num_d1 w; rw [dig1] at this; exact this
  | 2, _ => have := num_d2 w; rw [dig2] at this; exact this
  | 3, _ => have := num_d3 w; rw [dig3] at this; exact this
  | 4, _ => have := num_d4 w; rw [dig4] at this; exact this
  | 5, _ => have := num_d5 w; rw [dig5] at this; exact this
  | 6, _ => have := num_d6 w; rw [dig6] at this; exact this
  | 7, _ => have := num_d7 w; rw [dig7] at this; exact this
  | 8, _ => have := num_d8 w; rw [dig8] at this; exact this
  | 9, _ => have := num_d9 w; rw [dig9] at this; exact this

theorem num_ind : ∀ (m : Nat) (n : Int), n.natAbs ≤ m → -9223372036854775808 ≤ n → n ≤ 9223372036854775807 → ∀ w, Calls Tryd.prog 35 #[.int .i64 n] w (retP (.string ⟨(Lib.itoa n).toArray⟩) w) := by
  intro m
  induction m with
  | zero =>
    intro n hn _ _ w
    obtain rfl : n = ((0 : Nat) : Int) := by omega
    exact num_nat_digit 0 (by decide) w
  | succ m ih =>
    intro n hn h0 h1 w
    by_cases hneg : n < 0
    · obtain ⟨k, rfl⟩ : ∃ k : Nat, n = -(k : Int) := ⟨n.natAbs, by omega⟩
      have hk : k ≤ m + 1 := by omega
      by_cases h9 : -(k : Int) < -9
      · have eq : (-(k : Int)).tdiv 10 = -((k / 10 : Nat) : Int) := by rw [Int.neg_tdiv]; exact congrArg (fun x : Int => -x) (Int.ofNat_tdiv k 10).symm
        have er : (-(k : Int)).tmod 10 = -((k % 10 : Nat) : Int) := by rw [Int.neg_tmod]; exact congrArg (fun x : Int => -x) (Int.ofNat_tmod k 10).symm
        have HI := ih (-((k / 10 : Nat) : Int)) (by omega) (by omega) (by omega)
        have HJ := ih ((k % 10 : Nat) : Int) (by omega) (by omega) (by omega)
        have ls := len_bd (-((k / 10 : Nat) : Int)) (by omega) (by omega)
        have lt := len_bd ((k % 10 : Nat) : Int) (by omega) (by omega)
        have e : Lib.itoa (-(k : Int)) = Lib.itoa (-((k / 10 : Nat) : Int)) ++ Lib.itoa ((k % 10 : Nat) : Int) := by
          rw [itoa_neg k (by omega), itoa_neg (k / 10) (by omega), itoa_nat, dec1' (k % 10) (by omega), decS' k (by omega)]; rfl
        rw [e, ← ba_app]
        exact num_n _ _ (-((k % 10 : Nat) : Int)) _ _ _ w h9 h0 eq er (by omega) (by omega) (Int.neg_neg _) (by omega) (by omega) (by omega) HI HJ
      · have HI := fun w => num_nat_digit k (by omega) w
        have ls := len_bd (k : Int) (by omega) (by omega)
        have e : Lib.itoa (-(k : Int)) = [45] ++ Lib.itoa (k : Int) := by rw [itoa_neg k (by omega), itoa_nat]; rfl
        rw [e, ← ba_app]
        exact num_m _ _ w (by omega) (by omega) (by omega) (by rw [Int.neg_neg]; exact HI)
    · obtain ⟨k, rfl⟩ := Int.eq_ofNat_of_zero_le (show 0 ≤ n by omega)
      by_cases h9 : k < 10
      · exact num_nat_digit k h9 w
      · have eq : IntKind.i64.wrap ((k : Int).tdiv 10) = ((k / 10 : Nat) : Int) := by rw [i64w, ← show ((k / 10 : Nat) : Int) = (k : Int).tdiv 10 from Int.ofNat_tdiv k 10]; unfold wrap64; omega
        have er : (k : Int).tmod 10 = ((k % 10 : Nat) : Int) := (Int.ofNat_tmod k 10).symm
        have HI := ih ((k / 10 : Nat) : Int) (by omega) (by omega) (by omega)
        have ls := len_bd ((k / 10 : Nat) : Int) (by omega) (by omega)
        have e : Lib.itoa (k : Int) = Lib.itoa ((k / 10 : Nat) : Int) ++ [UInt8.ofNat (48 + k % 10)] := by
          rw [itoa_nat, itoa_nat, decS' k h9]
        rw [e, ← ba_app]
        have hd : k % 10 < 10 := Nat.mod_lt _ (by decide)
        generalize k % 10 = d at er hd
        match d, hd with
        | 0, _ => have := num_p0 (k : Int) ((k / 10 : Nat) : Int) _ w (by omega) h1 eq er (by omega) HI; rw [dig0] at this; exact this
        | 1, _ => have := num_p1 (k : Int) ((k / 10 : Nat) : Int) _ w (by omega) h1 eq er (by omega) HI; rw [dig1] at this; exact this
        | 2, _ => have := num_p2 (k : Int) ((k / 10 : Nat) : Int) _ w (by omega) h1 eq er (by omega) HI; rw [dig2] at this; exact this
        | 3, _ => have := num_p3 (k : Int) ((k / 10 : Nat) : Int) _ w (by omega) h1 eq er (by omega) HI; rw [dig3] at this; exact this
        | 4, _ => have := num_p4 (k : Int) ((k / 10 : Nat) : Int) _ w (by omega) h1 eq er (by omega) HI; rw [dig4] at this; exact this
        | 5, _ => have := num_p5 (k : Int) ((k / 10 : Nat) : Int) _ w (by omega) h1 eq er (by omega) HI; rw [dig5] at this; exact this
        | 6, _ => have := num_p6 (k : Int) ((k / 10 : Nat) : Int) _ w (by omega) h1 eq er (by omega) HI; rw [dig6] at this; exact this
        | 7, _ => have := num_p7 (k : Int) ((k / 10 : Nat) : Int) _ w (by omega) h1 eq er (by omega) HI; rw [dig7] at this; exact this
        | 8, _ => have := num_p8 (k : Int) ((k / 10 : Nat) : Int) _ w (by omega) h1 eq er (by omega) HI; rw [dig8] at this; exact this
        | 9, _ => have := num_p9 (k : Int) ((k / 10 : Nat) : Int) _ w (by omega) h1 eq er (by omega) HI; rw [dig9] at this; exact this

theorem num_any (n : Int) (w : World) (h0 : -9223372036854775808 ≤ n) (h1 : n ≤ 9223372036854775807) : Calls Tryd.prog 35 #[.int .i64 n] w (retP (.string ⟨(Lib.itoa n).toArray⟩) w) := num_ind _ n (Nat.le_refl _) h0 h1 w
theorem num_as (n : Int) (w : World) (s : ByteArray) (hs : Hid (s = ⟨(Lib.itoa n).toArray⟩)) (h0 : -9223372036854775808 ≤ n) (h1 : n ≤ 9223372036854775807) : Calls Tryd.prog 35 #[.int .i64 n] w (retP (.string s) w) := by rw [hs.out]; exact num_any n w h0 h1

end Go.Proofs.YtdibjidjocmfhaaDoor
