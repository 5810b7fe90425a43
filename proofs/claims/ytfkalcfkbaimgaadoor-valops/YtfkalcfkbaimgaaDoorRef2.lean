/- Contracts of the document's own answers: Divides whole, ints, Bin. -/
import Derived.Test.YtfkalcfkbaimgaaDoorRef1
namespace Go.Proofs.YtfkalcfkbaimgaaDoor
open Go.ChangeShapes Go.WideShapes Go.ChangeAt Go.RowKit Pl
set_option linter.unusedSimpArgs false
set_option linter.unusedVariables false


theorem tq (x y : Int) (hx : 0 ≤ x) (hy : 0 < y) : x.tdiv y = x / y ∧ x.tmod y = x - x / y * y := by
  have := (div_bound x y hx hy).2.2.2.2
  exact ⟨Int.tdiv_eq_ediv_of_nonneg hx, by rw [Int.tmod_eq_emod_of_nonneg hx, this]⟩
theorem u64_mul (x y : Int) (hx : 0 ≤ x) (hx1 : x ≤ 9223372036854775808) (hy : 0 < y) : IntKind.u64.wrap (x / y * y) = x / y * y := by
  have := div_bound x y hx hy
  rw [u64w]; omega
theorem u64_neg (a : Int) (h0 : a < 0) (h1 : -9223372036854775808 ≤ a) : IntKind.u64.wrap (-IntKind.u64.wrap a) = -a := by
  rw [u64w, u64w]; omega
theorem tup3 {q r q' r' : Int} (h1 : q = q') (h2 : r = r') : Ending.returned (.tuple #[.int .i64 q, .int .i64 r, .bool true]) = .returned (.tuple #[.int .i64 q', .int .i64 r', .bool true]) := by rw [h1, h2]
set_option maxHeartbeats 400000 in
theorem divides_any (a b : Int) (w : World) (a0 : -9223372036854775808 ≤ a) (a1 : a ≤ 9223372036854775807) (b0 : -9223372036854775808 ≤ b) (b1 : b ≤ 9223372036854775807) :
    Calls Tryd.prog 44 #[.int .i64 a, .int .i64 b] w fun e w' => e = .returned (.tuple #[.int .i64 (dvF a b).1, .int .i64 (dvF a b).2.1, .bool (dvF a b).2.2]) ∧ w' = w := by
  by_cases hb : b = 0
  · subst hb
    have e : dvF a 0 = (0, 0, false) := by simp [dvF]
    rw [e]; clear e
    go_enter Tryd.func44, Tryd.ntmps44
    go_wp2
    go_ret3
    exact ⟨rfl, rfl⟩
  by_cases hmm : a = -9223372036854775808 ∧ b = -1
  · obtain ⟨rfl, rfl⟩ := hmm
    have e : dvF (-9223372036854775808) (-1) = (0, 0, false) := by simp [dvF]
    rw [e]; clear e
    go_enter Tryd.func44, Tryd.ntmps44
    go_wp2
    go_ret3
    exact ⟨rfl, rfl⟩
  have e : dvF a b = (wrap64 (a.tdiv b), a.tmod b, true) := by unfold dvF; rw [if_neg (by omega)]
  rw [e]; clear e
  have hb0 : (b == 0) = false := by simp [hb]
  by_cases hbn : b < 0
  · have ub := u64_neg b hbn b0
    have sb : decide (b < 0) = true := by simp [hbn]
    by_cases han : a < 0
    · have ua := u64_neg a han a0
      have sa : decide (a < 0) = true := by simp [han]
      have D := div_bound (-a) (-b) (by omega) (by omega)
      have M := u64_mul (-a) (-b) (by omega) (by omega) (by omega)
      have T := tq (-a) (-b) (by omega) (by omega)
      have t1 : a.tdiv b = -a / -b := by rw [← T.1, Int.neg_tdiv, Int.tdiv_neg, Int.neg_neg]
      have t2 : a.tmod b = -(-a - -a / -b * -b) := by rw [← T.2, Int.neg_tmod, Int.tmod_neg, Int.neg_neg]
      have lt := Int.emod_lt_of_pos (-a) (show 0 < -b by omega)
      have ge := Int.emod_nonneg (-a) (show -b ≠ 0 by omega)
      by_cases hm : a = -9223372036854775808
      · subst hm
        refine (dv_mn b (- -9223372036854775808 / -b) (- -9223372036854775808 / -b * -b) (- -9223372036854775808) (-b) w ua (by omega) (by omega) ub (by omega) (by omega) hbn (by simp; omega) hb0 sb rfl M D.1 D.2.1 D.2.2.1 D.2.2.2.1).mono ?_
        rintro e w' ⟨⟨Q, R, rfl, h1, h2, h3, h4⟩, hw⟩
        exact ⟨tup3 (by rw [← h3, h1, t1]) (by dsimp only; rw [← h4, h2, t2]; unfold wrap64; omega), hw⟩
      · refine (dv_nn a b (-a / -b) (-a / -b * -b) (-a) (-b) w ua (by omega) (by omega) han ub (by omega) (by omega) hbn (by simp [hm]) sa hb0 sb rfl M D.1 D.2.1 D.2.2.1 D.2.2.2.1).mono ?_
        rintro e w' ⟨⟨Q, R, rfl, h1, h2, h3, h4⟩, hw⟩
        exact ⟨tup3 (by rw [← h3, h1, t1]) (by dsimp only; rw [← h4, h2, t2]; unfold wrap64; omega), hw⟩
    · have sa : decide (a < 0) = false := by simp; omega
      have D := div_bound a (-b) (by omega) (by omega)
      have M := u64_mul a (-b) (by omega) (by omega) (by omega)
      have T := tq a (-b) (by omega) (by omega)
      have t1 : a.tdiv b = -(a / -b) := by rw [← T.1, Int.tdiv_neg, Int.neg_neg]
      have t2 : a.tmod b = a - a / -b * -b := by rw [← T.2, Int.tmod_neg]
      have lt := Int.emod_lt_of_pos a (show 0 < -b by omega)
      have ge := Int.emod_nonneg a (show -b ≠ 0 by omega)
      refine (dv_pn a b (a / -b) (a / -b * -b) (-b) w (by omega) (by omega) ub (by omega) (by omega) hbn (by simp; omega) sa hb0 sb rfl M D.1 D.2.1 D.2.2.1 D.2.2.2.1).mono ?_
      rintro e w' ⟨⟨Q, R, rfl, h1, h2, h3, h4⟩, hw⟩
      exact ⟨tup3 (by rw [← h3, h1, t1]) (by dsimp only; rw [← h4, h2, t2]; unfold wrap64; omega), hw⟩
  · have sb : decide (b < 0) = false := by simp; omega
    by_cases han : a < 0
    · have ua := u64_neg a han a0
      have sa : decide (a < 0) = true := by simp [han]
      have D := div_bound (-a) b (by omega) (by omega)
      have M := u64_mul (-a) b (by omega) (by omega) (by omega)
      have T := tq (-a) b (by omega) (by omega)
      have t1 : a.tdiv b = -(-a / b) := by rw [← T.1, Int.neg_tdiv, Int.neg_neg]
      have t2 : a.tmod b = -(-a - -a / b * b) := by rw [← T.2, Int.neg_tmod, Int.neg_neg]
      have lt := Int.emod_lt_of_pos (-a) (show 0 < b by omega)
      have ge := Int.emod_nonneg (-a) (show b ≠ 0 by omega)
      by_cases hm : a = -9223372036854775808
      · subst hm
        refine (dv_mp b (- -9223372036854775808 / b) (- -9223372036854775808 / b * b) (- -9223372036854775808) w ua (by omega) (by omega) (by omega) (by omega) (by simp; omega) hb0 sb rfl M D.1 D.2.1 D.2.2.1 D.2.2.2.1).mono ?_
        rintro e w' ⟨⟨Q, R, rfl, h1, h2, h3, h4⟩, hw⟩
        exact ⟨tup3 (by rw [← h3, h1, t1]) (by dsimp only; rw [← h4, h2, t2]; unfold wrap64; omega), hw⟩
      · refine (dv_np a b (-a / b) (-a / b * b) (-a) w ua (by omega) (by omega) han (by omega) (by omega) (by simp [hm]) sa hb0 sb rfl M D.1 D.2.1 D.2.2.1 D.2.2.2.1).mono ?_
        rintro e w' ⟨⟨Q, R, rfl, h1, h2, h3, h4⟩, hw⟩
        exact ⟨tup3 (by rw [← h3, h1, t1]) (by dsimp only; rw [← h4, h2, t2]; unfold wrap64; omega), hw⟩
    · have sa : decide (a < 0) = false := by simp; omega
      have D := div_bound a b (by omega) (by omega)
      have M := u64_mul a b (by omega) (by omega) (by omega)
      have T := tq a b (by omega) (by omega)
      have lt := Int.emod_lt_of_pos a (show 0 < b by omega)
      have ge := Int.emod_nonneg a (show b ≠ 0 by omega)
      refine (dv_pp a b (a / b) (a / b * b) w (by omega) (by omega) (by omega) (by omega) (by simp; omega) sa hb0 sb rfl M D.1 D.2.1 D.2.2.1 D.2.2.2.1).mono ?_
      rintro e w' ⟨⟨Q, R, rfl, h1, h2, h3, h4⟩, hw⟩
      exact ⟨tup3 (by rw [← h3, h1, T.1]) (by dsimp only; rw [← h4, h2, T.2]; unfold wrap64; omega), hw⟩
theorem divides_to (a b q r : Int) (ok : Bool) (w : World) (h : Hid (dvF a b = (q, r, ok))) (a0 : -9223372036854775808 ≤ a) (a1 : a ≤ 9223372036854775807) (b0 : -9223372036854775808 ≤ b) (b1 : b ≤ 9223372036854775807) :
    Calls Tryd.prog 44 #[.int .i64 a, .int .i64 b] w fun e w' => e = .returned (.tuple #[.int .i64 q, .int .i64 r, .bool ok]) ∧ w' = w := by
  have := divides_any a b w a0 a1 b0 b1
  rw [h.out] at this
  exact this

end Go.Proofs.YtfkalcfkbaimgaaDoor
