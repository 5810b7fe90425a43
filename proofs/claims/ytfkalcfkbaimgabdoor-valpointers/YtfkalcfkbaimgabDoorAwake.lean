/- The contract of the statements' own first step: what the document tells of a few operations holds. -/
import Derived.Test.YtfkalcfkbaimgabDoorText
namespace Go.Proofs.YtfkalcfkbaimgabDoor
open Go.ChangeShapes Go.WideShapes Go.ChangeAt Go.RowKit Pl
set_option linter.unusedSimpArgs false
set_option linter.unusedVariables false

theorem dec1 (u : Nat) (h : u < 10) : Lib.decDigits u = [UInt8.ofNat (48 + u)] := by rw [Lib.decDigits, dif_pos h]
theorem text_to (ak an ab : Int) (s : ByteArray) (w : World) (h : (⟨(textF ⟨ak, an, ab⟩).toArray⟩ : ByteArray) = s) (ht : Tab w) (hn0 : -9223372036854775808 ≤ an) (hn1 : an ≤ 9223372036854775807) (hb0 : -9223372036854775808 ≤ ab) (hb1 : ab ≤ 9223372036854775807) :
    Calls Tryd.prog 14 #[.agg #[.int .i64 ak, .int .i64 an, .int .i64 ab]] w (retP (.string s) w) := by
  rw [← h]; exact text_any ak an ab w ht hn0 hn1 hb0 hb1
theorem good_to (ak an ab : Int) (g : Bool) (w : World) (h : goodF ⟨ak, an, ab⟩ = g) : Calls Tryd.prog 13 #[.agg #[.int .i64 ak, .int .i64 an, .int .i64 ab]] w (retP (.bool g) w) := by
  rw [← h]; exact good_any ak an ab w
theorem true_to (ak an ab : Int) (t ok : Bool) (w : World) (h : trueF ⟨ak, an, ab⟩ = (t, ok)) : Calls Tryd.prog 9 #[.agg #[.int .i64 ak, .int .i64 an, .int .i64 ab]] w (retP (.tuple #[.bool t, .bool ok]) w) := by
  have := true_any ak an ab w
  rw [h] at this
  exact this
theorem flip_to (op f : Int) (ok : Bool) (w : World) (h : flipF op = (f, ok)) : Calls Tryd.prog 11 #[.int .i64 op] w fun e w' => e = .returned (.tuple #[.int .i64 f, .bool ok]) ∧ w' = w := by
  have := flip_any op w
  rw [h] at this
  exact this
theorem swap_to (op f : Int) (ok : Bool) (w : World) (h : swapF op = (f, ok)) : Calls Tryd.prog 12 #[.int .i64 op] w fun e w' => e = .returned (.tuple #[.int .i64 f, .bool ok]) ∧ w' = w := by
  have := swap_any op w
  rw [h] at this
  exact this
theorem txt1 : (⟨(textF ⟨2, 4, 3⟩).toArray⟩ : ByteArray) = ⟨#[38, 51, 43, 52]⟩ := by simp [textF, kindF, goodF, Lib.itoa, dec1]
theorem txt2 : (⟨(textF ⟨1, -3, 0⟩).toArray⟩ : ByteArray) = ⟨#[45, 51]⟩ := by simp [textF, kindF, goodF, Lib.itoa, dec1]
theorem txt3 : (⟨(textF ⟨0, 0, 0⟩).toArray⟩ : ByteArray) = ⟨#[117, 110, 100, 101, 102]⟩ := by simp [textF, kindF, goodF]

set_option maxHeartbeats 4000000 in
theorem awake_any (w : World) (ht : Tab w) : Calls Tryd.prog 5 #[] w (retP (.bool true) w) := by
  go_enter Tryd.func5, Tryd.ntmps5
  go_wp2_with fail
  refine (of_to (-7) _).mono ?_
  rintro e w1 ⟨rfl, hb1⟩
  go_wp2_with fail
  refine (of_to 2 _).mono ?_
  rintro e w2 ⟨rfl, hb2⟩
  go_wp2_with fail
  refine (bin_to 14 1 (-7) 0 1 2 0 1 (-3) 0 true _ (by kernel_rfl)).mono ?_
  rintro e w3 ⟨rfl, hb3⟩
  go_wp2_with fail
  refine (of_to 200 _).mono ?_
  rintro e w4 ⟨rfl, hb4⟩
  have a0 : w4.cell? ⟨w3.heap.size, 0, none⟩ = some (.int .i64 1) := keep_cell hb4 (by go_simp)
  have a1 : w4.cell? ⟨w3.heap.size, 1, none⟩ = some (.int .i64 (-3)) := keep_cell hb4 (by go_simp)
  have a2 : w4.cell? ⟨w3.heap.size, 2, none⟩ = some (.int .i64 0) := keep_cell hb4 (by go_simp)
  have aL : w3.heap.size < w4.heap.size := block_lt_of_cell a0
  go_wp2_with fail
  refine (un_to 3 1 200 0 1 (-56) 0 true _ (by kernel_rfl)).mono ?_
  rintro e w5 ⟨rfl, hb5⟩
  replace a0 : w5.cell? ⟨w3.heap.size, 0, none⟩ = some (.int .i64 1) := keep_cell hb5 (by go_simp)
  replace a1 : w5.cell? ⟨w3.heap.size, 1, none⟩ = some (.int .i64 (-3)) := keep_cell hb5 (by go_simp)
  replace a2 : w5.cell? ⟨w3.heap.size, 2, none⟩ = some (.int .i64 0) := keep_cell hb5 (by go_simp)
  replace aL : w3.heap.size < w5.heap.size := block_lt_of_cell a0
  go_wp2_with fail
  refine (of_to 1 _).mono ?_
  rintro e w6 ⟨rfl, hb6⟩
  replace a0 : w6.cell? ⟨w3.heap.size, 0, none⟩ = some (.int .i64 1) := keep_cell hb6 (by go_simp)
  replace a1 : w6.cell? ⟨w3.heap.size, 1, none⟩ = some (.int .i64 (-3)) := keep_cell hb6 (by go_simp)
  replace a2 : w6.cell? ⟨w3.heap.size, 2, none⟩ = some (.int .i64 0) := keep_cell hb6 (by go_simp)
  replace aL : w3.heap.size < w6.heap.size := block_lt_of_cell a0
  have b0 : w6.cell? ⟨w5.heap.size, 0, none⟩ = some (.int .i64 1) := keep_cell hb6 (by go_simp)
  have b1 : w6.cell? ⟨w5.heap.size, 1, none⟩ = some (.int .i64 (-56)) := keep_cell hb6 (by go_simp)
  have b2 : w6.cell? ⟨w5.heap.size, 2, none⟩ = some (.int .i64 0) := keep_cell hb6 (by go_simp)
  have bL : w5.heap.size < w6.heap.size := block_lt_of_cell b0
  go_wp2_with fail
  refine (of_to 64 _).mono ?_
  rintro e w7 ⟨rfl, hb7⟩
  replace a0 : w7.cell? ⟨w3.heap.size, 0, none⟩ = some (.int .i64 1) := keep_cell hb7 (by go_simp)
  replace a1 : w7.cell? ⟨w3.heap.size, 1, none⟩ = some (.int .i64 (-3)) := keep_cell hb7 (by go_simp)
  replace a2 : w7.cell? ⟨w3.heap.size, 2, none⟩ = some (.int .i64 0) := keep_cell hb7 (by go_simp)
  replace aL : w3.heap.size < w7.heap.size := block_lt_of_cell a0
  replace b0 : w7.cell? ⟨w5.heap.size, 0, none⟩ = some (.int .i64 1) := keep_cell hb7 (by go_simp)
  replace b1 : w7.cell? ⟨w5.heap.size, 1, none⟩ = some (.int .i64 (-56)) := keep_cell hb7 (by go_simp)
  replace b2 : w7.cell? ⟨w5.heap.size, 2, none⟩ = some (.int .i64 0) := keep_cell hb7 (by go_simp)
  replace bL : w5.heap.size < w7.heap.size := block_lt_of_cell b0
  go_wp2_with fail
  refine (bin_to 19 1 1 0 1 64 0 0 0 0 false _ (by kernel_rfl)).mono ?_
  rintro e w8 ⟨rfl, hb8⟩
  replace a0 : w8.cell? ⟨w3.heap.size, 0, none⟩ = some (.int .i64 1) := keep_cell hb8 (by go_simp)
  replace a1 : w8.cell? ⟨w3.heap.size, 1, none⟩ = some (.int .i64 (-3)) := keep_cell hb8 (by go_simp)
  replace a2 : w8.cell? ⟨w3.heap.size, 2, none⟩ = some (.int .i64 0) := keep_cell hb8 (by go_simp)
  replace aL : w3.heap.size < w8.heap.size := block_lt_of_cell a0
  replace b0 : w8.cell? ⟨w5.heap.size, 0, none⟩ = some (.int .i64 1) := keep_cell hb8 (by go_simp)
  replace b1 : w8.cell? ⟨w5.heap.size, 1, none⟩ = some (.int .i64 (-56)) := keep_cell hb8 (by go_simp)
  replace b2 : w8.cell? ⟨w5.heap.size, 2, none⟩ = some (.int .i64 0) := keep_cell hb8 (by go_simp)
  replace bL : w5.heap.size < w8.heap.size := block_lt_of_cell b0
  go_wp2_with fail
  refine (at_to 3 8 2 8 3 _ (by kernel_rfl)).mono ?_
  rintro e w9 ⟨rfl, hb9⟩
  replace a0 : w9.cell? ⟨w3.heap.size, 0, none⟩ = some (.int .i64 1) := keep_cell hb9 (by go_simp)
  replace a1 : w9.cell? ⟨w3.heap.size, 1, none⟩ = some (.int .i64 (-3)) := keep_cell hb9 (by go_simp)
  replace a2 : w9.cell? ⟨w3.heap.size, 2, none⟩ = some (.int .i64 0) := keep_cell hb9 (by go_simp)
  replace aL : w3.heap.size < w9.heap.size := block_lt_of_cell a0
  replace b0 : w9.cell? ⟨w5.heap.size, 0, none⟩ = some (.int .i64 1) := keep_cell hb9 (by go_simp)
  replace b1 : w9.cell? ⟨w5.heap.size, 1, none⟩ = some (.int .i64 (-56)) := keep_cell hb9 (by go_simp)
  replace b2 : w9.cell? ⟨w5.heap.size, 2, none⟩ = some (.int .i64 0) := keep_cell hb9 (by go_simp)
  replace bL : w5.heap.size < w9.heap.size := block_lt_of_cell b0
  go_wp2_with fail
  refine (of_to 4 _).mono ?_
  rintro e w10 ⟨rfl, hb10⟩
  replace a0 : w10.cell? ⟨w3.heap.size, 0, none⟩ = some (.int .i64 1) := keep_cell hb10 (by go_simp)
  replace a1 : w10.cell? ⟨w3.heap.size, 1, none⟩ = some (.int .i64 (-3)) := keep_cell hb10 (by go_simp)
  replace a2 : w10.cell? ⟨w3.heap.size, 2, none⟩ = some (.int .i64 0) := keep_cell hb10 (by go_simp)
  replace aL : w3.heap.size < w10.heap.size := block_lt_of_cell a0
  replace b0 : w10.cell? ⟨w5.heap.size, 0, none⟩ = some (.int .i64 1) := keep_cell hb10 (by go_simp)
  replace b1 : w10.cell? ⟨w5.heap.size, 1, none⟩ = some (.int .i64 (-56)) := keep_cell hb10 (by go_simp)
  replace b2 : w10.cell? ⟨w5.heap.size, 2, none⟩ = some (.int .i64 0) := keep_cell hb10 (by go_simp)
  replace bL : w5.heap.size < w10.heap.size := block_lt_of_cell b0
  go_wp2_with fail
  refine (bin_to 12 2 8 3 1 4 0 2 4 3 true _ (by kernel_rfl)).mono ?_
  rintro e w11 ⟨rfl, hb11⟩
  replace a0 : w11.cell? ⟨w3.heap.size, 0, none⟩ = some (.int .i64 1) := keep_cell hb11 (by go_simp)
  replace a1 : w11.cell? ⟨w3.heap.size, 1, none⟩ = some (.int .i64 (-3)) := keep_cell hb11 (by go_simp)
  replace a2 : w11.cell? ⟨w3.heap.size, 2, none⟩ = some (.int .i64 0) := keep_cell hb11 (by go_simp)
  replace aL : w3.heap.size < w11.heap.size := block_lt_of_cell a0
  replace b0 : w11.cell? ⟨w5.heap.size, 0, none⟩ = some (.int .i64 1) := keep_cell hb11 (by go_simp)
  replace b1 : w11.cell? ⟨w5.heap.size, 1, none⟩ = some (.int .i64 (-56)) := keep_cell hb11 (by go_simp)
  replace b2 : w11.cell? ⟨w5.heap.size, 2, none⟩ = some (.int .i64 0) := keep_cell hb11 (by go_simp)
  replace bL : w5.heap.size < w11.heap.size := block_lt_of_cell b0
  go_wp2_with fail
  refine (at_to 1 0 2 0 1 _ (by kernel_rfl)).mono ?_
  rintro e w12 ⟨rfl, hb12⟩
  replace a0 : w12.cell? ⟨w3.heap.size, 0, none⟩ = some (.int .i64 1) := keep_cell hb12 (by go_simp)
  replace a1 : w12.cell? ⟨w3.heap.size, 1, none⟩ = some (.int .i64 (-3)) := keep_cell hb12 (by go_simp)
  replace a2 : w12.cell? ⟨w3.heap.size, 2, none⟩ = some (.int .i64 0) := keep_cell hb12 (by go_simp)
  replace aL : w3.heap.size < w12.heap.size := block_lt_of_cell a0
  replace b0 : w12.cell? ⟨w5.heap.size, 0, none⟩ = some (.int .i64 1) := keep_cell hb12 (by go_simp)
  replace b1 : w12.cell? ⟨w5.heap.size, 1, none⟩ = some (.int .i64 (-56)) := keep_cell hb12 (by go_simp)
  replace b2 : w12.cell? ⟨w5.heap.size, 2, none⟩ = some (.int .i64 0) := keep_cell hb12 (by go_simp)
  replace bL : w5.heap.size < w12.heap.size := block_lt_of_cell b0
  have c0 : w12.cell? ⟨w11.heap.size, 0, none⟩ = some (.int .i64 2) := keep_cell hb12 (by go_simp)
  have c1 : w12.cell? ⟨w11.heap.size, 1, none⟩ = some (.int .i64 4) := keep_cell hb12 (by go_simp)
  have c2 : w12.cell? ⟨w11.heap.size, 2, none⟩ = some (.int .i64 3) := keep_cell hb12 (by go_simp)
  have cL : w11.heap.size < w12.heap.size := block_lt_of_cell c0
  go_wp2_with fail
  refine (true_to 2 0 1 true true _ (by kernel_rfl)).mono ?_
  rintro e w13 ⟨rfl, hb13⟩
  replace a0 : w13.cell? ⟨w3.heap.size, 0, none⟩ = some (.int .i64 1) := keep_cell hb13 (by go_simp)
  replace a1 : w13.cell? ⟨w3.heap.size, 1, none⟩ = some (.int .i64 (-3)) := keep_cell hb13 (by go_simp)
  replace a2 : w13.cell? ⟨w3.heap.size, 2, none⟩ = some (.int .i64 0) := keep_cell hb13 (by go_simp)
  replace aL : w3.heap.size < w13.heap.size := block_lt_of_cell a0
  replace b0 : w13.cell? ⟨w5.heap.size, 0, none⟩ = some (.int .i64 1) := keep_cell hb13 (by go_simp)
  replace b1 : w13.cell? ⟨w5.heap.size, 1, none⟩ = some (.int .i64 (-56)) := keep_cell hb13 (by go_simp)
  replace b2 : w13.cell? ⟨w5.heap.size, 2, none⟩ = some (.int .i64 0) := keep_cell hb13 (by go_simp)
  replace bL : w5.heap.size < w13.heap.size := block_lt_of_cell b0
  replace c0 : w13.cell? ⟨w11.heap.size, 0, none⟩ = some (.int .i64 2) := keep_cell hb13 (by go_simp)
  replace c1 : w13.cell? ⟨w11.heap.size, 1, none⟩ = some (.int .i64 4) := keep_cell hb13 (by go_simp)
  replace c2 : w13.cell? ⟨w11.heap.size, 2, none⟩ = some (.int .i64 3) := keep_cell hb13 (by go_simp)
  replace cL : w11.heap.size < w13.heap.size := block_lt_of_cell c0
  go_wp2_with fail
  refine (flip_to 23 26 true _ (by kernel_rfl)).mono ?_
  rintro e w' ⟨rfl, hw'⟩
  replace hw' := hw'.symm
  subst hw'
  go_wp2_with fail
  refine (swap_to 23 25 true _ (by kernel_rfl)).mono ?_
  rintro e w' ⟨rfl, hw'⟩
  replace hw' := hw'.symm
  subst hw'
  have ht13 : Tab w13 := tab_keep ht (by repeat (first | exact Below.refl _ _ | refine bel_alloc ?_ _ | refine bel_set ?_ (by first | exact Nat.le_refl _ | (simp; done) | (simp; omega)) _ | refine Below.drew ?_ | refine bel_trans ?_ (by assumption)))
  go_wp2_with fail
  refine (good_to 1 (-3) 0 true _ (by kernel_rfl)).mono ?_
  rintro e w14 ⟨rfl, hb14⟩
  replace a0 : w14.cell? ⟨w3.heap.size, 0, none⟩ = some (.int .i64 1) := keep_cell hb14 (by go_simp)
  replace a1 : w14.cell? ⟨w3.heap.size, 1, none⟩ = some (.int .i64 (-3)) := keep_cell hb14 (by go_simp)
  replace a2 : w14.cell? ⟨w3.heap.size, 2, none⟩ = some (.int .i64 0) := keep_cell hb14 (by go_simp)
  replace aL : w3.heap.size < w14.heap.size := block_lt_of_cell a0
  replace b0 : w14.cell? ⟨w5.heap.size, 0, none⟩ = some (.int .i64 1) := keep_cell hb14 (by go_simp)
  replace b1 : w14.cell? ⟨w5.heap.size, 1, none⟩ = some (.int .i64 (-56)) := keep_cell hb14 (by go_simp)
  replace b2 : w14.cell? ⟨w5.heap.size, 2, none⟩ = some (.int .i64 0) := keep_cell hb14 (by go_simp)
  replace bL : w5.heap.size < w14.heap.size := block_lt_of_cell b0
  replace c0 : w14.cell? ⟨w11.heap.size, 0, none⟩ = some (.int .i64 2) := keep_cell hb14 (by go_simp)
  replace c1 : w14.cell? ⟨w11.heap.size, 1, none⟩ = some (.int .i64 4) := keep_cell hb14 (by go_simp)
  replace c2 : w14.cell? ⟨w11.heap.size, 2, none⟩ = some (.int .i64 3) := keep_cell hb14 (by go_simp)
  replace cL : w11.heap.size < w14.heap.size := block_lt_of_cell c0
  have ht14 := tab_keep ht13 hb14
  go_wp2_with fail
  refine (text_to 2 4 3 _ _ txt1 ht14 (by decide) (by decide) (by decide) (by decide)).mono ?_
  rintro e w15 ⟨rfl, hb15⟩
  replace a0 : w15.cell? ⟨w3.heap.size, 0, none⟩ = some (.int .i64 1) := keep_cell hb15 (by go_simp)
  replace a1 : w15.cell? ⟨w3.heap.size, 1, none⟩ = some (.int .i64 (-3)) := keep_cell hb15 (by go_simp)
  replace a2 : w15.cell? ⟨w3.heap.size, 2, none⟩ = some (.int .i64 0) := keep_cell hb15 (by go_simp)
  replace aL : w3.heap.size < w15.heap.size := block_lt_of_cell a0
  replace b0 : w15.cell? ⟨w5.heap.size, 0, none⟩ = some (.int .i64 1) := keep_cell hb15 (by go_simp)
  replace b1 : w15.cell? ⟨w5.heap.size, 1, none⟩ = some (.int .i64 (-56)) := keep_cell hb15 (by go_simp)
  replace b2 : w15.cell? ⟨w5.heap.size, 2, none⟩ = some (.int .i64 0) := keep_cell hb15 (by go_simp)
  replace bL : w5.heap.size < w15.heap.size := block_lt_of_cell b0
  replace c0 : w15.cell? ⟨w11.heap.size, 0, none⟩ = some (.int .i64 2) := keep_cell hb15 (by go_simp)
  replace c1 : w15.cell? ⟨w11.heap.size, 1, none⟩ = some (.int .i64 4) := keep_cell hb15 (by go_simp)
  replace c2 : w15.cell? ⟨w11.heap.size, 2, none⟩ = some (.int .i64 3) := keep_cell hb15 (by go_simp)
  replace cL : w11.heap.size < w15.heap.size := block_lt_of_cell c0
  have ht15 := tab_keep ht14 hb15
  go_wp2_with fail
  refine (text_to 1 (-3) 0 _ _ txt2 ht15 (by decide) (by decide) (by decide) (by decide)).mono ?_
  rintro e w16 ⟨rfl, hb16⟩
  replace a0 : w16.cell? ⟨w3.heap.size, 0, none⟩ = some (.int .i64 1) := keep_cell hb16 (by go_simp)
  replace a1 : w16.cell? ⟨w3.heap.size, 1, none⟩ = some (.int .i64 (-3)) := keep_cell hb16 (by go_simp)
  replace a2 : w16.cell? ⟨w3.heap.size, 2, none⟩ = some (.int .i64 0) := keep_cell hb16 (by go_simp)
  replace aL : w3.heap.size < w16.heap.size := block_lt_of_cell a0
  replace b0 : w16.cell? ⟨w5.heap.size, 0, none⟩ = some (.int .i64 1) := keep_cell hb16 (by go_simp)
  replace b1 : w16.cell? ⟨w5.heap.size, 1, none⟩ = some (.int .i64 (-56)) := keep_cell hb16 (by go_simp)
  replace b2 : w16.cell? ⟨w5.heap.size, 2, none⟩ = some (.int .i64 0) := keep_cell hb16 (by go_simp)
  replace bL : w5.heap.size < w16.heap.size := block_lt_of_cell b0
  replace c0 : w16.cell? ⟨w11.heap.size, 0, none⟩ = some (.int .i64 2) := keep_cell hb16 (by go_simp)
  replace c1 : w16.cell? ⟨w11.heap.size, 1, none⟩ = some (.int .i64 4) := keep_cell hb16 (by go_simp)
  replace c2 : w16.cell? ⟨w11.heap.size, 2, none⟩ = some (.int .i64 3) := keep_cell hb16 (by go_simp)
  replace cL : w11.heap.size < w16.heap.size := block_lt_of_cell c0
  have ht16 := tab_keep ht15 hb16
  go_wp2_with fail
  refine (text_to 0 0 0 _ _ txt3 ht16 (by decide) (by decide) (by decide) (by decide)).mono ?_
  rintro e w17 ⟨rfl, hb17⟩
  replace a0 : w17.cell? ⟨w3.heap.size, 0, none⟩ = some (.int .i64 1) := keep_cell hb17 (by go_simp)
  replace a1 : w17.cell? ⟨w3.heap.size, 1, none⟩ = some (.int .i64 (-3)) := keep_cell hb17 (by go_simp)
  replace a2 : w17.cell? ⟨w3.heap.size, 2, none⟩ = some (.int .i64 0) := keep_cell hb17 (by go_simp)
  replace aL : w3.heap.size < w17.heap.size := block_lt_of_cell a0
  replace b0 : w17.cell? ⟨w5.heap.size, 0, none⟩ = some (.int .i64 1) := keep_cell hb17 (by go_simp)
  replace b1 : w17.cell? ⟨w5.heap.size, 1, none⟩ = some (.int .i64 (-56)) := keep_cell hb17 (by go_simp)
  replace b2 : w17.cell? ⟨w5.heap.size, 2, none⟩ = some (.int .i64 0) := keep_cell hb17 (by go_simp)
  replace bL : w5.heap.size < w17.heap.size := block_lt_of_cell b0
  replace c0 : w17.cell? ⟨w11.heap.size, 0, none⟩ = some (.int .i64 2) := keep_cell hb17 (by go_simp)
  replace c1 : w17.cell? ⟨w11.heap.size, 1, none⟩ = some (.int .i64 4) := keep_cell hb17 (by go_simp)
  replace c2 : w17.cell? ⟨w11.heap.size, 2, none⟩ = some (.int .i64 3) := keep_cell hb17 (by go_simp)
  replace cL : w11.heap.size < w17.heap.size := block_lt_of_cell c0
  go_wp2
  go_ret
  exact ⟨rfl, (by repeat (first | exact Below.refl _ _ | refine bel_alloc ?_ _ | refine bel_set ?_ (by first | exact Nat.le_refl _ | (simp; done) | (simp; omega)) _ | refine Below.drew ?_ | refine bel_trans ?_ (by assumption)))⟩

end Go.Proofs.YtfkalcfkbaimgabDoor
