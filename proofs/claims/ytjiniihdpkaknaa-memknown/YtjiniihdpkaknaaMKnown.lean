/- The examples of chapter 2 answer as they are told: the closed statement MemKnown returns true. No condition. -/
import Derived.Test.YtjiniihdpkaknaaMAwake
namespace Go.Proofs.Ytjiniihdpkaknaa
open Go.ChangeShapes Go.WideShapes Go.ChangeAt Go.RowKit Pl
set_option linter.unusedSimpArgs false
set_option linter.unusedVariables false

def kn1 : List AB := (allocM [] 16).1
def kn2 : List AB := (storeM kn1 8 ⟨2, 0, 1⟩ ⟨2, 3, 1⟩).1
theorem kn0_a : allocM [] (-1) = ([], 0, 1) := by kernel_rfl
theorem kn0_b : allocM [] 65537 = ([], 0, 1) := by kernel_rfl
theorem kn1_e : allocM [] 16 = (kn1, 1, 0) := by kernel_rfl
theorem kn1_l : loadM kn1 4 ⟨2, 2, 1⟩ = (⟨0, 0, 0⟩, false) := by kernel_rfl
theorem kn1_s : storeM kn1 4 ⟨2, 0, 1⟩ ⟨2, 0, 1⟩ = (kn1, false) := by kernel_rfl
theorem kn2_e : storeM kn1 8 ⟨2, 0, 1⟩ ⟨2, 3, 1⟩ = (kn2, true) := by kernel_rfl
theorem kn2_l : loadM kn2 8 ⟨2, 0, 1⟩ = (⟨2, 3, 1⟩, true) := by kernel_rfl
theorem kn2_m : loadM kn2 4 ⟨2, 0, 1⟩ = (⟨0, 0, 0⟩, true) := by kernel_rfl
theorem kn2_f : findK kn2 2 = none := by kernel_rfl
theorem kn2_z : findK kn2 0 = none := by kernel_rfl
theorem free_no {w : World} {base p : Nat} {R : Nat → Option Role} {M : List AB} (h : Mem w base p R M) (x : Int) (hf : findK M x = none) :
    Calls Try.prog 15 #[.pointer (some ⟨p, 0, none⟩), .int .i64 x] w fun e w' => e = .returned (.bool false) ∧ w' = w := by
  obtain ⟨a, cap, g, cur, h⟩ := h
  have hF := find_any h x
  rw [hf] at hF
  exact free_none p x w hF
theorem zero_no {w : World} {base p : Nat} {R : Nat → Option Role} {M : List AB} (h : Mem w base p R M) (x : Int) (hf : findK M x = none) :
    Calls Try.prog 16 #[.pointer (some ⟨p, 0, none⟩), .int .i64 x] w fun e w' => e = .returned (.bool false) ∧ w' = w := by
  obtain ⟨a, cap, g, cur, h⟩ := h
  have hF := find_any h x
  rw [hf] at hF
  exact zero_none p x w hF
theorem s6_call {W v : World} {B C : Nat} {x0 x1 x2 y0 y1 y2 : Value} (hb : Below W.heap.size W v) (h : (W.cell? ⟨B, 0, none⟩ = some x0 ∧ W.cell? ⟨B, 1, none⟩ = some x1 ∧ W.cell? ⟨B, 2, none⟩ = some x2) ∧ W.cell? ⟨C, 0, none⟩ = some y0 ∧ W.cell? ⟨C, 1, none⟩ = some y1 ∧ W.cell? ⟨C, 2, none⟩ = some y2) :
    (v.cell? ⟨B, 0, none⟩ = some x0 ∧ v.cell? ⟨B, 1, none⟩ = some x1 ∧ v.cell? ⟨B, 2, none⟩ = some x2) ∧ v.cell? ⟨C, 0, none⟩ = some y0 ∧ v.cell? ⟨C, 1, none⟩ = some y1 ∧ v.cell? ⟨C, 2, none⟩ = some y2 := ⟨c3_call hb h.1, c3_call hb h.2⟩

set_option maxHeartbeats 4000000 in
theorem memKnown_walk (w : World) : Calls Try.prog 3 #[] w (retP (.bool true) w) := by
  have HB : Hid (Below w.heap.size w w) := Below.refl _ _
  go_enter Try.func3, Try.ntmps3
  go_wp2_with fail
  refine (awake_any _).mono ?_
  rintro e w1 ⟨rfl, hb⟩
  replace HB : Hid (Below w.heap.size w w1) := (by have hB0 := HB.out; exact (by repeat (first | with_reducible exact Below.refl _ _ | assumption | with_reducible refine bel_alloc ?_ _ | with_reducible refine Below.drew ?_ | with_reducible refine bel_drewN ?_ _ | with_reducible refine bel_set ?_ (by go_light; first | (simp; done) | (simp; omega) | omega) _ | refine bel_trans ?_ (by assumption))))
  clear hb
  go_wp2_with fail
  refine (new_to (base := w.heap.size) _ (by have := HB.out.size; first | omega | (simp; omega))).mono ?_
  rintro e w2 ⟨P2, R2, rfl, hm, hb, hn⟩
  replace HB : Hid (Below w.heap.size w w2) := (by have hB0 := HB.out; exact (by repeat (first | with_reducible exact Below.refl _ _ | assumption | with_reducible refine bel_alloc ?_ _ | with_reducible refine Below.drew ?_ | with_reducible refine bel_drewN ?_ _ | with_reducible refine bel_set ?_ (by go_light; first | (simp; done) | (simp; omega) | omega) _ | refine bel_trans ?_ (by assumption))))
  clear hb
  have HMm : Hid (Mem w2 w.heap.size P2 R2 []) := hm
  clear hm hn
  go_wp2_with fail
  refine (alloc_to (Mem.below HMm.out (by repeat (first | with_reducible exact Below.refl _ _ | assumption | with_reducible refine bel_alloc ?_ _ | with_reducible refine Below.drew ?_ | with_reducible refine bel_drewN ?_ _ | with_reducible refine bel_set ?_ (by go_light; first | (simp; done) | (simp; omega) | omega) _ | refine bel_trans ?_ (by assumption)))) (-1) kn0_a).mono ?_
  rintro e w3 ⟨rfl, R3, hm, hf⟩
  replace HB : Hid (Below w.heap.size w w3) := Below.wrote (by have hB0 := HB.out; exact (by repeat (first | with_reducible exact Below.refl _ _ | assumption | with_reducible refine bel_alloc ?_ _ | with_reducible refine Below.drew ?_ | with_reducible refine bel_drewN ?_ _ | with_reducible refine bel_set ?_ (by go_light; first | (simp; done) | (simp; omega) | omega) _ | refine bel_trans ?_ (by assumption)))) (Mem.below HMm.out (by repeat (first | with_reducible exact Below.refl _ _ | assumption | with_reducible refine bel_alloc ?_ _ | with_reducible refine Below.drew ?_ | with_reducible refine bel_drewN ?_ _ | with_reducible refine bel_set ?_ (by go_light; first | (simp; done) | (simp; omega) | omega) _ | refine bel_trans ?_ (by assumption)))) hf
  replace HMm : Hid (Mem w3 w.heap.size P2 R3 []) := hm
  clear hm hf
  go_wp2_with fail
  refine (alloc_to (Mem.below HMm.out (by repeat (first | with_reducible exact Below.refl _ _ | assumption | with_reducible refine bel_alloc ?_ _ | with_reducible refine Below.drew ?_ | with_reducible refine bel_drewN ?_ _ | with_reducible refine bel_set ?_ (by go_light; first | (simp; done) | (simp; omega) | omega) _ | refine bel_trans ?_ (by assumption)))) 65537 kn0_b).mono ?_
  rintro e w4 ⟨rfl, R4, hm, hf⟩
  replace HB : Hid (Below w.heap.size w w4) := Below.wrote (by have hB0 := HB.out; exact (by repeat (first | with_reducible exact Below.refl _ _ | assumption | with_reducible refine bel_alloc ?_ _ | with_reducible refine Below.drew ?_ | with_reducible refine bel_drewN ?_ _ | with_reducible refine bel_set ?_ (by go_light; first | (simp; done) | (simp; omega) | omega) _ | refine bel_trans ?_ (by assumption)))) (Mem.below HMm.out (by repeat (first | with_reducible exact Below.refl _ _ | assumption | with_reducible refine bel_alloc ?_ _ | with_reducible refine Below.drew ?_ | with_reducible refine bel_drewN ?_ _ | with_reducible refine bel_set ?_ (by go_light; first | (simp; done) | (simp; omega) | omega) _ | refine bel_trans ?_ (by assumption)))) hf
  replace HMm : Hid (Mem w4 w.heap.size P2 R4 []) := hm
  clear hm hf
  go_wp2_with fail
  refine (alloc_to (Mem.below HMm.out (by repeat (first | with_reducible exact Below.refl _ _ | assumption | with_reducible refine bel_alloc ?_ _ | with_reducible refine Below.drew ?_ | with_reducible refine bel_drewN ?_ _ | with_reducible refine bel_set ?_ (by go_light; first | (simp; done) | (simp; omega) | omega) _ | refine bel_trans ?_ (by assumption)))) 16 kn1_e).mono ?_
  rintro e w5 ⟨rfl, R5, hm, hf⟩
  replace HB : Hid (Below w.heap.size w w5) := Below.wrote (by have hB0 := HB.out; exact (by repeat (first | with_reducible exact Below.refl _ _ | assumption | with_reducible refine bel_alloc ?_ _ | with_reducible refine Below.drew ?_ | with_reducible refine bel_drewN ?_ _ | with_reducible refine bel_set ?_ (by go_light; first | (simp; done) | (simp; omega) | omega) _ | refine bel_trans ?_ (by assumption)))) (Mem.below HMm.out (by repeat (first | with_reducible exact Below.refl _ _ | assumption | with_reducible refine bel_alloc ?_ _ | with_reducible refine Below.drew ?_ | with_reducible refine bel_drewN ?_ _ | with_reducible refine bel_set ?_ (by go_light; first | (simp; done) | (simp; omega) | omega) _ | refine bel_trans ?_ (by assumption)))) hf
  replace HMm : Hid (Mem w5 w.heap.size P2 R5 kn1) := hm
  clear hm hf
  go_wp2_with fail
  refine (rat_to 1 2 2 2 1 _ (by rfl)).mono ?_
  rintro e w6 ⟨rfl, hb⟩
  replace HMm : Hid (Mem w6 w.heap.size P2 R5 kn1) := Mem.below HMm.out (by repeat (first | with_reducible exact Below.refl _ _ | assumption | with_reducible refine bel_alloc ?_ _ | with_reducible refine Below.drew ?_ | with_reducible refine bel_drewN ?_ _ | with_reducible refine bel_set ?_ (by go_light; first | (simp; done) | (simp; omega) | omega) _ | refine bel_trans ?_ (by assumption)))
  replace HB : Hid (Below w.heap.size w w6) := (by have hB0 := HB.out; exact (by repeat (first | with_reducible exact Below.refl _ _ | assumption | with_reducible refine bel_alloc ?_ _ | with_reducible refine Below.drew ?_ | with_reducible refine bel_drewN ?_ _ | with_reducible refine bel_set ?_ (by go_light; first | (simp; done) | (simp; omega) | omega) _ | refine bel_trans ?_ (by assumption))))
  clear hb
  go_wp2_with fail
  refine (load_to (Mem.below HMm.out (by repeat (first | with_reducible exact Below.refl _ _ | assumption | with_reducible refine bel_alloc ?_ _ | with_reducible refine Below.drew ?_ | with_reducible refine bel_drewN ?_ _ | with_reducible refine bel_set ?_ (by go_light; first | (simp; done) | (simp; omega) | omega) _ | refine bel_trans ?_ (by assumption)))) 4 2 2 1 kn1_l).mono ?_
  rintro e w7 ⟨rfl, hb⟩
  replace HMm : Hid (Mem w7 w.heap.size P2 R5 kn1) := Mem.below HMm.out (by repeat (first | with_reducible exact Below.refl _ _ | assumption | with_reducible refine bel_alloc ?_ _ | with_reducible refine Below.drew ?_ | with_reducible refine bel_drewN ?_ _ | with_reducible refine bel_set ?_ (by go_light; first | (simp; done) | (simp; omega) | omega) _ | refine bel_trans ?_ (by assumption)))
  replace HB : Hid (Below w.heap.size w w7) := (by have hB0 := HB.out; exact (by repeat (first | with_reducible exact Below.refl _ _ | assumption | with_reducible refine bel_alloc ?_ _ | with_reducible refine Below.drew ?_ | with_reducible refine bel_drewN ?_ _ | with_reducible refine bel_set ?_ (by go_light; first | (simp; done) | (simp; omega) | omega) _ | refine bel_trans ?_ (by assumption))))
  clear hb
  have xRm : R5 (w7.heap.size) = none := Mem.fresh HMm.out (by omega)
  go_wp2_with fail
  refine (rat_to 1 0 2 0 1 _ (by rfl)).mono ?_
  rintro e w8 ⟨rfl, hb⟩
  have x0 : w8.cell? ⟨w7.heap.size, 0, none⟩ = some (.int .i64 0) := keep_cell hb (by go_simp)
  have x1 : w8.cell? ⟨w7.heap.size, 1, none⟩ = some (.int .i64 0) := keep_cell hb (by go_simp)
  have x2 : w8.cell? ⟨w7.heap.size, 2, none⟩ = some (.int .i64 0) := keep_cell hb (by go_simp)
  have xL : w7.heap.size < w8.heap.size := block_lt_of_cell x0
  replace HMm : Hid (Mem w8 w.heap.size P2 R5 kn1) := Mem.below HMm.out (by repeat (first | with_reducible exact Below.refl _ _ | assumption | with_reducible refine bel_alloc ?_ _ | with_reducible refine Below.drew ?_ | with_reducible refine bel_drewN ?_ _ | with_reducible refine bel_set ?_ (by go_light; first | (simp; done) | (simp; omega) | omega) _ | refine bel_trans ?_ (by assumption)))
  replace HB : Hid (Below w.heap.size w w8) := (by have hB0 := HB.out; exact (by repeat (first | with_reducible exact Below.refl _ _ | assumption | with_reducible refine bel_alloc ?_ _ | with_reducible refine Below.drew ?_ | with_reducible refine bel_drewN ?_ _ | with_reducible refine bel_set ?_ (by go_light; first | (simp; done) | (simp; omega) | omega) _ | refine bel_trans ?_ (by assumption))))
  clear hb
  go_wp2_with fail
  refine (rat_to 1 0 2 0 1 _ (by rfl)).mono ?_
  rintro e w9 ⟨rfl, hb⟩
  replace HMm : Hid (Mem w9 w.heap.size P2 R5 kn1) := Mem.below HMm.out (by repeat (first | with_reducible exact Below.refl _ _ | assumption | with_reducible refine bel_alloc ?_ _ | with_reducible refine Below.drew ?_ | with_reducible refine bel_drewN ?_ _ | with_reducible refine bel_set ?_ (by go_light; first | (simp; done) | (simp; omega) | omega) _ | refine bel_trans ?_ (by assumption)))
  replace HB : Hid (Below w.heap.size w w9) := (by have hB0 := HB.out; exact (by repeat (first | with_reducible exact Below.refl _ _ | assumption | with_reducible refine bel_alloc ?_ _ | with_reducible refine Below.drew ?_ | with_reducible refine bel_drewN ?_ _ | with_reducible refine bel_set ?_ (by go_light; first | (simp; done) | (simp; omega) | omega) _ | refine bel_trans ?_ (by assumption))))
  clear hb
  go_wp2_with fail
  refine (store_to (Mem.below HMm.out (by repeat (first | with_reducible exact Below.refl _ _ | assumption | with_reducible refine bel_alloc ?_ _ | with_reducible refine Below.drew ?_ | with_reducible refine bel_drewN ?_ _ | with_reducible refine bel_set ?_ (by go_light; first | (simp; done) | (simp; omega) | omega) _ | refine bel_trans ?_ (by assumption)))) 4 2 0 1 2 0 1 kn1_s).mono ?_
  rintro e w10 ⟨rfl, R10, hm, hf⟩
  replace HB : Hid (Below w.heap.size w w10) := Below.wrote (by have hB0 := HB.out; exact (by repeat (first | with_reducible exact Below.refl _ _ | assumption | with_reducible refine bel_alloc ?_ _ | with_reducible refine Below.drew ?_ | with_reducible refine bel_drewN ?_ _ | with_reducible refine bel_set ?_ (by go_light; first | (simp; done) | (simp; omega) | omega) _ | refine bel_trans ?_ (by assumption)))) (Mem.below HMm.out (by repeat (first | with_reducible exact Below.refl _ _ | assumption | with_reducible refine bel_alloc ?_ _ | with_reducible refine Below.drew ?_ | with_reducible refine bel_drewN ?_ _ | with_reducible refine bel_set ?_ (by go_light; first | (simp; done) | (simp; omega) | omega) _ | refine bel_trans ?_ (by assumption)))) hf
  replace HMm : Hid (Mem w10 w.heap.size P2 R10 kn1) := hm
  clear hm hf
  go_wp2_with fail
  refine (rat_to 1 0 2 0 1 _ (by rfl)).mono ?_
  rintro e w11 ⟨rfl, hb⟩
  replace HMm : Hid (Mem w11 w.heap.size P2 R10 kn1) := Mem.below HMm.out (by repeat (first | with_reducible exact Below.refl _ _ | assumption | with_reducible refine bel_alloc ?_ _ | with_reducible refine Below.drew ?_ | with_reducible refine bel_drewN ?_ _ | with_reducible refine bel_set ?_ (by go_light; first | (simp; done) | (simp; omega) | omega) _ | refine bel_trans ?_ (by assumption)))
  replace HB : Hid (Below w.heap.size w w11) := (by have hB0 := HB.out; exact (by repeat (first | with_reducible exact Below.refl _ _ | assumption | with_reducible refine bel_alloc ?_ _ | with_reducible refine Below.drew ?_ | with_reducible refine bel_drewN ?_ _ | with_reducible refine bel_set ?_ (by go_light; first | (simp; done) | (simp; omega) | omega) _ | refine bel_trans ?_ (by assumption))))
  clear hb
  go_wp2_with fail
  refine (rat_to 1 3 2 3 1 _ (by rfl)).mono ?_
  rintro e w12 ⟨rfl, hb⟩
  replace HMm : Hid (Mem w12 w.heap.size P2 R10 kn1) := Mem.below HMm.out (by repeat (first | with_reducible exact Below.refl _ _ | assumption | with_reducible refine bel_alloc ?_ _ | with_reducible refine Below.drew ?_ | with_reducible refine bel_drewN ?_ _ | with_reducible refine bel_set ?_ (by go_light; first | (simp; done) | (simp; omega) | omega) _ | refine bel_trans ?_ (by assumption)))
  replace HB : Hid (Below w.heap.size w w12) := (by have hB0 := HB.out; exact (by repeat (first | with_reducible exact Below.refl _ _ | assumption | with_reducible refine bel_alloc ?_ _ | with_reducible refine Below.drew ?_ | with_reducible refine bel_drewN ?_ _ | with_reducible refine bel_set ?_ (by go_light; first | (simp; done) | (simp; omega) | omega) _ | refine bel_trans ?_ (by assumption))))
  clear hb
  go_wp2_with fail
  refine (store_to (Mem.below HMm.out (by repeat (first | with_reducible exact Below.refl _ _ | assumption | with_reducible refine bel_alloc ?_ _ | with_reducible refine Below.drew ?_ | with_reducible refine bel_drewN ?_ _ | with_reducible refine bel_set ?_ (by go_light; first | (simp; done) | (simp; omega) | omega) _ | refine bel_trans ?_ (by assumption)))) 8 2 0 1 2 3 1 kn2_e).mono ?_
  rintro e w13 ⟨rfl, R13, hm, hf⟩
  replace HB : Hid (Below w.heap.size w w13) := Below.wrote (by have hB0 := HB.out; exact (by repeat (first | with_reducible exact Below.refl _ _ | assumption | with_reducible refine bel_alloc ?_ _ | with_reducible refine Below.drew ?_ | with_reducible refine bel_drewN ?_ _ | with_reducible refine bel_set ?_ (by go_light; first | (simp; done) | (simp; omega) | omega) _ | refine bel_trans ?_ (by assumption)))) (Mem.below HMm.out (by repeat (first | with_reducible exact Below.refl _ _ | assumption | with_reducible refine bel_alloc ?_ _ | with_reducible refine Below.drew ?_ | with_reducible refine bel_drewN ?_ _ | with_reducible refine bel_set ?_ (by go_light; first | (simp; done) | (simp; omega) | omega) _ | refine bel_trans ?_ (by assumption)))) hf
  replace HMm : Hid (Mem w13 w.heap.size P2 R13 kn2) := hm
  clear hm hf
  go_wp2_with fail
  refine (rat_to 1 0 2 0 1 _ (by rfl)).mono ?_
  rintro e w14 ⟨rfl, hb⟩
  replace HMm : Hid (Mem w14 w.heap.size P2 R13 kn2) := Mem.below HMm.out (by repeat (first | with_reducible exact Below.refl _ _ | assumption | with_reducible refine bel_alloc ?_ _ | with_reducible refine Below.drew ?_ | with_reducible refine bel_drewN ?_ _ | with_reducible refine bel_set ?_ (by go_light; first | (simp; done) | (simp; omega) | omega) _ | refine bel_trans ?_ (by assumption)))
  replace HB : Hid (Below w.heap.size w w14) := (by have hB0 := HB.out; exact (by repeat (first | with_reducible exact Below.refl _ _ | assumption | with_reducible refine bel_alloc ?_ _ | with_reducible refine Below.drew ?_ | with_reducible refine bel_drewN ?_ _ | with_reducible refine bel_set ?_ (by go_light; first | (simp; done) | (simp; omega) | omega) _ | refine bel_trans ?_ (by assumption))))
  clear hb
  go_wp2_with fail
  refine (load_to (Mem.below HMm.out (by repeat (first | with_reducible exact Below.refl _ _ | assumption | with_reducible refine bel_alloc ?_ _ | with_reducible refine Below.drew ?_ | with_reducible refine bel_drewN ?_ _ | with_reducible refine bel_set ?_ (by go_light; first | (simp; done) | (simp; omega) | omega) _ | refine bel_trans ?_ (by assumption)))) 8 2 0 1 kn2_l).mono ?_
  rintro e w15 ⟨rfl, hb⟩
  replace HMm : Hid (Mem w15 w.heap.size P2 R13 kn2) := Mem.below HMm.out (by repeat (first | with_reducible exact Below.refl _ _ | assumption | with_reducible refine bel_alloc ?_ _ | with_reducible refine Below.drew ?_ | with_reducible refine bel_drewN ?_ _ | with_reducible refine bel_set ?_ (by go_light; first | (simp; done) | (simp; omega) | omega) _ | refine bel_trans ?_ (by assumption)))
  replace HB : Hid (Below w.heap.size w w15) := (by have hB0 := HB.out; exact (by repeat (first | with_reducible exact Below.refl _ _ | assumption | with_reducible refine bel_alloc ?_ _ | with_reducible refine Below.drew ?_ | with_reducible refine bel_drewN ?_ _ | with_reducible refine bel_set ?_ (by go_light; first | (simp; done) | (simp; omega) | omega) _ | refine bel_trans ?_ (by assumption))))
  clear hb
  have vRm : R13 (w15.heap.size) = none := Mem.fresh HMm.out (by omega)
  go_wp2_with fail
  refine (rat_to 1 0 2 0 1 _ (by rfl)).mono ?_
  rintro e w16 ⟨rfl, hb⟩
  have v0 : w16.cell? ⟨w15.heap.size, 0, none⟩ = some (.int .i64 2) := keep_cell hb (by go_simp)
  have v1 : w16.cell? ⟨w15.heap.size, 1, none⟩ = some (.int .i64 3) := keep_cell hb (by go_simp)
  have v2 : w16.cell? ⟨w15.heap.size, 2, none⟩ = some (.int .i64 1) := keep_cell hb (by go_simp)
  have vL : w15.heap.size < w16.heap.size := block_lt_of_cell v0
  replace HMm : Hid (Mem w16 w.heap.size P2 R13 kn2) := Mem.below HMm.out (by repeat (first | with_reducible exact Below.refl _ _ | assumption | with_reducible refine bel_alloc ?_ _ | with_reducible refine Below.drew ?_ | with_reducible refine bel_drewN ?_ _ | with_reducible refine bel_set ?_ (by go_light; first | (simp; done) | (simp; omega) | omega) _ | refine bel_trans ?_ (by assumption)))
  replace HB : Hid (Below w.heap.size w w16) := (by have hB0 := HB.out; exact (by repeat (first | with_reducible exact Below.refl _ _ | assumption | with_reducible refine bel_alloc ?_ _ | with_reducible refine Below.drew ?_ | with_reducible refine bel_drewN ?_ _ | with_reducible refine bel_set ?_ (by go_light; first | (simp; done) | (simp; omega) | omega) _ | refine bel_trans ?_ (by assumption))))
  clear hb
  go_wp2_with fail
  refine (load_to (Mem.below HMm.out (by repeat (first | with_reducible exact Below.refl _ _ | assumption | with_reducible refine bel_alloc ?_ _ | with_reducible refine Below.drew ?_ | with_reducible refine bel_drewN ?_ _ | with_reducible refine bel_set ?_ (by go_light; first | (simp; done) | (simp; omega) | omega) _ | refine bel_trans ?_ (by assumption)))) 4 2 0 1 kn2_m).mono ?_
  rintro e w17 ⟨rfl, hb⟩
  replace v0 : w17.cell? ⟨w15.heap.size, 0, none⟩ = some (.int .i64 2) := keep_cell hb (by go_simp)
  replace v1 : w17.cell? ⟨w15.heap.size, 1, none⟩ = some (.int .i64 3) := keep_cell hb (by go_simp)
  replace v2 : w17.cell? ⟨w15.heap.size, 2, none⟩ = some (.int .i64 1) := keep_cell hb (by go_simp)
  replace vL : w15.heap.size < w17.heap.size := block_lt_of_cell v0
  replace HMm : Hid (Mem w17 w.heap.size P2 R13 kn2) := Mem.below HMm.out (by repeat (first | with_reducible exact Below.refl _ _ | assumption | with_reducible refine bel_alloc ?_ _ | with_reducible refine Below.drew ?_ | with_reducible refine bel_drewN ?_ _ | with_reducible refine bel_set ?_ (by go_light; first | (simp; done) | (simp; omega) | omega) _ | refine bel_trans ?_ (by assumption)))
  replace HB : Hid (Below w.heap.size w w17) := (by have hB0 := HB.out; exact (by repeat (first | with_reducible exact Below.refl _ _ | assumption | with_reducible refine bel_alloc ?_ _ | with_reducible refine Below.drew ?_ | with_reducible refine bel_drewN ?_ _ | with_reducible refine bel_set ?_ (by go_light; first | (simp; done) | (simp; omega) | omega) _ | refine bel_trans ?_ (by assumption))))
  clear hb
  have uRm : R13 (w17.heap.size) = none := Mem.fresh HMm.out (by omega)
  go_wp2_with fail
  go_region_held3 (fun w' => (w'.cell? ⟨w15.heap.size, 0, none⟩ = some (.int .i64 2) ∧ w'.cell? ⟨w15.heap.size, 1, none⟩ = some (.int .i64 3) ∧ w'.cell? ⟨w15.heap.size, 2, none⟩ = some (.int .i64 1)) ∧ (w'.cell? ⟨w17.heap.size, 0, none⟩ = some (.int .i64 0) ∧ w'.cell? ⟨w17.heap.size, 1, none⟩ = some (.int .i64 0) ∧ w'.cell? ⟨w17.heap.size, 2, none⟩ = some (.int .i64 0)))
    (first | with_reducible exact s6_call hb (by assumption) | ((go_simp; done)))
    (first
      | (go_at_call 13; refine (rat_to 1 3 2 3 1 _ (by rfl)).mono ?_; rintro e wz ⟨rfl, hb⟩)
      | (go_at_call 15; refine (free_no (Mem.below HMm.out (by repeat (first | with_reducible exact Below.refl _ _ | assumption | with_reducible refine bel_alloc ?_ _ | with_reducible refine Below.drew ?_ | with_reducible refine bel_drewN ?_ _ | with_reducible refine bel_set ?_ (by go_light; first | (simp; done) | (simp; omega) | omega) _ | refine bel_trans ?_ (by assumption)))) 2 kn2_f).mono ?_; rintro e w' ⟨rfl, hw'⟩; replace hw' := hw'.symm; subst hw')
      | (go_at_call 16; refine (zero_no (Mem.below HMm.out (by repeat (first | with_reducible exact Below.refl _ _ | assumption | with_reducible refine bel_alloc ?_ _ | with_reducible refine Below.drew ?_ | with_reducible refine bel_drewN ?_ _ | with_reducible refine bel_set ?_ (by go_light; first | (simp; done) | (simp; omega) | omega) _ | refine bel_trans ?_ (by assumption)))) 0 kn2_z).mono ?_; rintro e w' ⟨rfl, hw'⟩; replace hw' := hw'.symm; subst hw'))
  all_goals
    go_wp2
    go_ret
    exact ⟨rfl, by have hB0 := HB.out; exact (by repeat (first | with_reducible exact Below.refl _ _ | assumption | with_reducible refine bel_alloc ?_ _ | with_reducible refine Below.drew ?_ | with_reducible refine bel_drewN ?_ _ | with_reducible refine bel_set ?_ (by go_light; first | (simp; done) | (simp; omega) | omega) _ | refine bel_trans ?_ (by assumption)))⟩

set_option maxRecDepth 100000 in
theorem memKnown_lifted (os : Os) (started : os.Started) (H : Type) (enc : TypeId × Value → H) :
    ReturnsInHanded {} Try.checked os 3 .any (Rows.memKnownSpec.pre6 enc Try.prog Try.f3 Rows.memKnownRow.domain false) (Rows.memKnownSpec.post enc Try.prog Try.f3 false true false false) := by
  refine returnsInHanded_of_change (C := Try.checked) own started (by kernel_rfl) Try.func3
    (ChangeSpec.witness6 (enc := enc) (C := Try.checked) false ⟨#[], #[], []⟩ 8 (by kernel_rfl) (by kernel_rfl) (by kernel_rfl) (by kernel_rfl)) ?_
  intro W base args ds gs before hval0 hW hcnd _
  have hval : ∀ (j : Nat) t v, Try.f3.params[j]? = some t → args[j]? = some v → Value.okWide Try.prog W .any base t v := hval0
  have hW' := hW
  obtain ⟨p, q, hA0, hV, rfl, hfz, hnd⟩ := hW
  have hA : DataW.TrodAll enc Try.prog W 0 (fun _ => true) true Try.f3.params.toList args.toList ds p := hA0
  rw [Try.params3] at hA hval
  obtain ⟨rfl, rfl, rfl⟩ := trodAll_none hA
  obtain ⟨rfl, rfl⟩ := trodVars_none hV
  clear hA0 hval0
  simp only [List.append_nil] at hW'
  refine (memKnown_walk W).mono fun e W' ⟨he, hb⟩ => ?_
  subst he
  exact ⟨_, rfl, _, _, _, [], [], [], hW', (trodAll_cons_mk (shut_bool Try.underlying4 _) trodAll_mk0), rfl, rfl, hb.frame _, fun h => by cases h⟩

/-- THE STATEMENT. -/
theorem memKnown_holds : Rows.MemKnownSaid :=
  OpenClaim.holds_of_wide 3 Try.f3 rfl rfl rfl rfl rfl rfl rfl ⟨rfl, rfl, rfl, rfl, rfl⟩ rfl rfl rfl rfl rfl (by kernel_rfl) Try.func3 (by kernel_rfl)
    (of_decide_eq_true (by kernel_rfl)) (by unfold Func.isWrapper; first | (rw [if_pos (by decide +kernel)]; kernel_rfl) | (rw [if_neg (by decide +kernel)]; exact ⟨rfl, rfl⟩))
    (fun os started H enc _ => memKnown_lifted os started H enc)
#print axioms memKnown_holds

end Go.Proofs.Ytjiniihdpkaknaa
