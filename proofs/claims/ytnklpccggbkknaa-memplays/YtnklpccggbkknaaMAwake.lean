/- The document's examples of a block: awake returns true. -/
import Derived.Test.YtnklpccggbkknaaMKit
namespace Go.Proofs.Ytnklpccggbkknaa
open Go.ChangeShapes Go.WideShapes Go.ChangeAt Go.RowKit Pl
set_option linter.unusedSimpArgs false
set_option linter.unusedVariables false

theorem none_of {Q : Nat → Option Role} {s b : Nat} (hn : ∀ b, Q b ≠ none → s ≤ b) (hb : b < s) : Q b = none := by
  cases hQ : Q b with
  | none => rfl
  | some r => have := hn b (by rw [hQ]; simp); omega
def aw1 : List AB := (allocM [] 16).1
def aw2 : List AB := (storeM aw1 4 ⟨2, 4, 1⟩ ⟨1, -2, 0⟩).1
def aw3 : List AB := (zeroM aw2 1).1
def aw4 : List AB := (freeM aw3 1).1
theorem aw1_e : allocM [] 16 = (aw1, 1, 0) := by kernel_rfl
theorem aw1_l : loadM aw1 8 ⟨2, 0, 1⟩ = (⟨0, 0, 0⟩, true) := by kernel_rfl
theorem aw2_e : storeM aw1 4 ⟨2, 4, 1⟩ ⟨1, -2, 0⟩ = (aw2, true) := by kernel_rfl
theorem aw2_l : loadM aw2 1 ⟨2, 4, 1⟩ = (⟨1, -2, 0⟩, true) := by kernel_rfl
theorem aw2_s : sizeM aw2 1 = (16, true) := by kernel_rfl
theorem aw3_e : zeroM aw2 1 = (aw3, true) := by kernel_rfl
theorem aw4_e : freeM aw3 1 = (aw4, true) := by kernel_rfl
theorem aw4_n : aw4.length = 1 := by kernel_rfl
theorem aw4_v : live aw4 = 0 := by kernel_rfl
theorem aw2_v : live aw2 = 1 := by kernel_rfl
theorem aw_ne : false = true ↔ SameM aw2 aw4 := by
  refine ⟨fun h => (by cases h), fun h => ?_⟩
  obtain ⟨a, ha, hf⟩ : ∃ a, aw2[0]? = some a ∧ a.freed = false := ⟨_, rfl, by kernel_rfl⟩
  obtain ⟨b, hb, hg⟩ : ∃ b, aw4[0]? = some b ∧ b.freed = true := ⟨_, rfl, by kernel_rfl⟩
  have := (h.2 0 a b ha hb).2.1
  rw [hf, hg] at this
  cases this

set_option maxHeartbeats 4000000 in
theorem awake_any (w : World) : Calls Try.prog 6 #[] w (retP (.bool true) w) := by
  have HB : Hid (Below w.heap.size w w) := Below.refl _ _
  go_enter Try.func6, Try.ntmps6
  go_wp2_with fail
  refine (new_to (base := w.heap.size) _ (by have := HB.out.size; first | omega | (simp; omega))).mono ?_
  rintro e w1 ⟨P1, R1, rfl, hm, hb, hn⟩
  replace HB : Hid (Below w.heap.size w w1) := (by have hB0 := HB.out; exact (by repeat (first | with_reducible exact Below.refl _ _ | assumption | with_reducible refine bel_alloc ?_ _ | with_reducible refine Below.drew ?_ | with_reducible refine bel_drewN ?_ _ | with_reducible refine bel_set ?_ (by go_light; first | (simp; done) | (simp; omega) | omega) _ | refine bel_trans ?_ (by assumption))))
  clear hb
  have HMm : Hid (Mem w1 w.heap.size P1 R1 []) := hm
  clear hm hn
  go_wp2_with fail
  refine (alloc_to (Mem.below HMm.out (by repeat (first | with_reducible exact Below.refl _ _ | assumption | with_reducible refine bel_alloc ?_ _ | with_reducible refine Below.drew ?_ | with_reducible refine bel_drewN ?_ _ | with_reducible refine bel_set ?_ (by go_light; first | (simp; done) | (simp; omega) | omega) _ | refine bel_trans ?_ (by assumption)))) 16 aw1_e).mono ?_
  rintro e w2 ⟨rfl, R2, hm, hf⟩
  replace HB : Hid (Below w.heap.size w w2) := Below.wrote (by have hB0 := HB.out; exact (by repeat (first | with_reducible exact Below.refl _ _ | assumption | with_reducible refine bel_alloc ?_ _ | with_reducible refine Below.drew ?_ | with_reducible refine bel_drewN ?_ _ | with_reducible refine bel_set ?_ (by go_light; first | (simp; done) | (simp; omega) | omega) _ | refine bel_trans ?_ (by assumption)))) (Mem.below HMm.out (by repeat (first | with_reducible exact Below.refl _ _ | assumption | with_reducible refine bel_alloc ?_ _ | with_reducible refine Below.drew ?_ | with_reducible refine bel_drewN ?_ _ | with_reducible refine bel_set ?_ (by go_light; first | (simp; done) | (simp; omega) | omega) _ | refine bel_trans ?_ (by assumption)))) hf
  replace HMm : Hid (Mem w2 w.heap.size P1 R2 aw1) := hm
  clear hm hf
  go_wp2_with fail
  refine (rat_to 1 0 2 0 1 _ (by rfl)).mono ?_
  rintro e w3 ⟨rfl, hb⟩
  replace HMm : Hid (Mem w3 w.heap.size P1 R2 aw1) := Mem.below HMm.out (by repeat (first | with_reducible exact Below.refl _ _ | assumption | with_reducible refine bel_alloc ?_ _ | with_reducible refine Below.drew ?_ | with_reducible refine bel_drewN ?_ _ | with_reducible refine bel_set ?_ (by go_light; first | (simp; done) | (simp; omega) | omega) _ | refine bel_trans ?_ (by assumption)))
  replace HB : Hid (Below w.heap.size w w3) := (by have hB0 := HB.out; exact (by repeat (first | with_reducible exact Below.refl _ _ | assumption | with_reducible refine bel_alloc ?_ _ | with_reducible refine Below.drew ?_ | with_reducible refine bel_drewN ?_ _ | with_reducible refine bel_set ?_ (by go_light; first | (simp; done) | (simp; omega) | omega) _ | refine bel_trans ?_ (by assumption))))
  clear hb
  go_wp2_with fail
  refine (load_to (Mem.below HMm.out (by repeat (first | with_reducible exact Below.refl _ _ | assumption | with_reducible refine bel_alloc ?_ _ | with_reducible refine Below.drew ?_ | with_reducible refine bel_drewN ?_ _ | with_reducible refine bel_set ?_ (by go_light; first | (simp; done) | (simp; omega) | omega) _ | refine bel_trans ?_ (by assumption)))) 8 2 0 1 aw1_l).mono ?_
  rintro e w4 ⟨rfl, hb⟩
  replace HMm : Hid (Mem w4 w.heap.size P1 R2 aw1) := Mem.below HMm.out (by repeat (first | with_reducible exact Below.refl _ _ | assumption | with_reducible refine bel_alloc ?_ _ | with_reducible refine Below.drew ?_ | with_reducible refine bel_drewN ?_ _ | with_reducible refine bel_set ?_ (by go_light; first | (simp; done) | (simp; omega) | omega) _ | refine bel_trans ?_ (by assumption)))
  replace HB : Hid (Below w.heap.size w w4) := (by have hB0 := HB.out; exact (by repeat (first | with_reducible exact Below.refl _ _ | assumption | with_reducible refine bel_alloc ?_ _ | with_reducible refine Below.drew ?_ | with_reducible refine bel_drewN ?_ _ | with_reducible refine bel_set ?_ (by go_light; first | (simp; done) | (simp; omega) | omega) _ | refine bel_trans ?_ (by assumption))))
  clear hb
  have vRm : R2 (w4.heap.size) = none := Mem.fresh HMm.out (by omega)
  go_wp2_with fail
  refine (rat_to 1 4 2 4 1 _ (by rfl)).mono ?_
  rintro e w5 ⟨rfl, hb⟩
  have v0 : w5.cell? ⟨w4.heap.size, 0, none⟩ = some (.int .i64 0) := keep_cell hb (by go_simp)
  have v1 : w5.cell? ⟨w4.heap.size, 1, none⟩ = some (.int .i64 0) := keep_cell hb (by go_simp)
  have v2 : w5.cell? ⟨w4.heap.size, 2, none⟩ = some (.int .i64 0) := keep_cell hb (by go_simp)
  have vL : w4.heap.size < w5.heap.size := block_lt_of_cell v0
  replace HMm : Hid (Mem w5 w.heap.size P1 R2 aw1) := Mem.below HMm.out (by repeat (first | with_reducible exact Below.refl _ _ | assumption | with_reducible refine bel_alloc ?_ _ | with_reducible refine Below.drew ?_ | with_reducible refine bel_drewN ?_ _ | with_reducible refine bel_set ?_ (by go_light; first | (simp; done) | (simp; omega) | omega) _ | refine bel_trans ?_ (by assumption)))
  replace HB : Hid (Below w.heap.size w w5) := (by have hB0 := HB.out; exact (by repeat (first | with_reducible exact Below.refl _ _ | assumption | with_reducible refine bel_alloc ?_ _ | with_reducible refine Below.drew ?_ | with_reducible refine bel_drewN ?_ _ | with_reducible refine bel_set ?_ (by go_light; first | (simp; done) | (simp; omega) | omega) _ | refine bel_trans ?_ (by assumption))))
  clear hb
  go_wp2_with fail
  refine (rof_to (-2) _).mono ?_
  rintro e w6 ⟨rfl, hb⟩
  replace v0 : w6.cell? ⟨w4.heap.size, 0, none⟩ = some (.int .i64 0) := keep_cell hb (by go_simp)
  replace v1 : w6.cell? ⟨w4.heap.size, 1, none⟩ = some (.int .i64 0) := keep_cell hb (by go_simp)
  replace v2 : w6.cell? ⟨w4.heap.size, 2, none⟩ = some (.int .i64 0) := keep_cell hb (by go_simp)
  replace vL : w4.heap.size < w6.heap.size := block_lt_of_cell v0
  replace HMm : Hid (Mem w6 w.heap.size P1 R2 aw1) := Mem.below HMm.out (by repeat (first | with_reducible exact Below.refl _ _ | assumption | with_reducible refine bel_alloc ?_ _ | with_reducible refine Below.drew ?_ | with_reducible refine bel_drewN ?_ _ | with_reducible refine bel_set ?_ (by go_light; first | (simp; done) | (simp; omega) | omega) _ | refine bel_trans ?_ (by assumption)))
  replace HB : Hid (Below w.heap.size w w6) := (by have hB0 := HB.out; exact (by repeat (first | with_reducible exact Below.refl _ _ | assumption | with_reducible refine bel_alloc ?_ _ | with_reducible refine Below.drew ?_ | with_reducible refine bel_drewN ?_ _ | with_reducible refine bel_set ?_ (by go_light; first | (simp; done) | (simp; omega) | omega) _ | refine bel_trans ?_ (by assumption))))
  clear hb
  go_wp2_with fail
  refine (store_to (Mem.below HMm.out (by repeat (first | with_reducible exact Below.refl _ _ | assumption | with_reducible refine bel_alloc ?_ _ | with_reducible refine Below.drew ?_ | with_reducible refine bel_drewN ?_ _ | with_reducible refine bel_set ?_ (by go_light; first | (simp; done) | (simp; omega) | omega) _ | refine bel_trans ?_ (by assumption)))) 4 2 4 1 1 (-2) 0 aw2_e).mono ?_
  rintro e w7 ⟨rfl, R7, hm, hf⟩
  have tR : R7 (w4.heap.size) = none := hf.keepR (o := 0) (v := .int .i64 0) vRm (by go_simp)
  replace v0 : w7.cell? ⟨w4.heap.size, 0, none⟩ = some (.int .i64 0) := hf.keep vRm (by go_simp)
  replace v1 : w7.cell? ⟨w4.heap.size, 1, none⟩ = some (.int .i64 0) := hf.keep vRm (by go_simp)
  replace v2 : w7.cell? ⟨w4.heap.size, 2, none⟩ = some (.int .i64 0) := hf.keep vRm (by go_simp)
  replace vL : w4.heap.size < w7.heap.size := block_lt_of_cell v0
  replace vRm := tR
  clear tR
  replace HB : Hid (Below w.heap.size w w7) := Below.wrote (by have hB0 := HB.out; exact (by repeat (first | with_reducible exact Below.refl _ _ | assumption | with_reducible refine bel_alloc ?_ _ | with_reducible refine Below.drew ?_ | with_reducible refine bel_drewN ?_ _ | with_reducible refine bel_set ?_ (by go_light; first | (simp; done) | (simp; omega) | omega) _ | refine bel_trans ?_ (by assumption)))) (Mem.below HMm.out (by repeat (first | with_reducible exact Below.refl _ _ | assumption | with_reducible refine bel_alloc ?_ _ | with_reducible refine Below.drew ?_ | with_reducible refine bel_drewN ?_ _ | with_reducible refine bel_set ?_ (by go_light; first | (simp; done) | (simp; omega) | omega) _ | refine bel_trans ?_ (by assumption)))) hf
  replace HMm : Hid (Mem w7 w.heap.size P1 R7 aw2) := hm
  clear hm hf
  go_wp2_with fail
  refine (rat_to 1 4 2 4 1 _ (by rfl)).mono ?_
  rintro e w8 ⟨rfl, hb⟩
  replace v0 : w8.cell? ⟨w4.heap.size, 0, none⟩ = some (.int .i64 0) := keep_cell hb (by go_simp)
  replace v1 : w8.cell? ⟨w4.heap.size, 1, none⟩ = some (.int .i64 0) := keep_cell hb (by go_simp)
  replace v2 : w8.cell? ⟨w4.heap.size, 2, none⟩ = some (.int .i64 0) := keep_cell hb (by go_simp)
  replace vL : w4.heap.size < w8.heap.size := block_lt_of_cell v0
  replace HMm : Hid (Mem w8 w.heap.size P1 R7 aw2) := Mem.below HMm.out (by repeat (first | with_reducible exact Below.refl _ _ | assumption | with_reducible refine bel_alloc ?_ _ | with_reducible refine Below.drew ?_ | with_reducible refine bel_drewN ?_ _ | with_reducible refine bel_set ?_ (by go_light; first | (simp; done) | (simp; omega) | omega) _ | refine bel_trans ?_ (by assumption)))
  replace HB : Hid (Below w.heap.size w w8) := (by have hB0 := HB.out; exact (by repeat (first | with_reducible exact Below.refl _ _ | assumption | with_reducible refine bel_alloc ?_ _ | with_reducible refine Below.drew ?_ | with_reducible refine bel_drewN ?_ _ | with_reducible refine bel_set ?_ (by go_light; first | (simp; done) | (simp; omega) | omega) _ | refine bel_trans ?_ (by assumption))))
  clear hb
  go_wp2_with fail
  refine (load_to (Mem.below HMm.out (by repeat (first | with_reducible exact Below.refl _ _ | assumption | with_reducible refine bel_alloc ?_ _ | with_reducible refine Below.drew ?_ | with_reducible refine bel_drewN ?_ _ | with_reducible refine bel_set ?_ (by go_light; first | (simp; done) | (simp; omega) | omega) _ | refine bel_trans ?_ (by assumption)))) 1 2 4 1 aw2_l).mono ?_
  rintro e w9 ⟨rfl, hb⟩
  replace v0 : w9.cell? ⟨w4.heap.size, 0, none⟩ = some (.int .i64 0) := keep_cell hb (by go_simp)
  replace v1 : w9.cell? ⟨w4.heap.size, 1, none⟩ = some (.int .i64 0) := keep_cell hb (by go_simp)
  replace v2 : w9.cell? ⟨w4.heap.size, 2, none⟩ = some (.int .i64 0) := keep_cell hb (by go_simp)
  replace vL : w4.heap.size < w9.heap.size := block_lt_of_cell v0
  replace HMm : Hid (Mem w9 w.heap.size P1 R7 aw2) := Mem.below HMm.out (by repeat (first | with_reducible exact Below.refl _ _ | assumption | with_reducible refine bel_alloc ?_ _ | with_reducible refine Below.drew ?_ | with_reducible refine bel_drewN ?_ _ | with_reducible refine bel_set ?_ (by go_light; first | (simp; done) | (simp; omega) | omega) _ | refine bel_trans ?_ (by assumption)))
  replace HB : Hid (Below w.heap.size w w9) := (by have hB0 := HB.out; exact (by repeat (first | with_reducible exact Below.refl _ _ | assumption | with_reducible refine bel_alloc ?_ _ | with_reducible refine Below.drew ?_ | with_reducible refine bel_drewN ?_ _ | with_reducible refine bel_set ?_ (by go_light; first | (simp; done) | (simp; omega) | omega) _ | refine bel_trans ?_ (by assumption))))
  clear hb
  have uRm : R7 (w9.heap.size) = none := Mem.fresh HMm.out (by omega)
  go_wp2_with fail
  refine (copy_to (base' := w.heap.size) (Mem.below HMm.out (by repeat (first | with_reducible exact Below.refl _ _ | assumption | with_reducible refine bel_alloc ?_ _ | with_reducible refine Below.drew ?_ | with_reducible refine bel_drewN ?_ _ | with_reducible refine bel_set ?_ (by go_light; first | (simp; done) | (simp; omega) | omega) _ | refine bel_trans ?_ (by assumption)))) (by have := HB.out.size; first | omega | (simp; omega))).mono ?_
  rintro e w10 ⟨P10, R10, rfl, hm, hb, hn⟩
  have HAmc : Hid (Apart R7 R10) := apart_new (Mem.below HMm.out (by repeat (first | with_reducible exact Below.refl _ _ | assumption | with_reducible refine bel_alloc ?_ _ | with_reducible refine Below.drew ?_ | with_reducible refine bel_drewN ?_ _ | with_reducible refine bel_set ?_ (by go_light; first | (simp; done) | (simp; omega) | omega) _ | refine bel_trans ?_ (by assumption)))) hn
  have vRc : R10 (w4.heap.size) = none := none_of hn (block_lt_of_cell (a := ⟨w4.heap.size, 0, none⟩) (v := .int .i64 0) (by go_simp))
  have uRc : R10 (w9.heap.size) = none := none_of hn (block_lt_of_cell (a := ⟨w9.heap.size, 0, none⟩) (v := .int .i64 1) (by go_simp))
  replace v0 : w10.cell? ⟨w4.heap.size, 0, none⟩ = some (.int .i64 0) := keep_cell hb (by go_simp)
  replace v1 : w10.cell? ⟨w4.heap.size, 1, none⟩ = some (.int .i64 0) := keep_cell hb (by go_simp)
  replace v2 : w10.cell? ⟨w4.heap.size, 2, none⟩ = some (.int .i64 0) := keep_cell hb (by go_simp)
  replace vL : w4.heap.size < w10.heap.size := block_lt_of_cell v0
  have u0 : w10.cell? ⟨w9.heap.size, 0, none⟩ = some (.int .i64 1) := keep_cell hb (by go_simp)
  have u1 : w10.cell? ⟨w9.heap.size, 1, none⟩ = some (.int .i64 (-2)) := keep_cell hb (by go_simp)
  have u2 : w10.cell? ⟨w9.heap.size, 2, none⟩ = some (.int .i64 0) := keep_cell hb (by go_simp)
  have uL : w9.heap.size < w10.heap.size := block_lt_of_cell u0
  replace HMm : Hid (Mem w10 w.heap.size P1 R7 aw2) := Mem.below HMm.out (by repeat (first | with_reducible exact Below.refl _ _ | assumption | with_reducible refine bel_alloc ?_ _ | with_reducible refine Below.drew ?_ | with_reducible refine bel_drewN ?_ _ | with_reducible refine bel_set ?_ (by go_light; first | (simp; done) | (simp; omega) | omega) _ | refine bel_trans ?_ (by assumption)))
  replace HB : Hid (Below w.heap.size w w10) := (by have hB0 := HB.out; exact (by repeat (first | with_reducible exact Below.refl _ _ | assumption | with_reducible refine bel_alloc ?_ _ | with_reducible refine Below.drew ?_ | with_reducible refine bel_drewN ?_ _ | with_reducible refine bel_set ?_ (by go_light; first | (simp; done) | (simp; omega) | omega) _ | refine bel_trans ?_ (by assumption))))
  clear hb
  have HMc : Hid (Mem w10 w.heap.size P10 R10 aw2) := hm
  clear hm hn
  go_wp2_with fail
  refine (size_to (Mem.below HMm.out (by repeat (first | with_reducible exact Below.refl _ _ | assumption | with_reducible refine bel_alloc ?_ _ | with_reducible refine Below.drew ?_ | with_reducible refine bel_drewN ?_ _ | with_reducible refine bel_set ?_ (by go_light; first | (simp; done) | (simp; omega) | omega) _ | refine bel_trans ?_ (by assumption)))) 1 aw2_s).mono ?_
  rintro e w' ⟨rfl, hw'⟩
  replace hw' := hw'.symm
  subst hw'
  go_wp2_with fail
  refine (same_to (r := true) (Mem.below HMc.out (by repeat (first | with_reducible exact Below.refl _ _ | assumption | with_reducible refine bel_alloc ?_ _ | with_reducible refine Below.drew ?_ | with_reducible refine bel_drewN ?_ _ | with_reducible refine bel_set ?_ (by go_light; first | (simp; done) | (simp; omega) | omega) _ | refine bel_trans ?_ (by assumption)))) (Mem.below HMm.out (by repeat (first | with_reducible exact Below.refl _ _ | assumption | with_reducible refine bel_alloc ?_ _ | with_reducible refine Below.drew ?_ | with_reducible refine bel_drewN ?_ _ | with_reducible refine bel_set ?_ (by go_light; first | (simp; done) | (simp; omega) | omega) _ | refine bel_trans ?_ (by assumption)))) ⟨fun _ => SameM.refl _, fun _ => rfl⟩).mono ?_
  rintro e w11 ⟨rfl, hb⟩
  replace v0 : w11.cell? ⟨w4.heap.size, 0, none⟩ = some (.int .i64 0) := keep_cell hb (by go_simp)
  replace v1 : w11.cell? ⟨w4.heap.size, 1, none⟩ = some (.int .i64 0) := keep_cell hb (by go_simp)
  replace v2 : w11.cell? ⟨w4.heap.size, 2, none⟩ = some (.int .i64 0) := keep_cell hb (by go_simp)
  replace vL : w4.heap.size < w11.heap.size := block_lt_of_cell v0
  replace u0 : w11.cell? ⟨w9.heap.size, 0, none⟩ = some (.int .i64 1) := keep_cell hb (by go_simp)
  replace u1 : w11.cell? ⟨w9.heap.size, 1, none⟩ = some (.int .i64 (-2)) := keep_cell hb (by go_simp)
  replace u2 : w11.cell? ⟨w9.heap.size, 2, none⟩ = some (.int .i64 0) := keep_cell hb (by go_simp)
  replace uL : w9.heap.size < w11.heap.size := block_lt_of_cell u0
  replace HMm : Hid (Mem w11 w.heap.size P1 R7 aw2) := Mem.below HMm.out (by repeat (first | with_reducible exact Below.refl _ _ | assumption | with_reducible refine bel_alloc ?_ _ | with_reducible refine Below.drew ?_ | with_reducible refine bel_drewN ?_ _ | with_reducible refine bel_set ?_ (by go_light; first | (simp; done) | (simp; omega) | omega) _ | refine bel_trans ?_ (by assumption)))
  replace HMc : Hid (Mem w11 w.heap.size P10 R10 aw2) := Mem.below HMc.out (by repeat (first | with_reducible exact Below.refl _ _ | assumption | with_reducible refine bel_alloc ?_ _ | with_reducible refine Below.drew ?_ | with_reducible refine bel_drewN ?_ _ | with_reducible refine bel_set ?_ (by go_light; first | (simp; done) | (simp; omega) | omega) _ | refine bel_trans ?_ (by assumption)))
  replace HB : Hid (Below w.heap.size w w11) := (by have hB0 := HB.out; exact (by repeat (first | with_reducible exact Below.refl _ _ | assumption | with_reducible refine bel_alloc ?_ _ | with_reducible refine Below.drew ?_ | with_reducible refine bel_drewN ?_ _ | with_reducible refine bel_set ?_ (by go_light; first | (simp; done) | (simp; omega) | omega) _ | refine bel_trans ?_ (by assumption))))
  clear hb
  go_wp2_with fail
  refine (zero_to (Mem.below HMm.out (by repeat (first | with_reducible exact Below.refl _ _ | assumption | with_reducible refine bel_alloc ?_ _ | with_reducible refine Below.drew ?_ | with_reducible refine bel_drewN ?_ _ | with_reducible refine bel_set ?_ (by go_light; first | (simp; done) | (simp; omega) | omega) _ | refine bel_trans ?_ (by assumption)))) 1 aw3_e).mono ?_
  rintro e w12 ⟨rfl, R12, hm, hf⟩
  have tR : R12 (w4.heap.size) = none := hf.keepR (o := 0) (v := .int .i64 0) vRm (by go_simp)
  replace v0 : w12.cell? ⟨w4.heap.size, 0, none⟩ = some (.int .i64 0) := hf.keep vRm (by go_simp)
  replace v1 : w12.cell? ⟨w4.heap.size, 1, none⟩ = some (.int .i64 0) := hf.keep vRm (by go_simp)
  replace v2 : w12.cell? ⟨w4.heap.size, 2, none⟩ = some (.int .i64 0) := hf.keep vRm (by go_simp)
  replace vL : w4.heap.size < w12.heap.size := block_lt_of_cell v0
  replace vRm := tR
  clear tR
  have tR : R12 (w9.heap.size) = none := hf.keepR (o := 0) (v := .int .i64 1) uRm (by go_simp)
  replace u0 : w12.cell? ⟨w9.heap.size, 0, none⟩ = some (.int .i64 1) := hf.keep uRm (by go_simp)
  replace u1 : w12.cell? ⟨w9.heap.size, 1, none⟩ = some (.int .i64 (-2)) := hf.keep uRm (by go_simp)
  replace u2 : w12.cell? ⟨w9.heap.size, 2, none⟩ = some (.int .i64 0) := hf.keep uRm (by go_simp)
  replace uL : w9.heap.size < w12.heap.size := block_lt_of_cell u0
  replace uRm := tR
  clear tR
  replace HB : Hid (Below w.heap.size w w12) := Below.wrote (by have hB0 := HB.out; exact (by repeat (first | with_reducible exact Below.refl _ _ | assumption | with_reducible refine bel_alloc ?_ _ | with_reducible refine Below.drew ?_ | with_reducible refine bel_drewN ?_ _ | with_reducible refine bel_set ?_ (by go_light; first | (simp; done) | (simp; omega) | omega) _ | refine bel_trans ?_ (by assumption)))) (Mem.below HMm.out (by repeat (first | with_reducible exact Below.refl _ _ | assumption | with_reducible refine bel_alloc ?_ _ | with_reducible refine Below.drew ?_ | with_reducible refine bel_drewN ?_ _ | with_reducible refine bel_set ?_ (by go_light; first | (simp; done) | (simp; omega) | omega) _ | refine bel_trans ?_ (by assumption)))) hf
  have tA : Hid (Apart R12 R10) := Apart.step HAmc.out hf (Mem.below HMc.out (by repeat (first | with_reducible exact Below.refl _ _ | assumption | with_reducible refine bel_alloc ?_ _ | with_reducible refine Below.drew ?_ | with_reducible refine bel_drewN ?_ _ | with_reducible refine bel_set ?_ (by go_light; first | (simp; done) | (simp; omega) | omega) _ | refine bel_trans ?_ (by assumption))))
  replace HMc : Hid (Mem w12 w.heap.size P10 R10 aw2) := Mem.beside (Mem.below HMc.out (by repeat (first | with_reducible exact Below.refl _ _ | assumption | with_reducible refine bel_alloc ?_ _ | with_reducible refine Below.drew ?_ | with_reducible refine bel_drewN ?_ _ | with_reducible refine bel_set ?_ (by go_light; first | (simp; done) | (simp; omega) | omega) _ | refine bel_trans ?_ (by assumption)))) hf HAmc.out
  replace HAmc := tA
  clear tA
  replace HMm : Hid (Mem w12 w.heap.size P1 R12 aw3) := hm
  clear hm hf
  go_wp2_with fail
  refine (free_to (Mem.below HMm.out (by repeat (first | with_reducible exact Below.refl _ _ | assumption | with_reducible refine bel_alloc ?_ _ | with_reducible refine Below.drew ?_ | with_reducible refine bel_drewN ?_ _ | with_reducible refine bel_set ?_ (by go_light; first | (simp; done) | (simp; omega) | omega) _ | refine bel_trans ?_ (by assumption)))) 1 aw4_e).mono ?_
  rintro e w13 ⟨rfl, R13, hm, hf⟩
  have tR : R13 (w4.heap.size) = none := hf.keepR (o := 0) (v := .int .i64 0) vRm (by go_simp)
  replace v0 : w13.cell? ⟨w4.heap.size, 0, none⟩ = some (.int .i64 0) := hf.keep vRm (by go_simp)
  replace v1 : w13.cell? ⟨w4.heap.size, 1, none⟩ = some (.int .i64 0) := hf.keep vRm (by go_simp)
  replace v2 : w13.cell? ⟨w4.heap.size, 2, none⟩ = some (.int .i64 0) := hf.keep vRm (by go_simp)
  replace vL : w4.heap.size < w13.heap.size := block_lt_of_cell v0
  replace vRm := tR
  clear tR
  have tR : R13 (w9.heap.size) = none := hf.keepR (o := 0) (v := .int .i64 1) uRm (by go_simp)
  replace u0 : w13.cell? ⟨w9.heap.size, 0, none⟩ = some (.int .i64 1) := hf.keep uRm (by go_simp)
  replace u1 : w13.cell? ⟨w9.heap.size, 1, none⟩ = some (.int .i64 (-2)) := hf.keep uRm (by go_simp)
  replace u2 : w13.cell? ⟨w9.heap.size, 2, none⟩ = some (.int .i64 0) := hf.keep uRm (by go_simp)
  replace uL : w9.heap.size < w13.heap.size := block_lt_of_cell u0
  replace uRm := tR
  clear tR
  replace HB : Hid (Below w.heap.size w w13) := Below.wrote (by have hB0 := HB.out; exact (by repeat (first | with_reducible exact Below.refl _ _ | assumption | with_reducible refine bel_alloc ?_ _ | with_reducible refine Below.drew ?_ | with_reducible refine bel_drewN ?_ _ | with_reducible refine bel_set ?_ (by go_light; first | (simp; done) | (simp; omega) | omega) _ | refine bel_trans ?_ (by assumption)))) (Mem.below HMm.out (by repeat (first | with_reducible exact Below.refl _ _ | assumption | with_reducible refine bel_alloc ?_ _ | with_reducible refine Below.drew ?_ | with_reducible refine bel_drewN ?_ _ | with_reducible refine bel_set ?_ (by go_light; first | (simp; done) | (simp; omega) | omega) _ | refine bel_trans ?_ (by assumption)))) hf
  have tA : Hid (Apart R13 R10) := Apart.step HAmc.out hf (Mem.below HMc.out (by repeat (first | with_reducible exact Below.refl _ _ | assumption | with_reducible refine bel_alloc ?_ _ | with_reducible refine Below.drew ?_ | with_reducible refine bel_drewN ?_ _ | with_reducible refine bel_set ?_ (by go_light; first | (simp; done) | (simp; omega) | omega) _ | refine bel_trans ?_ (by assumption))))
  replace HMc : Hid (Mem w13 w.heap.size P10 R10 aw2) := Mem.beside (Mem.below HMc.out (by repeat (first | with_reducible exact Below.refl _ _ | assumption | with_reducible refine bel_alloc ?_ _ | with_reducible refine Below.drew ?_ | with_reducible refine bel_drewN ?_ _ | with_reducible refine bel_set ?_ (by go_light; first | (simp; done) | (simp; omega) | omega) _ | refine bel_trans ?_ (by assumption)))) hf HAmc.out
  replace HAmc := tA
  clear tA
  replace HMm : Hid (Mem w13 w.heap.size P1 R13 aw4) := hm
  clear hm hf
  go_wp2_with fail
  refine (same_to (Mem.below HMc.out (by repeat (first | with_reducible exact Below.refl _ _ | assumption | with_reducible refine bel_alloc ?_ _ | with_reducible refine Below.drew ?_ | with_reducible refine bel_drewN ?_ _ | with_reducible refine bel_set ?_ (by go_light; first | (simp; done) | (simp; omega) | omega) _ | refine bel_trans ?_ (by assumption)))) (Mem.below HMm.out (by repeat (first | with_reducible exact Below.refl _ _ | assumption | with_reducible refine bel_alloc ?_ _ | with_reducible refine Below.drew ?_ | with_reducible refine bel_drewN ?_ _ | with_reducible refine bel_set ?_ (by go_light; first | (simp; done) | (simp; omega) | omega) _ | refine bel_trans ?_ (by assumption)))) aw_ne).mono ?_
  rintro e w14 ⟨rfl, hb⟩
  replace v0 : w14.cell? ⟨w4.heap.size, 0, none⟩ = some (.int .i64 0) := keep_cell hb (by go_simp)
  replace v1 : w14.cell? ⟨w4.heap.size, 1, none⟩ = some (.int .i64 0) := keep_cell hb (by go_simp)
  replace v2 : w14.cell? ⟨w4.heap.size, 2, none⟩ = some (.int .i64 0) := keep_cell hb (by go_simp)
  replace vL : w4.heap.size < w14.heap.size := block_lt_of_cell v0
  replace u0 : w14.cell? ⟨w9.heap.size, 0, none⟩ = some (.int .i64 1) := keep_cell hb (by go_simp)
  replace u1 : w14.cell? ⟨w9.heap.size, 1, none⟩ = some (.int .i64 (-2)) := keep_cell hb (by go_simp)
  replace u2 : w14.cell? ⟨w9.heap.size, 2, none⟩ = some (.int .i64 0) := keep_cell hb (by go_simp)
  replace uL : w9.heap.size < w14.heap.size := block_lt_of_cell u0
  replace HMm : Hid (Mem w14 w.heap.size P1 R13 aw4) := Mem.below HMm.out (by repeat (first | with_reducible exact Below.refl _ _ | assumption | with_reducible refine bel_alloc ?_ _ | with_reducible refine Below.drew ?_ | with_reducible refine bel_drewN ?_ _ | with_reducible refine bel_set ?_ (by go_light; first | (simp; done) | (simp; omega) | omega) _ | refine bel_trans ?_ (by assumption)))
  replace HMc : Hid (Mem w14 w.heap.size P10 R10 aw2) := Mem.below HMc.out (by repeat (first | with_reducible exact Below.refl _ _ | assumption | with_reducible refine bel_alloc ?_ _ | with_reducible refine Below.drew ?_ | with_reducible refine bel_drewN ?_ _ | with_reducible refine bel_set ?_ (by go_light; first | (simp; done) | (simp; omega) | omega) _ | refine bel_trans ?_ (by assumption)))
  replace HB : Hid (Below w.heap.size w w14) := (by have hB0 := HB.out; exact (by repeat (first | with_reducible exact Below.refl _ _ | assumption | with_reducible refine bel_alloc ?_ _ | with_reducible refine Below.drew ?_ | with_reducible refine bel_drewN ?_ _ | with_reducible refine bel_set ?_ (by go_light; first | (simp; done) | (simp; omega) | omega) _ | refine bel_trans ?_ (by assumption))))
  clear hb
  go_wp2_with fail
  refine (blocks_to (Mem.below HMm.out (by repeat (first | with_reducible exact Below.refl _ _ | assumption | with_reducible refine bel_alloc ?_ _ | with_reducible refine Below.drew ?_ | with_reducible refine bel_drewN ?_ _ | with_reducible refine bel_set ?_ (by go_light; first | (simp; done) | (simp; omega) | omega) _ | refine bel_trans ?_ (by assumption)))) aw4_n).mono ?_
  rintro e w' ⟨rfl, hw'⟩
  replace hw' := hw'.symm
  subst hw'
  go_wp2_with fail
  refine (live_to (Mem.below HMm.out (by repeat (first | with_reducible exact Below.refl _ _ | assumption | with_reducible refine bel_alloc ?_ _ | with_reducible refine Below.drew ?_ | with_reducible refine bel_drewN ?_ _ | with_reducible refine bel_set ?_ (by go_light; first | (simp; done) | (simp; omega) | omega) _ | refine bel_trans ?_ (by assumption)))) aw4_v).mono ?_
  rintro e w' ⟨rfl, hw'⟩
  replace hw' := hw'.symm
  subst hw'
  go_wp2_with fail
  refine (live_to (Mem.below HMc.out (by repeat (first | with_reducible exact Below.refl _ _ | assumption | with_reducible refine bel_alloc ?_ _ | with_reducible refine Below.drew ?_ | with_reducible refine bel_drewN ?_ _ | with_reducible refine bel_set ?_ (by go_light; first | (simp; done) | (simp; omega) | omega) _ | refine bel_trans ?_ (by assumption)))) aw2_v).mono ?_
  rintro e w' ⟨rfl, hw'⟩
  replace hw' := hw'.symm
  subst hw'
  go_wp2
  go_ret
  exact ⟨rfl, HB.out⟩
end Go.Proofs.Ytnklpccggbkknaa
