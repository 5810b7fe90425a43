/- The walk of MemApart. -/
import Derived.Test.YtjiniihdpkaknaaMAwake
import Derived.Test.YtjiniihdpkaknaaMApartM
namespace Go.Proofs.Ytjiniihdpkaknaa
open Go.ChangeShapes Go.WideShapes Go.ChangeAt Go.RowKit Pl
set_option linter.unusedSimpArgs false
set_option linter.unusedVariables false

theorem al1 (s : Int) (h0 : 0 ≤ s) (h1 : s ≤ 4096) : allocM [] s = ([newB s], 1, 0) := by
  unfold allocM
  rw [if_neg (by omega), if_neg (by simp)]
  rfl
theorem al2 (s : Int) (h0 : 0 ≤ s) (h1 : s ≤ 4096) : allocM [newB s] s = ([newB s, newB s], 2, 0) := by
  unfold allocM
  rw [if_neg (by omega), if_neg (by simp)]
  rfl
theorem s4_call {W v : World} {B C : Nat} {x0 x1 x2 y1 : Value} (hb : Below W.heap.size W v) (h : (W.cell? ⟨B, 0, none⟩ = some x0 ∧ W.cell? ⟨B, 1, none⟩ = some x1 ∧ W.cell? ⟨B, 2, none⟩ = some x2) ∧ W.cell? ⟨C, 1, none⟩ = some y1) :
    (v.cell? ⟨B, 0, none⟩ = some x0 ∧ v.cell? ⟨B, 1, none⟩ = some x1 ∧ v.cell? ⟨B, 2, none⟩ = some x2) ∧ v.cell? ⟨C, 1, none⟩ = some y1 := ⟨c3_call hb h.1, keep_cell hb h.2⟩

set_option maxRecDepth 100000 in
set_option maxHeartbeats 2000000 in
theorem memApart_short (a : Option Addr) (len cap : Nat) (size ak an ab chunk vk vn vb qk qn qb wide : Int) (w : World) (hl : size < 0 ∨ 4096 < size ∨ 30 < len) :
    Calls Try.prog 6 #[.int .i64 size, .slice a len cap, .agg #[.int .i64 ak, .int .i64 an, .int .i64 ab], .int .i64 chunk, .agg #[.int .i64 vk, .int .i64 vn, .int .i64 vb], .agg #[.int .i64 qk, .int .i64 qn, .int .i64 qb], .int .i64 wide] w (retP (.bool true) w) := by
  by_cases h0 : size < 0
  · clear hl
    go_enter Try.func6, Try.ntmps6
    go_wp2_with (go_at_call 9; refine (awake_any _).mono ?_; rintro e w1 ⟨rfl, hb1⟩; obtain ⟨hc1, hf1⟩ := bcell hb1; have hz1 := bsize hb1; try simp only [World.size_alloc, World.size_drew, World.cell?_drew, World.frozen?_drew] at hz1 hc1 hf1)
    go_ret
    exact ⟨rfl, (by repeat (first | with_reducible exact Below.refl _ _ | with_reducible refine bel_alloc ?_ _ | with_reducible refine bel_set ?_ (by first | exact Nat.le_refl _ | (simp; done) | (simp; omega)) _ | with_reducible refine Below.drew ?_ | refine bel_trans ?_ (by assumption)))⟩
  by_cases h1 : 4096 < size
  · clear hl
    go_enter Try.func6, Try.ntmps6
    go_wp2_with (go_at_call 9; refine (awake_any _).mono ?_; rintro e w1 ⟨rfl, hb1⟩; obtain ⟨hc1, hf1⟩ := bcell hb1; have hz1 := bsize hb1; try simp only [World.size_alloc, World.size_drew, World.cell?_drew, World.frozen?_drew] at hz1 hc1 hf1)
    go_ret
    exact ⟨rfl, (by repeat (first | with_reducible exact Below.refl _ _ | with_reducible refine bel_alloc ?_ _ | with_reducible refine bel_set ?_ (by first | exact Nat.le_refl _ | (simp; done) | (simp; omega)) _ | with_reducible refine Below.drew ?_ | refine bel_trans ?_ (by assumption)))⟩
  · have h30 : (30 : Int) < (len : Int) := by omega
    clear hl
    go_enter Try.func6, Try.ntmps6
    go_wp2_with (go_at_call 9; refine (awake_any _).mono ?_; rintro e w1 ⟨rfl, hb1⟩; obtain ⟨hc1, hf1⟩ := bcell hb1; have hz1 := bsize hb1; try simp only [World.size_alloc, World.size_drew, World.cell?_drew, World.frozen?_drew] at hz1 hc1 hf1)
    go_ret
    exact ⟨rfl, (by repeat (first | with_reducible exact Below.refl _ _ | with_reducible refine bel_alloc ?_ _ | with_reducible refine bel_set ?_ (by first | exact Nat.le_refl _ | (simp; done) | (simp; omega)) _ | with_reducible refine Below.drew ?_ | refine bel_trans ?_ (by assumption)))⟩

theorem hv_step {w W v : World} {R R' : Nat → Option Role} {ak an ab vk vn vb qk qn qb : Int} (h : ((W.cell? ⟨w.heap.size, 0, none⟩ = some (.int .i64 ak) ∧ W.cell? ⟨w.heap.size, 1, none⟩ = some (.int .i64 an) ∧ W.cell? ⟨w.heap.size, 2, none⟩ = some (.int .i64 ab)) ∧ (W.cell? ⟨w.heap.size + 1, 0, none⟩ = some (.int .i64 vk) ∧ W.cell? ⟨w.heap.size + 1, 1, none⟩ = some (.int .i64 vn) ∧ W.cell? ⟨w.heap.size + 1, 2, none⟩ = some (.int .i64 vb)) ∧ (W.cell? ⟨w.heap.size + 1 + 1, 0, none⟩ = some (.int .i64 qk) ∧ W.cell? ⟨w.heap.size + 1 + 1, 1, none⟩ = some (.int .i64 qn) ∧ W.cell? ⟨w.heap.size + 1 + 1, 2, none⟩ = some (.int .i64 qb)) ∧ R (w.heap.size) = none ∧ R (w.heap.size + 1) = none ∧ R (w.heap.size + 1 + 1) = none)) (hf : MFr R R' W v) : ((v.cell? ⟨w.heap.size, 0, none⟩ = some (.int .i64 ak) ∧ v.cell? ⟨w.heap.size, 1, none⟩ = some (.int .i64 an) ∧ v.cell? ⟨w.heap.size, 2, none⟩ = some (.int .i64 ab)) ∧ (v.cell? ⟨w.heap.size + 1, 0, none⟩ = some (.int .i64 vk) ∧ v.cell? ⟨w.heap.size + 1, 1, none⟩ = some (.int .i64 vn) ∧ v.cell? ⟨w.heap.size + 1, 2, none⟩ = some (.int .i64 vb)) ∧ (v.cell? ⟨w.heap.size + 1 + 1, 0, none⟩ = some (.int .i64 qk) ∧ v.cell? ⟨w.heap.size + 1 + 1, 1, none⟩ = some (.int .i64 qn) ∧ v.cell? ⟨w.heap.size + 1 + 1, 2, none⟩ = some (.int .i64 qb)) ∧ R' (w.heap.size) = none ∧ R' (w.heap.size + 1) = none ∧ R' (w.heap.size + 1 + 1) = none) :=
  ⟨⟨hf.keep h.2.2.2.1 h.1.1, hf.keep h.2.2.2.1 h.1.2.1, hf.keep h.2.2.2.1 h.1.2.2⟩, ⟨hf.keep h.2.2.2.2.1 h.2.1.1, hf.keep h.2.2.2.2.1 h.2.1.2.1, hf.keep h.2.2.2.2.1 h.2.1.2.2⟩, ⟨hf.keep h.2.2.2.2.2 h.2.2.1.1, hf.keep h.2.2.2.2.2 h.2.2.1.2.1, hf.keep h.2.2.2.2.2 h.2.2.1.2.2⟩, hf.keepR h.2.2.2.1 h.1.1, hf.keepR h.2.2.2.2.1 h.2.1.1, hf.keepR h.2.2.2.2.2 h.2.2.1.1⟩
set_option maxRecDepth 100000 in
set_option maxHeartbeats 3000000 in
theorem memApart_walk (a : Option Addr) (b off len cap : Nat) (Z : Nat → Nat → Int) (size ak an ab chunk vk vn vb qk qn qb wide : Int) (w : World) (s0 : 0 ≤ size) (s1 : size ≤ 4096) (l1 : len ≤ 30) (xvn : (Lit.int .i64 vn).wf = true)
    (HZ : Hid (0 < len → a = some ⟨b, off, none⟩ ∧ ∀ i, i < len → ∀ j, j < 9 → w.cell? ⟨b, off + i * 9 + j, none⟩ = some (.int .i64 (Z i j)))) :
    Calls Try.prog 6 #[.int .i64 size, .slice a len cap, .agg #[.int .i64 ak, .int .i64 an, .int .i64 ab], .int .i64 chunk, .agg #[.int .i64 vk, .int .i64 vn, .int .i64 vb], .agg #[.int .i64 qk, .int .i64 qn, .int .i64 qb], .int .i64 wide] w (retP (.bool true) w) := by
  have HB : Hid (Below w.heap.size w w) := Below.refl _ _
  have t30 : decide ((30 : Int) < (len : Int)) = false := by simp; omega
  have HA1 : Hid (allocM [] size = ([newB size], 1, 0)) := al1 size s0 s1
  have HA2 : Hid (allocM [newB size] size = ([newB size, newB size], 2, 0)) := al2 size s0 s1
  go_enter Try.func6, Try.ntmps6
  go_wp2_with fail
  refine (awake_any _).mono ?_
  rintro e w1 ⟨rfl, hb⟩
  have A0 : w1.cell? ⟨w.heap.size, 0, none⟩ = some (.int .i64 ak) := keep_cell hb (by go_simp)
  have A1 : w1.cell? ⟨w.heap.size, 1, none⟩ = some (.int .i64 an) := keep_cell hb (by go_simp)
  have A2 : w1.cell? ⟨w.heap.size, 2, none⟩ = some (.int .i64 ab) := keep_cell hb (by go_simp)
  have AL : w.heap.size < w1.heap.size := block_lt_of_cell A0
  have V0 : w1.cell? ⟨w.heap.size + 1, 0, none⟩ = some (.int .i64 vk) := keep_cell hb (by go_simp)
  have V1 : w1.cell? ⟨w.heap.size + 1, 1, none⟩ = some (.int .i64 vn) := keep_cell hb (by go_simp)
  have V2 : w1.cell? ⟨w.heap.size + 1, 2, none⟩ = some (.int .i64 vb) := keep_cell hb (by go_simp)
  have VL : w.heap.size + 1 < w1.heap.size := block_lt_of_cell V0
  have O0 : w1.cell? ⟨w.heap.size + 1 + 1, 0, none⟩ = some (.int .i64 qk) := keep_cell hb (by go_simp)
  have O1 : w1.cell? ⟨w.heap.size + 1 + 1, 1, none⟩ = some (.int .i64 qn) := keep_cell hb (by go_simp)
  have O2 : w1.cell? ⟨w.heap.size + 1 + 1, 2, none⟩ = some (.int .i64 qb) := keep_cell hb (by go_simp)
  have OL : w.heap.size + 1 + 1 < w1.heap.size := block_lt_of_cell O0
  replace HB : Hid (Below w.heap.size w w1) := (by have hB0 := HB.out; exact (by repeat (first | with_reducible exact Below.refl _ _ | assumption | with_reducible refine bel_alloc ?_ _ | with_reducible refine Below.drew ?_ | with_reducible refine bel_drewN ?_ _ | with_reducible refine bel_set ?_ (by go_light; first | (simp; done) | (simp; omega) | omega) _ | refine bel_trans ?_ (by assumption))))
  clear hb
  go_wp2_with fail
  refine (new_to (base := w.heap.size) _ (by have := HB.out.size; first | omega | (simp; omega))).mono ?_
  rintro e w2 ⟨P2, R2, rfl, hm, hb, hn⟩
  have ARm : R2 (w.heap.size) = none := none_of hn (block_lt_of_cell (a := ⟨w.heap.size, 0, none⟩) (v := .int .i64 ak) (by go_simp))
  have VRm : R2 (w.heap.size + 1) = none := none_of hn (block_lt_of_cell (a := ⟨w.heap.size + 1, 0, none⟩) (v := .int .i64 vk) (by go_simp))
  have ORm : R2 (w.heap.size + 1 + 1) = none := none_of hn (block_lt_of_cell (a := ⟨w.heap.size + 1 + 1, 0, none⟩) (v := .int .i64 qk) (by go_simp))
  replace A0 : w2.cell? ⟨w.heap.size, 0, none⟩ = some (.int .i64 ak) := keep_cell hb (by go_simp)
  replace A1 : w2.cell? ⟨w.heap.size, 1, none⟩ = some (.int .i64 an) := keep_cell hb (by go_simp)
  replace A2 : w2.cell? ⟨w.heap.size, 2, none⟩ = some (.int .i64 ab) := keep_cell hb (by go_simp)
  replace AL : w.heap.size < w2.heap.size := block_lt_of_cell A0
  replace V0 : w2.cell? ⟨w.heap.size + 1, 0, none⟩ = some (.int .i64 vk) := keep_cell hb (by go_simp)
  replace V1 : w2.cell? ⟨w.heap.size + 1, 1, none⟩ = some (.int .i64 vn) := keep_cell hb (by go_simp)
  replace V2 : w2.cell? ⟨w.heap.size + 1, 2, none⟩ = some (.int .i64 vb) := keep_cell hb (by go_simp)
  replace VL : w.heap.size + 1 < w2.heap.size := block_lt_of_cell V0
  replace O0 : w2.cell? ⟨w.heap.size + 1 + 1, 0, none⟩ = some (.int .i64 qk) := keep_cell hb (by go_simp)
  replace O1 : w2.cell? ⟨w.heap.size + 1 + 1, 1, none⟩ = some (.int .i64 qn) := keep_cell hb (by go_simp)
  replace O2 : w2.cell? ⟨w.heap.size + 1 + 1, 2, none⟩ = some (.int .i64 qb) := keep_cell hb (by go_simp)
  replace OL : w.heap.size + 1 + 1 < w2.heap.size := block_lt_of_cell O0
  replace HB : Hid (Below w.heap.size w w2) := (by have hB0 := HB.out; exact (by repeat (first | with_reducible exact Below.refl _ _ | assumption | with_reducible refine bel_alloc ?_ _ | with_reducible refine Below.drew ?_ | with_reducible refine bel_drewN ?_ _ | with_reducible refine bel_set ?_ (by go_light; first | (simp; done) | (simp; omega) | omega) _ | refine bel_trans ?_ (by assumption))))
  clear hb
  have HMm : Hid (Mem w2 w.heap.size P2 R2 []) := hm
  clear hm hn
  go_wp2_with fail
  refine (alloc_to (Mem.below HMm.out (by repeat (first | with_reducible exact Below.refl _ _ | assumption | with_reducible refine bel_alloc ?_ _ | with_reducible refine Below.drew ?_ | with_reducible refine bel_drewN ?_ _ | with_reducible refine bel_set ?_ (by go_light; first | (simp; done) | (simp; omega) | omega) _ | refine bel_trans ?_ (by assumption)))) size HA1.out).mono ?_
  rintro e w3 ⟨rfl, R3, hm, hf⟩
  have tR : R3 (w.heap.size) = none := hf.keepR (o := 0) (v := .int .i64 ak) ARm (by go_simp)
  replace A0 : w3.cell? ⟨w.heap.size, 0, none⟩ = some (.int .i64 ak) := hf.keep ARm (by go_simp)
  replace A1 : w3.cell? ⟨w.heap.size, 1, none⟩ = some (.int .i64 an) := hf.keep ARm (by go_simp)
  replace A2 : w3.cell? ⟨w.heap.size, 2, none⟩ = some (.int .i64 ab) := hf.keep ARm (by go_simp)
  replace AL : w.heap.size < w3.heap.size := block_lt_of_cell A0
  replace ARm := tR
  clear tR
  have tR : R3 (w.heap.size + 1) = none := hf.keepR (o := 0) (v := .int .i64 vk) VRm (by go_simp)
  replace V0 : w3.cell? ⟨w.heap.size + 1, 0, none⟩ = some (.int .i64 vk) := hf.keep VRm (by go_simp)
  replace V1 : w3.cell? ⟨w.heap.size + 1, 1, none⟩ = some (.int .i64 vn) := hf.keep VRm (by go_simp)
  replace V2 : w3.cell? ⟨w.heap.size + 1, 2, none⟩ = some (.int .i64 vb) := hf.keep VRm (by go_simp)
  replace VL : w.heap.size + 1 < w3.heap.size := block_lt_of_cell V0
  replace VRm := tR
  clear tR
  have tR : R3 (w.heap.size + 1 + 1) = none := hf.keepR (o := 0) (v := .int .i64 qk) ORm (by go_simp)
  replace O0 : w3.cell? ⟨w.heap.size + 1 + 1, 0, none⟩ = some (.int .i64 qk) := hf.keep ORm (by go_simp)
  replace O1 : w3.cell? ⟨w.heap.size + 1 + 1, 1, none⟩ = some (.int .i64 qn) := hf.keep ORm (by go_simp)
  replace O2 : w3.cell? ⟨w.heap.size + 1 + 1, 2, none⟩ = some (.int .i64 qb) := hf.keep ORm (by go_simp)
  replace OL : w.heap.size + 1 + 1 < w3.heap.size := block_lt_of_cell O0
  replace ORm := tR
  clear tR
  replace HB : Hid (Below w.heap.size w w3) := Below.wrote (by have hB0 := HB.out; exact (by repeat (first | with_reducible exact Below.refl _ _ | assumption | with_reducible refine bel_alloc ?_ _ | with_reducible refine Below.drew ?_ | with_reducible refine bel_drewN ?_ _ | with_reducible refine bel_set ?_ (by go_light; first | (simp; done) | (simp; omega) | omega) _ | refine bel_trans ?_ (by assumption)))) (Mem.below HMm.out (by repeat (first | with_reducible exact Below.refl _ _ | assumption | with_reducible refine bel_alloc ?_ _ | with_reducible refine Below.drew ?_ | with_reducible refine bel_drewN ?_ _ | with_reducible refine bel_set ?_ (by go_light; first | (simp; done) | (simp; omega) | omega) _ | refine bel_trans ?_ (by assumption)))) hf
  replace HMm : Hid (Mem w3 w.heap.size P2 R3 [newB size]) := hm
  clear hm hf
  go_wp2_with fail
  refine (alloc_to (Mem.below HMm.out (by repeat (first | with_reducible exact Below.refl _ _ | assumption | with_reducible refine bel_alloc ?_ _ | with_reducible refine Below.drew ?_ | with_reducible refine bel_drewN ?_ _ | with_reducible refine bel_set ?_ (by go_light; first | (simp; done) | (simp; omega) | omega) _ | refine bel_trans ?_ (by assumption)))) size HA2.out).mono ?_
  rintro e w4 ⟨rfl, R4, hm, hf⟩
  have tR : R4 (w.heap.size) = none := hf.keepR (o := 0) (v := .int .i64 ak) ARm (by go_simp)
  replace A0 : w4.cell? ⟨w.heap.size, 0, none⟩ = some (.int .i64 ak) := hf.keep ARm (by go_simp)
  replace A1 : w4.cell? ⟨w.heap.size, 1, none⟩ = some (.int .i64 an) := hf.keep ARm (by go_simp)
  replace A2 : w4.cell? ⟨w.heap.size, 2, none⟩ = some (.int .i64 ab) := hf.keep ARm (by go_simp)
  replace AL : w.heap.size < w4.heap.size := block_lt_of_cell A0
  replace ARm := tR
  clear tR
  have tR : R4 (w.heap.size + 1) = none := hf.keepR (o := 0) (v := .int .i64 vk) VRm (by go_simp)
  replace V0 : w4.cell? ⟨w.heap.size + 1, 0, none⟩ = some (.int .i64 vk) := hf.keep VRm (by go_simp)
  replace V1 : w4.cell? ⟨w.heap.size + 1, 1, none⟩ = some (.int .i64 vn) := hf.keep VRm (by go_simp)
  replace V2 : w4.cell? ⟨w.heap.size + 1, 2, none⟩ = some (.int .i64 vb) := hf.keep VRm (by go_simp)
  replace VL : w.heap.size + 1 < w4.heap.size := block_lt_of_cell V0
  replace VRm := tR
  clear tR
  have tR : R4 (w.heap.size + 1 + 1) = none := hf.keepR (o := 0) (v := .int .i64 qk) ORm (by go_simp)
  replace O0 : w4.cell? ⟨w.heap.size + 1 + 1, 0, none⟩ = some (.int .i64 qk) := hf.keep ORm (by go_simp)
  replace O1 : w4.cell? ⟨w.heap.size + 1 + 1, 1, none⟩ = some (.int .i64 qn) := hf.keep ORm (by go_simp)
  replace O2 : w4.cell? ⟨w.heap.size + 1 + 1, 2, none⟩ = some (.int .i64 qb) := hf.keep ORm (by go_simp)
  replace OL : w.heap.size + 1 + 1 < w4.heap.size := block_lt_of_cell O0
  replace ORm := tR
  clear tR
  replace HB : Hid (Below w.heap.size w w4) := Below.wrote (by have hB0 := HB.out; exact (by repeat (first | with_reducible exact Below.refl _ _ | assumption | with_reducible refine bel_alloc ?_ _ | with_reducible refine Below.drew ?_ | with_reducible refine bel_drewN ?_ _ | with_reducible refine bel_set ?_ (by go_light; first | (simp; done) | (simp; omega) | omega) _ | refine bel_trans ?_ (by assumption)))) (Mem.below HMm.out (by repeat (first | with_reducible exact Below.refl _ _ | assumption | with_reducible refine bel_alloc ?_ _ | with_reducible refine Below.drew ?_ | with_reducible refine bel_drewN ?_ _ | with_reducible refine bel_set ?_ (by go_light; first | (simp; done) | (simp; omega) | omega) _ | refine bel_trans ?_ (by assumption)))) hf
  replace HMm : Hid (Mem w4 w.heap.size P2 R4 [newB size, newB size]) := hm
  clear hm hf
  have HV0 : Hid ((w4.cell? ⟨w.heap.size, 0, none⟩ = some (.int .i64 ak) ∧ w4.cell? ⟨w.heap.size, 1, none⟩ = some (.int .i64 an) ∧ w4.cell? ⟨w.heap.size, 2, none⟩ = some (.int .i64 ab)) ∧ (w4.cell? ⟨w.heap.size + 1, 0, none⟩ = some (.int .i64 vk) ∧ w4.cell? ⟨w.heap.size + 1, 1, none⟩ = some (.int .i64 vn) ∧ w4.cell? ⟨w.heap.size + 1, 2, none⟩ = some (.int .i64 vb)) ∧ (w4.cell? ⟨w.heap.size + 1 + 1, 0, none⟩ = some (.int .i64 qk) ∧ w4.cell? ⟨w.heap.size + 1 + 1, 1, none⟩ = some (.int .i64 qn) ∧ w4.cell? ⟨w.heap.size + 1 + 1, 2, none⟩ = some (.int .i64 qb)) ∧ R4 (w.heap.size) = none ∧ R4 (w.heap.size + 1) = none ∧ R4 (w.heap.size + 1 + 1) = none) := ⟨⟨A0, A1, A2⟩, ⟨V0, V1, V2⟩, ⟨O0, O1, O2⟩, ARm, VRm, ORm⟩
  clear A0 A1 A2 AL ARm V0 V1 V2 VL VRm O0 O1 O2 OL ORm
  go_wp2
  go_loopw [16] (fun v wr => ∃ (i : Nat) (M : List AB) (R : Nat → Option Role), i ≤ len ∧ v = .int .i64 i ∧ Hid (Mem wr w.heap.size P2 R M) ∧ Hid (Below w.heap.size w wr) ∧ Hid ((wr.cell? ⟨w.heap.size, 0, none⟩ = some (.int .i64 ak) ∧ wr.cell? ⟨w.heap.size, 1, none⟩ = some (.int .i64 an) ∧ wr.cell? ⟨w.heap.size, 2, none⟩ = some (.int .i64 ab)) ∧ (wr.cell? ⟨w.heap.size + 1, 0, none⟩ = some (.int .i64 vk) ∧ wr.cell? ⟨w.heap.size + 1, 1, none⟩ = some (.int .i64 vn) ∧ wr.cell? ⟨w.heap.size + 1, 2, none⟩ = some (.int .i64 vb)) ∧ (wr.cell? ⟨w.heap.size + 1 + 1, 0, none⟩ = some (.int .i64 qk) ∧ wr.cell? ⟨w.heap.size + 1 + 1, 1, none⟩ = some (.int .i64 qn) ∧ wr.cell? ⟨w.heap.size + 1 + 1, 2, none⟩ = some (.int .i64 qb)) ∧ R (w.heap.size) = none ∧ R (w.heap.size + 1) = none ∧ R (w.heap.size + 1 + 1) = none)) (fun v _ => len - (intOf v).toNat)
  case atStart => exact ⟨0, _, R4, by omega, rfl, HMm, HB, HV0⟩
  case round =>
    obtain ⟨i, M, R, hi, rfl, HMr, HBr, HV⟩ := hrel
    clear HMm HB HV0
    have HMm := HMr
    have HB := HBr
    clear HMr HBr
    by_cases hil : i < len
    · have i0 : (0 : Int) ≤ i := by omega
      have i1 : (i : Int) < len := by omega
      obtain ⟨rfl, hz⟩ := HZ.out (by omega)
      have cz0 : wr.cell? ⟨b, off + i * 9, none⟩ = some (.int .i64 (Z i 0)) := keep_cell HB.out (hz i hil 0 (by omega))
      have S7 : Hid (∀ W, Below w.heap.size w W → W.cell? ⟨b, off + i * 9 + 2, none⟩ = some (.int .i64 (Z i 2)) ∧ W.cell? ⟨b, off + i * 9 + 3, none⟩ = some (.int .i64 (Z i 3)) ∧ W.cell? ⟨b, off + i * 9 + 4, none⟩ = some (.int .i64 (Z i 4)) ∧ W.cell? ⟨b, off + i * 9 + 5, none⟩ = some (.int .i64 (Z i 5)) ∧ W.cell? ⟨b, off + i * 9 + 6, none⟩ = some (.int .i64 (Z i 6)) ∧ W.cell? ⟨b, off + i * 9 + 7, none⟩ = some (.int .i64 (Z i 7)) ∧ W.cell? ⟨b, off + i * 9 + 8, none⟩ = some (.int .i64 (Z i 8))) := fun W hW =>
        ⟨keep_cell hW (hz i hil 2 (by omega)), keep_cell hW (hz i hil 3 (by omega)), keep_cell hW (hz i hil 4 (by omega)), keep_cell hW (hz i hil 5 (by omega)), keep_cell hW (hz i hil 6 (by omega)), keep_cell hW (hz i hil 7 (by omega)), keep_cell hW (hz i hil 8 (by omega))⟩
      clear hz
      by_cases h3 : Z i 0 = 3
      · rw [h3] at cz0
        obtain ⟨d2, d3, d4, d5, d6, d7, d8⟩ := S7.out wr HB.out
        obtain ⟨M2, r2, he2⟩ : ∃ M2 r2, storeM M (Z i 2) ⟨Z i 3, Z i 4, Z i 5⟩ ⟨Z i 6, Z i 7, Z i 8⟩ = (M2, r2) := ⟨_, _, rfl⟩
        have HE2 : Hid (storeM M (Z i 2) ⟨Z i 3, Z i 4, Z i 5⟩ ⟨Z i 6, Z i 7, Z i 8⟩ = (M2, r2)) := he2
        clear he2 h3
        go_wp2_with fail
        go_region_held3 (fun W => W.cell? ⟨b, off + i * 9 + 2, none⟩ = some (.int .i64 (Z i 2)) ∧ W.cell? ⟨b, off + i * 9 + 3, none⟩ = some (.int .i64 (Z i 3)) ∧ W.cell? ⟨b, off + i * 9 + 4, none⟩ = some (.int .i64 (Z i 4)) ∧ W.cell? ⟨b, off + i * 9 + 5, none⟩ = some (.int .i64 (Z i 5)) ∧ W.cell? ⟨b, off + i * 9 + 6, none⟩ = some (.int .i64 (Z i 6)) ∧ W.cell? ⟨b, off + i * 9 + 7, none⟩ = some (.int .i64 (Z i 7)) ∧ W.cell? ⟨b, off + i * 9 + 8, none⟩ = some (.int .i64 (Z i 8)))
          (first | exact S7.out _ HBq.out | ((go_simp; done)))
          (first | (go_at_call 14; refine (store_to (Mem.below HMm.out (by repeat (first | with_reducible exact Below.refl _ _ | assumption | with_reducible refine bel_alloc ?_ _ | with_reducible refine Below.drew ?_ | with_reducible refine bel_drewN ?_ _ | with_reducible refine bel_set ?_ (by go_light; first | (simp; done) | (simp; omega) | omega) _ | refine bel_trans ?_ (by assumption)))) (Z i 2) (Z i 3) (Z i 4) (Z i 5) (Z i 6) (Z i 7) (Z i 8) HE2.out).mono ?_; rintro e wq ⟨rfl, R3, hm, hf⟩; have HBq : Hid (Below w.heap.size w wq) := Below.wrote (by have hB0 := HB.out; exact (by repeat (first | with_reducible exact Below.refl _ _ | assumption | with_reducible refine bel_alloc ?_ _ | with_reducible refine Below.drew ?_ | with_reducible refine bel_drewN ?_ _ | with_reducible refine bel_set ?_ (by go_light; first | (simp; done) | (simp; omega) | omega) _ | refine bel_trans ?_ (by assumption)))) (Mem.below HMm.out (by repeat (first | with_reducible exact Below.refl _ _ | assumption | with_reducible refine bel_alloc ?_ _ | with_reducible refine Below.drew ?_ | with_reducible refine bel_drewN ?_ _ | with_reducible refine bel_set ?_ (by go_light; first | (simp; done) | (simp; omega) | omega) _ | refine bel_trans ?_ (by assumption)))) hf; have HMq : Hid (Mem wq w.heap.size P2 R3 M2) := hm; have HVq : Hid ((wq.cell? ⟨w.heap.size, 0, none⟩ = some (.int .i64 ak) ∧ wq.cell? ⟨w.heap.size, 1, none⟩ = some (.int .i64 an) ∧ wq.cell? ⟨w.heap.size, 2, none⟩ = some (.int .i64 ab)) ∧ (wq.cell? ⟨w.heap.size + 1, 0, none⟩ = some (.int .i64 vk) ∧ wq.cell? ⟨w.heap.size + 1, 1, none⟩ = some (.int .i64 vn) ∧ wq.cell? ⟨w.heap.size + 1, 2, none⟩ = some (.int .i64 vb)) ∧ (wq.cell? ⟨w.heap.size + 1 + 1, 0, none⟩ = some (.int .i64 qk) ∧ wq.cell? ⟨w.heap.size + 1 + 1, 1, none⟩ = some (.int .i64 qn) ∧ wq.cell? ⟨w.heap.size + 1 + 1, 2, none⟩ = some (.int .i64 qb)) ∧ R3 (w.heap.size) = none ∧ R3 (w.heap.size + 1) = none ∧ R3 (w.heap.size + 1 + 1) = none) := hv_step (W := wr.drew) HV.out hf))
        all_goals
          go_wp2
          go_roundw
          case rel => exact ⟨i + 1, M2, R3, by omega, by simp, HMq, HBq, HVq⟩
          case measure => simp [intOf]; omega
      · have g3 : (Z i 0 == 3) = false := by simp [h3]
        go_wp2
        go_roundw
        case rel => exact ⟨i + 1, M, R, by omega, by simp, HMm, HB, HV⟩
        case measure => simp [intOf]; omega
    · have hie : i = len := by omega
      subst hie
      obtain ⟨⟨A0, A1, A2⟩, ⟨V0, V1, V2⟩, ⟨O0, O1, O2⟩, ARm, VRm, ORm⟩ := HV.out
      have AL := block_lt_of_cell A0
      have VL := block_lt_of_cell V0
      have OL := block_lt_of_cell O0
      simp only at AL VL OL
      obtain ⟨⟨⟨xk, xn, xb⟩, ok⟩, hL0⟩ : ∃ y, loadM M wide ⟨qk, qn, qb⟩ = y := ⟨_, rfl⟩
      obtain ⟨M2, r, hST⟩ : ∃ M2 r, storeM M chunk ⟨ak, an, ab⟩ ⟨vk, vn, vb⟩ = (M2, r) := ⟨_, _, rfl⟩
      have HL0 : Hid (loadM M wide ⟨qk, qn, qb⟩ = (⟨xk, xn, xb⟩, ok)) := hL0
      clear hL0
      cases r
      · obtain rfl := store_false hST
        have HST : Hid (storeM M2 chunk ⟨ak, an, ab⟩ ⟨vk, vn, vb⟩ = (M2, false)) := hST
        clear hST
        go_wp2_with fail
        refine (load_to (Mem.below HMm.out (by repeat (first | with_reducible exact Below.refl _ _ | assumption | with_reducible refine bel_alloc ?_ _ | with_reducible refine Below.drew ?_ | with_reducible refine bel_drewN ?_ _ | with_reducible refine bel_set ?_ (by go_light; first | (simp; done) | (simp; omega) | omega) _ | refine bel_trans ?_ (by assumption)))) wide qk qn qb HL0.out).mono ?_
        rintro e y41 ⟨rfl, hb⟩
        replace A0 : y41.cell? ⟨w.heap.size, 0, none⟩ = some (.int .i64 ak) := keep_cell hb (by go_simp)
        replace A1 : y41.cell? ⟨w.heap.size, 1, none⟩ = some (.int .i64 an) := keep_cell hb (by go_simp)
        replace A2 : y41.cell? ⟨w.heap.size, 2, none⟩ = some (.int .i64 ab) := keep_cell hb (by go_simp)
        replace AL : w.heap.size < y41.heap.size := block_lt_of_cell A0
        replace V0 : y41.cell? ⟨w.heap.size + 1, 0, none⟩ = some (.int .i64 vk) := keep_cell hb (by go_simp)
        replace V1 : y41.cell? ⟨w.heap.size + 1, 1, none⟩ = some (.int .i64 vn) := keep_cell hb (by go_simp)
        replace V2 : y41.cell? ⟨w.heap.size + 1, 2, none⟩ = some (.int .i64 vb) := keep_cell hb (by go_simp)
        replace VL : w.heap.size + 1 < y41.heap.size := block_lt_of_cell V0
        replace O0 : y41.cell? ⟨w.heap.size + 1 + 1, 0, none⟩ = some (.int .i64 qk) := keep_cell hb (by go_simp)
        replace O1 : y41.cell? ⟨w.heap.size + 1 + 1, 1, none⟩ = some (.int .i64 qn) := keep_cell hb (by go_simp)
        replace O2 : y41.cell? ⟨w.heap.size + 1 + 1, 2, none⟩ = some (.int .i64 qb) := keep_cell hb (by go_simp)
        replace OL : w.heap.size + 1 + 1 < y41.heap.size := block_lt_of_cell O0
        replace HMm : Hid (Mem y41 w.heap.size P2 R M2) := Mem.below HMm.out (by repeat (first | with_reducible exact Below.refl _ _ | assumption | with_reducible refine bel_alloc ?_ _ | with_reducible refine Below.drew ?_ | with_reducible refine bel_drewN ?_ _ | with_reducible refine bel_set ?_ (by go_light; first | (simp; done) | (simp; omega) | omega) _ | refine bel_trans ?_ (by assumption)))
        replace HB : Hid (Below w.heap.size w y41) := (by have hB0 := HB.out; exact (by repeat (first | with_reducible exact Below.refl _ _ | assumption | with_reducible refine bel_alloc ?_ _ | with_reducible refine Below.drew ?_ | with_reducible refine bel_drewN ?_ _ | with_reducible refine bel_set ?_ (by go_light; first | (simp; done) | (simp; omega) | omega) _ | refine bel_trans ?_ (by assumption))))
        clear hb
        have XRm : R (y41.heap.size) = none := Mem.fresh HMm.out (by omega)
        go_wp2_with fail
        refine (store_to (Mem.below HMm.out (by repeat (first | with_reducible exact Below.refl _ _ | assumption | with_reducible refine bel_alloc ?_ _ | with_reducible refine Below.drew ?_ | with_reducible refine bel_drewN ?_ _ | with_reducible refine bel_set ?_ (by go_light; first | (simp; done) | (simp; omega) | omega) _ | refine bel_trans ?_ (by assumption)))) chunk ak an ab vk vn vb HST.out).mono ?_
        rintro e y42 ⟨rfl, R42, hm, hf⟩
        have tR : R42 (w.heap.size) = none := hf.keepR (o := 0) (v := .int .i64 ak) ARm (by go_simp)
        replace A0 : y42.cell? ⟨w.heap.size, 0, none⟩ = some (.int .i64 ak) := hf.keep ARm (by go_simp)
        replace A1 : y42.cell? ⟨w.heap.size, 1, none⟩ = some (.int .i64 an) := hf.keep ARm (by go_simp)
        replace A2 : y42.cell? ⟨w.heap.size, 2, none⟩ = some (.int .i64 ab) := hf.keep ARm (by go_simp)
        replace AL : w.heap.size < y42.heap.size := block_lt_of_cell A0
        replace ARm := tR
        clear tR
        have tR : R42 (w.heap.size + 1) = none := hf.keepR (o := 0) (v := .int .i64 vk) VRm (by go_simp)
        replace V0 : y42.cell? ⟨w.heap.size + 1, 0, none⟩ = some (.int .i64 vk) := hf.keep VRm (by go_simp)
        replace V1 : y42.cell? ⟨w.heap.size + 1, 1, none⟩ = some (.int .i64 vn) := hf.keep VRm (by go_simp)
        replace V2 : y42.cell? ⟨w.heap.size + 1, 2, none⟩ = some (.int .i64 vb) := hf.keep VRm (by go_simp)
        replace VL : w.heap.size + 1 < y42.heap.size := block_lt_of_cell V0
        replace VRm := tR
        clear tR
        have tR : R42 (w.heap.size + 1 + 1) = none := hf.keepR (o := 0) (v := .int .i64 qk) ORm (by go_simp)
        replace O0 : y42.cell? ⟨w.heap.size + 1 + 1, 0, none⟩ = some (.int .i64 qk) := hf.keep ORm (by go_simp)
        replace O1 : y42.cell? ⟨w.heap.size + 1 + 1, 1, none⟩ = some (.int .i64 qn) := hf.keep ORm (by go_simp)
        replace O2 : y42.cell? ⟨w.heap.size + 1 + 1, 2, none⟩ = some (.int .i64 qb) := hf.keep ORm (by go_simp)
        replace OL : w.heap.size + 1 + 1 < y42.heap.size := block_lt_of_cell O0
        replace ORm := tR
        clear tR
        have tR : R42 (y41.heap.size) = none := hf.keepR (o := 0) (v := .int .i64 xk) XRm (by go_simp)
        have X0 : y42.cell? ⟨y41.heap.size, 0, none⟩ = some (.int .i64 xk) := hf.keep XRm (by go_simp)
        have X1 : y42.cell? ⟨y41.heap.size, 1, none⟩ = some (.int .i64 xn) := hf.keep XRm (by go_simp)
        have X2 : y42.cell? ⟨y41.heap.size, 2, none⟩ = some (.int .i64 xb) := hf.keep XRm (by go_simp)
        have XL : y41.heap.size < y42.heap.size := block_lt_of_cell X0
        replace XRm := tR
        clear tR
        replace HB : Hid (Below w.heap.size w y42) := Below.wrote (by have hB0 := HB.out; exact (by repeat (first | with_reducible exact Below.refl _ _ | assumption | with_reducible refine bel_alloc ?_ _ | with_reducible refine Below.drew ?_ | with_reducible refine bel_drewN ?_ _ | with_reducible refine bel_set ?_ (by go_light; first | (simp; done) | (simp; omega) | omega) _ | refine bel_trans ?_ (by assumption)))) (Mem.below HMm.out (by repeat (first | with_reducible exact Below.refl _ _ | assumption | with_reducible refine bel_alloc ?_ _ | with_reducible refine Below.drew ?_ | with_reducible refine bel_drewN ?_ _ | with_reducible refine bel_set ?_ (by go_light; first | (simp; done) | (simp; omega) | omega) _ | refine bel_trans ?_ (by assumption)))) hf
        replace HMm : Hid (Mem y42 w.heap.size P2 R42 M2) := hm
        clear hm hf
        go_wp2_with fail
        refine (load_to (Mem.below HMm.out (by repeat (first | with_reducible exact Below.refl _ _ | assumption | with_reducible refine bel_alloc ?_ _ | with_reducible refine Below.drew ?_ | with_reducible refine bel_drewN ?_ _ | with_reducible refine bel_set ?_ (by go_light; first | (simp; done) | (simp; omega) | omega) _ | refine bel_trans ?_ (by assumption)))) wide qk qn qb HL0.out).mono ?_
        rintro e y43 ⟨rfl, hb⟩
        replace A0 : y43.cell? ⟨w.heap.size, 0, none⟩ = some (.int .i64 ak) := keep_cell hb (by go_simp)
        replace A1 : y43.cell? ⟨w.heap.size, 1, none⟩ = some (.int .i64 an) := keep_cell hb (by go_simp)
        replace A2 : y43.cell? ⟨w.heap.size, 2, none⟩ = some (.int .i64 ab) := keep_cell hb (by go_simp)
        replace AL : w.heap.size < y43.heap.size := block_lt_of_cell A0
        replace V0 : y43.cell? ⟨w.heap.size + 1, 0, none⟩ = some (.int .i64 vk) := keep_cell hb (by go_simp)
        replace V1 : y43.cell? ⟨w.heap.size + 1, 1, none⟩ = some (.int .i64 vn) := keep_cell hb (by go_simp)
        replace V2 : y43.cell? ⟨w.heap.size + 1, 2, none⟩ = some (.int .i64 vb) := keep_cell hb (by go_simp)
        replace VL : w.heap.size + 1 < y43.heap.size := block_lt_of_cell V0
        replace O0 : y43.cell? ⟨w.heap.size + 1 + 1, 0, none⟩ = some (.int .i64 qk) := keep_cell hb (by go_simp)
        replace O1 : y43.cell? ⟨w.heap.size + 1 + 1, 1, none⟩ = some (.int .i64 qn) := keep_cell hb (by go_simp)
        replace O2 : y43.cell? ⟨w.heap.size + 1 + 1, 2, none⟩ = some (.int .i64 qb) := keep_cell hb (by go_simp)
        replace OL : w.heap.size + 1 + 1 < y43.heap.size := block_lt_of_cell O0
        replace X0 : y43.cell? ⟨y41.heap.size, 0, none⟩ = some (.int .i64 xk) := keep_cell hb (by go_simp)
        replace X1 : y43.cell? ⟨y41.heap.size, 1, none⟩ = some (.int .i64 xn) := keep_cell hb (by go_simp)
        replace X2 : y43.cell? ⟨y41.heap.size, 2, none⟩ = some (.int .i64 xb) := keep_cell hb (by go_simp)
        replace XL : y41.heap.size < y43.heap.size := block_lt_of_cell X0
        replace HMm : Hid (Mem y43 w.heap.size P2 R42 M2) := Mem.below HMm.out (by repeat (first | with_reducible exact Below.refl _ _ | assumption | with_reducible refine bel_alloc ?_ _ | with_reducible refine Below.drew ?_ | with_reducible refine bel_drewN ?_ _ | with_reducible refine bel_set ?_ (by go_light; first | (simp; done) | (simp; omega) | omega) _ | refine bel_trans ?_ (by assumption)))
        replace HB : Hid (Below w.heap.size w y43) := (by have hB0 := HB.out; exact (by repeat (first | with_reducible exact Below.refl _ _ | assumption | with_reducible refine bel_alloc ?_ _ | with_reducible refine Below.drew ?_ | with_reducible refine bel_drewN ?_ _ | with_reducible refine bel_set ?_ (by go_light; first | (simp; done) | (simp; omega) | omega) _ | refine bel_trans ?_ (by assumption))))
        clear hb
        go_wp2
        go_ret
        exact ⟨by simp, by have hB0 := HB.out; exact (by repeat (first | with_reducible exact Below.refl _ _ | assumption | with_reducible refine bel_alloc ?_ _ | with_reducible refine Below.drew ?_ | with_reducible refine bel_drewN ?_ _ | with_reducible refine bel_set ?_ (by go_light; first | (simp; done) | (simp; omega) | omega) _ | refine bel_trans ?_ (by assumption)))⟩
      · have HST : Hid (storeM M chunk ⟨ak, an, ab⟩ ⟨vk, vn, vb⟩ = (M2, true)) := hST
        clear hST
        obtain ⟨⟨⟨yk, yn, yb⟩, ok2⟩, hL1⟩ : ∃ y, loadM M2 wide ⟨qk, qn, qb⟩ = y := ⟨_, rfl⟩
        have hok := store_ok HST.out wide ⟨qk, qn, qb⟩
        rw [hL1, HL0.out] at hok
        simp only at hok
        subst hok
        have HL1 : Hid (loadM M2 wide ⟨qk, qn, qb⟩ = (⟨yk, yn, yb⟩, ok2)) := hL1
        clear hL1
        obtain ⟨k0, ab0, hr0, hab0, hbad, -⟩ := store_true HST.out
        obtain ⟨hch, -, -, -, ab1, hab1, -, an0, an1, -⟩ := rightK_some hr0
        have hsz1 : ab1.size ≤ 65536 := by
          obtain ⟨_, _, _, _, hmm⟩ := HMm.out
          exact hmm.sz ab1 (List.mem_of_getElem? hab1)
        simp only at an0 an1
        have hokb : ok2 = true → (0 ≤ qn ∧ qn ≤ 65536) ∧ (wide = 1 ∨ wide = 4 ∨ wide = 8) := fun ht => by
          have h0 := HL0.out
          unfold loadM at h0
          cases hrr : rightK M wide ⟨qk, qn, qb⟩ with
          | none => rw [hrr] at h0; simp only [Prod.mk.injEq] at h0; rw [ht] at h0; cases h0.2
          | some j =>
            obtain ⟨hcw, _, _, _, ab2, hab2, _, m0, m1, _⟩ := rightK_some hrr
            have hsz2 : ab2.size ≤ 65536 := by
              obtain ⟨_, _, _, _, hmm⟩ := HMm.out
              exact hmm.sz ab2 (List.mem_of_getElem? hab2)
            simp only at m0 m1
            exact ⟨⟨m0, by omega⟩, hcw⟩
        have HOK : Hid (ok2 = true → (0 ≤ qn ∧ qn ≤ 65536) ∧ (wide = 1 ∨ wide = 4 ∨ wide = 8)) := hokb
        have HBND : Hid ((chunk = 1 ∨ chunk = 4 ∨ chunk = 8) ∧ 0 ≤ an ∧ an ≤ 65536) := ⟨hch, an0, by omega⟩
        have HBAD : Hid (¬ ((goodV ⟨vk, vn, vb⟩).k = 2 ∧ chunk ≠ 8)) := hbad
        obtain ⟨ap, hap⟩ : ∃ ap, ap = ((qb != ab) || !ok2 || decide (an + chunk ≤ qn) || decide (qn + wide ≤ an)) := ⟨_, rfl⟩
        have HAP : Hid (ap = ((qb != ab) || !ok2 || decide (an + chunk ≤ qn) || decide (qn + wide ≤ an))) := hap
        have HXY : Hid (ap = true → yk = xk ∧ yn = xn ∧ yb = xb) := fun ht => by
          have hs := store_apart HST.out wide ⟨qk, qn, qb⟩ (by
            rw [HL0.out]
            simp only
            rw [ht] at hap
            by_cases h1 : qb = ab
            · subst h1
              cases ok2
              · exact .inr (.inl rfl)
              · simp at hap
                rcases hap with h2 | h2
                · exact .inr (.inr (.inl h2))
                · exact .inr (.inr (.inr h2))
            · exact .inl h1)
          rw [HL1.out, HL0.out] at hs
          simp only [Prod.mk.injEq, V.mk.injEq, and_true] at hs
          exact hs
        clear hap hokb hbad hch an0 an1 hr0 hab0 hab1 hsz1 ab0 ab1 k0
        go_wp2_with fail
        refine (load_to (Mem.below HMm.out (by repeat (first | with_reducible exact Below.refl _ _ | assumption | with_reducible refine bel_alloc ?_ _ | with_reducible refine Below.drew ?_ | with_reducible refine bel_drewN ?_ _ | with_reducible refine bel_set ?_ (by go_light; first | (simp; done) | (simp; omega) | omega) _ | refine bel_trans ?_ (by assumption)))) wide qk qn qb HL0.out).mono ?_
        rintro e z61 ⟨rfl, hb⟩
        replace A0 : z61.cell? ⟨w.heap.size, 0, none⟩ = some (.int .i64 ak) := keep_cell hb (by go_simp)
        replace A1 : z61.cell? ⟨w.heap.size, 1, none⟩ = some (.int .i64 an) := keep_cell hb (by go_simp)
        replace A2 : z61.cell? ⟨w.heap.size, 2, none⟩ = some (.int .i64 ab) := keep_cell hb (by go_simp)
        replace AL : w.heap.size < z61.heap.size := block_lt_of_cell A0
        replace V0 : z61.cell? ⟨w.heap.size + 1, 0, none⟩ = some (.int .i64 vk) := keep_cell hb (by go_simp)
        replace V1 : z61.cell? ⟨w.heap.size + 1, 1, none⟩ = some (.int .i64 vn) := keep_cell hb (by go_simp)
        replace V2 : z61.cell? ⟨w.heap.size + 1, 2, none⟩ = some (.int .i64 vb) := keep_cell hb (by go_simp)
        replace VL : w.heap.size + 1 < z61.heap.size := block_lt_of_cell V0
        replace O0 : z61.cell? ⟨w.heap.size + 1 + 1, 0, none⟩ = some (.int .i64 qk) := keep_cell hb (by go_simp)
        replace O1 : z61.cell? ⟨w.heap.size + 1 + 1, 1, none⟩ = some (.int .i64 qn) := keep_cell hb (by go_simp)
        replace O2 : z61.cell? ⟨w.heap.size + 1 + 1, 2, none⟩ = some (.int .i64 qb) := keep_cell hb (by go_simp)
        replace OL : w.heap.size + 1 + 1 < z61.heap.size := block_lt_of_cell O0
        replace HMm : Hid (Mem z61 w.heap.size P2 R M) := Mem.below HMm.out (by repeat (first | with_reducible exact Below.refl _ _ | assumption | with_reducible refine bel_alloc ?_ _ | with_reducible refine Below.drew ?_ | with_reducible refine bel_drewN ?_ _ | with_reducible refine bel_set ?_ (by go_light; first | (simp; done) | (simp; omega) | omega) _ | refine bel_trans ?_ (by assumption)))
        replace HB : Hid (Below w.heap.size w z61) := (by have hB0 := HB.out; exact (by repeat (first | with_reducible exact Below.refl _ _ | assumption | with_reducible refine bel_alloc ?_ _ | with_reducible refine Below.drew ?_ | with_reducible refine bel_drewN ?_ _ | with_reducible refine bel_set ?_ (by go_light; first | (simp; done) | (simp; omega) | omega) _ | refine bel_trans ?_ (by assumption))))
        clear hb
        have XRm : R (z61.heap.size) = none := Mem.fresh HMm.out (by omega)
        go_wp2_with fail
        refine (store_to (Mem.below HMm.out (by repeat (first | with_reducible exact Below.refl _ _ | assumption | with_reducible refine bel_alloc ?_ _ | with_reducible refine Below.drew ?_ | with_reducible refine bel_drewN ?_ _ | with_reducible refine bel_set ?_ (by go_light; first | (simp; done) | (simp; omega) | omega) _ | refine bel_trans ?_ (by assumption)))) chunk ak an ab vk vn vb HST.out).mono ?_
        rintro e z62 ⟨rfl, R62, hm, hf⟩
        have tR : R62 (w.heap.size) = none := hf.keepR (o := 0) (v := .int .i64 ak) ARm (by go_simp)
        replace A0 : z62.cell? ⟨w.heap.size, 0, none⟩ = some (.int .i64 ak) := hf.keep ARm (by go_simp)
        replace A1 : z62.cell? ⟨w.heap.size, 1, none⟩ = some (.int .i64 an) := hf.keep ARm (by go_simp)
        replace A2 : z62.cell? ⟨w.heap.size, 2, none⟩ = some (.int .i64 ab) := hf.keep ARm (by go_simp)
        replace AL : w.heap.size < z62.heap.size := block_lt_of_cell A0
        replace ARm := tR
        clear tR
        have tR : R62 (w.heap.size + 1) = none := hf.keepR (o := 0) (v := .int .i64 vk) VRm (by go_simp)
        replace V0 : z62.cell? ⟨w.heap.size + 1, 0, none⟩ = some (.int .i64 vk) := hf.keep VRm (by go_simp)
        replace V1 : z62.cell? ⟨w.heap.size + 1, 1, none⟩ = some (.int .i64 vn) := hf.keep VRm (by go_simp)
        replace V2 : z62.cell? ⟨w.heap.size + 1, 2, none⟩ = some (.int .i64 vb) := hf.keep VRm (by go_simp)
        replace VL : w.heap.size + 1 < z62.heap.size := block_lt_of_cell V0
        replace VRm := tR
        clear tR
        have tR : R62 (w.heap.size + 1 + 1) = none := hf.keepR (o := 0) (v := .int .i64 qk) ORm (by go_simp)
        replace O0 : z62.cell? ⟨w.heap.size + 1 + 1, 0, none⟩ = some (.int .i64 qk) := hf.keep ORm (by go_simp)
        replace O1 : z62.cell? ⟨w.heap.size + 1 + 1, 1, none⟩ = some (.int .i64 qn) := hf.keep ORm (by go_simp)
        replace O2 : z62.cell? ⟨w.heap.size + 1 + 1, 2, none⟩ = some (.int .i64 qb) := hf.keep ORm (by go_simp)
        replace OL : w.heap.size + 1 + 1 < z62.heap.size := block_lt_of_cell O0
        replace ORm := tR
        clear tR
        have tR : R62 (z61.heap.size) = none := hf.keepR (o := 0) (v := .int .i64 xk) XRm (by go_simp)
        have X0 : z62.cell? ⟨z61.heap.size, 0, none⟩ = some (.int .i64 xk) := hf.keep XRm (by go_simp)
        have X1 : z62.cell? ⟨z61.heap.size, 1, none⟩ = some (.int .i64 xn) := hf.keep XRm (by go_simp)
        have X2 : z62.cell? ⟨z61.heap.size, 2, none⟩ = some (.int .i64 xb) := hf.keep XRm (by go_simp)
        have XL : z61.heap.size < z62.heap.size := block_lt_of_cell X0
        replace XRm := tR
        clear tR
        replace HB : Hid (Below w.heap.size w z62) := Below.wrote (by have hB0 := HB.out; exact (by repeat (first | with_reducible exact Below.refl _ _ | assumption | with_reducible refine bel_alloc ?_ _ | with_reducible refine Below.drew ?_ | with_reducible refine bel_drewN ?_ _ | with_reducible refine bel_set ?_ (by go_light; first | (simp; done) | (simp; omega) | omega) _ | refine bel_trans ?_ (by assumption)))) (Mem.below HMm.out (by repeat (first | with_reducible exact Below.refl _ _ | assumption | with_reducible refine bel_alloc ?_ _ | with_reducible refine Below.drew ?_ | with_reducible refine bel_drewN ?_ _ | with_reducible refine bel_set ?_ (by go_light; first | (simp; done) | (simp; omega) | omega) _ | refine bel_trans ?_ (by assumption)))) hf
        replace HMm : Hid (Mem z62 w.heap.size P2 R62 M2) := hm
        clear hm hf
        go_wp2_with fail
        refine (load_to (Mem.below HMm.out (by repeat (first | with_reducible exact Below.refl _ _ | assumption | with_reducible refine bel_alloc ?_ _ | with_reducible refine Below.drew ?_ | with_reducible refine bel_drewN ?_ _ | with_reducible refine bel_set ?_ (by go_light; first | (simp; done) | (simp; omega) | omega) _ | refine bel_trans ?_ (by assumption)))) wide qk qn qb HL1.out).mono ?_
        rintro e z63 ⟨rfl, hb⟩
        replace A0 : z63.cell? ⟨w.heap.size, 0, none⟩ = some (.int .i64 ak) := keep_cell hb (by go_simp)
        replace A1 : z63.cell? ⟨w.heap.size, 1, none⟩ = some (.int .i64 an) := keep_cell hb (by go_simp)
        replace A2 : z63.cell? ⟨w.heap.size, 2, none⟩ = some (.int .i64 ab) := keep_cell hb (by go_simp)
        replace AL : w.heap.size < z63.heap.size := block_lt_of_cell A0
        replace V0 : z63.cell? ⟨w.heap.size + 1, 0, none⟩ = some (.int .i64 vk) := keep_cell hb (by go_simp)
        replace V1 : z63.cell? ⟨w.heap.size + 1, 1, none⟩ = some (.int .i64 vn) := keep_cell hb (by go_simp)
        replace V2 : z63.cell? ⟨w.heap.size + 1, 2, none⟩ = some (.int .i64 vb) := keep_cell hb (by go_simp)
        replace VL : w.heap.size + 1 < z63.heap.size := block_lt_of_cell V0
        replace O0 : z63.cell? ⟨w.heap.size + 1 + 1, 0, none⟩ = some (.int .i64 qk) := keep_cell hb (by go_simp)
        replace O1 : z63.cell? ⟨w.heap.size + 1 + 1, 1, none⟩ = some (.int .i64 qn) := keep_cell hb (by go_simp)
        replace O2 : z63.cell? ⟨w.heap.size + 1 + 1, 2, none⟩ = some (.int .i64 qb) := keep_cell hb (by go_simp)
        replace OL : w.heap.size + 1 + 1 < z63.heap.size := block_lt_of_cell O0
        replace X0 : z63.cell? ⟨z61.heap.size, 0, none⟩ = some (.int .i64 xk) := keep_cell hb (by go_simp)
        replace X1 : z63.cell? ⟨z61.heap.size, 1, none⟩ = some (.int .i64 xn) := keep_cell hb (by go_simp)
        replace X2 : z63.cell? ⟨z61.heap.size, 2, none⟩ = some (.int .i64 xb) := keep_cell hb (by go_simp)
        replace XL : z61.heap.size < z63.heap.size := block_lt_of_cell X0
        replace HMm : Hid (Mem z63 w.heap.size P2 R62 M2) := Mem.below HMm.out (by repeat (first | with_reducible exact Below.refl _ _ | assumption | with_reducible refine bel_alloc ?_ _ | with_reducible refine Below.drew ?_ | with_reducible refine bel_drewN ?_ _ | with_reducible refine bel_set ?_ (by go_light; first | (simp; done) | (simp; omega) | omega) _ | refine bel_trans ?_ (by assumption)))
        replace HB : Hid (Below w.heap.size w z63) := (by have hB0 := HB.out; exact (by repeat (first | with_reducible exact Below.refl _ _ | assumption | with_reducible refine bel_alloc ?_ _ | with_reducible refine Below.drew ?_ | with_reducible refine bel_drewN ?_ _ | with_reducible refine bel_set ?_ (by go_light; first | (simp; done) | (simp; omega) | omega) _ | refine bel_trans ?_ (by assumption))))
        clear hb
        have YRm : R62 (z63.heap.size) = none := Mem.fresh HMm.out (by omega)
        go_upto_region 20 with fail
        go_cut [23] (fun sv w' => sv = .bool ap ∧ w' = (z63.alloc (.cells #[.int .i64 yk, .int .i64 yn, .int .i64 yb] 29)))
        case first =>
          have hbn := HBND.out
          have c8 : chunk ≤ 8 := by omega
          have c1 : 1 ≤ chunk := by omega
          have an0 := hbn.2.1
          have an1 := hbn.2.2
          clear hbn
          by_cases h1 : qb = ab
          · have g1 : (qb != ab) = false := by simp [h1]
            have HG1 : Hid (qb = ab) := h1
            clear h1
            cases ok2
            · have e : ap = true := by rw [HAP.out, g1]; rfl
              go_wp2
              go_meet
              case rel => exact ⟨by simp [e], rfl⟩
            · have hq := HOK.out rfl
              have q0 := hq.1.1
              have q1 := hq.1.2
              have w8 : wide ≤ 8 := by omega
              have w1 : 1 ≤ wide := by omega
              clear hq
              by_cases h2 : an + chunk ≤ qn
              · have e : ap = true := by rw [HAP.out, g1]; simp [h2]
                go_wp2
                go_meet
                case rel => exact ⟨by simp [e], rfl⟩
              · have g2 : decide (an + chunk ≤ qn) = false := by simp; omega
                by_cases h3 : qn + wide ≤ an
                · have e : ap = true := by rw [HAP.out, g1]; simp [h3]
                  go_wp2
                  go_meet
                  case rel => exact ⟨by simp [e], rfl⟩
                · have g3 : decide (qn + wide ≤ an) = false := by simp; omega
                  have e : ap = false := by rw [HAP.out, g1, g2, g3]; rfl
                  go_wp2
                  go_meet
                  case rel => exact ⟨by simp [e], rfl⟩
          · have g1 : (qb != ab) = true := by simp [h1]
            have e : ap = true := by rw [HAP.out, g1]; rfl
            go_wp2
            go_meet
            case rel => exact ⟨by simp [e], rfl⟩
        case rest =>
          obtain ⟨rfl, rfl⟩ := hcut
          go_upto_region 21 with fail
          go_cut [145] (fun sv w' => sv = .bool false ∧ w' = (z63.alloc (.cells #[.int .i64 yk, .int .i64 yn, .int .i64 yb] 29)))
          case first =>
            cases ap
            · go_wp2
              go_meet
              case rel => exact ⟨rfl, rfl⟩
            · obtain ⟨rfl, rfl, rfl⟩ := HXY.out rfl
              go_wp2
              go_meet
              case rel => exact ⟨by simp, rfl⟩
          case rest =>
            obtain ⟨rfl, rfl⟩ := hcut
            have hss := store_same HST.out
            have hbx := bounds_i64 xvn
            clear HXY HAP HOK
            cases hgd : goodF ⟨vk, vn, vb⟩
            · have HGD : Hid (goodF ⟨vk, vn, vb⟩ = false) := hgd
              have HG : Hid (loadM M2 chunk ⟨ak, an, ab⟩ = (⟨0, 0, 0⟩, true)) := by show _ = _; simpa [goodV, hgd, noV] using hss
              clear hss hgd hbx
              go_wp2_with fail
              refine (load_to (Mem.below HMm.out (by repeat (first | with_reducible exact Below.refl _ _ | assumption | with_reducible refine bel_alloc ?_ _ | with_reducible refine Below.drew ?_ | with_reducible refine bel_drewN ?_ _ | with_reducible refine bel_set ?_ (by go_light; first | (simp; done) | (simp; omega) | omega) _ | refine bel_trans ?_ (by assumption)))) chunk ak an ab HG.out).mono ?_
              rintro e z64 ⟨rfl, hb⟩
              replace A0 : z64.cell? ⟨w.heap.size, 0, none⟩ = some (.int .i64 ak) := keep_cell hb (by go_simp)
              replace A1 : z64.cell? ⟨w.heap.size, 1, none⟩ = some (.int .i64 an) := keep_cell hb (by go_simp)
              replace A2 : z64.cell? ⟨w.heap.size, 2, none⟩ = some (.int .i64 ab) := keep_cell hb (by go_simp)
              replace AL : w.heap.size < z64.heap.size := block_lt_of_cell A0
              replace V0 : z64.cell? ⟨w.heap.size + 1, 0, none⟩ = some (.int .i64 vk) := keep_cell hb (by go_simp)
              replace V1 : z64.cell? ⟨w.heap.size + 1, 1, none⟩ = some (.int .i64 vn) := keep_cell hb (by go_simp)
              replace V2 : z64.cell? ⟨w.heap.size + 1, 2, none⟩ = some (.int .i64 vb) := keep_cell hb (by go_simp)
              replace VL : w.heap.size + 1 < z64.heap.size := block_lt_of_cell V0
              replace O0 : z64.cell? ⟨w.heap.size + 1 + 1, 0, none⟩ = some (.int .i64 qk) := keep_cell hb (by go_simp)
              replace O1 : z64.cell? ⟨w.heap.size + 1 + 1, 1, none⟩ = some (.int .i64 qn) := keep_cell hb (by go_simp)
              replace O2 : z64.cell? ⟨w.heap.size + 1 + 1, 2, none⟩ = some (.int .i64 qb) := keep_cell hb (by go_simp)
              replace OL : w.heap.size + 1 + 1 < z64.heap.size := block_lt_of_cell O0
              replace X0 : z64.cell? ⟨z61.heap.size, 0, none⟩ = some (.int .i64 xk) := keep_cell hb (by go_simp)
              replace X1 : z64.cell? ⟨z61.heap.size, 1, none⟩ = some (.int .i64 xn) := keep_cell hb (by go_simp)
              replace X2 : z64.cell? ⟨z61.heap.size, 2, none⟩ = some (.int .i64 xb) := keep_cell hb (by go_simp)
              replace XL : z61.heap.size < z64.heap.size := block_lt_of_cell X0
              have Y0 : z64.cell? ⟨z63.heap.size, 0, none⟩ = some (.int .i64 yk) := keep_cell hb (by go_simp)
              have Y1 : z64.cell? ⟨z63.heap.size, 1, none⟩ = some (.int .i64 yn) := keep_cell hb (by go_simp)
              have Y2 : z64.cell? ⟨z63.heap.size, 2, none⟩ = some (.int .i64 yb) := keep_cell hb (by go_simp)
              have YL : z63.heap.size < z64.heap.size := block_lt_of_cell Y0
              replace HMm : Hid (Mem z64 w.heap.size P2 R62 M2) := Mem.below HMm.out (by repeat (first | with_reducible exact Below.refl _ _ | assumption | with_reducible refine bel_alloc ?_ _ | with_reducible refine Below.drew ?_ | with_reducible refine bel_drewN ?_ _ | with_reducible refine bel_set ?_ (by go_light; first | (simp; done) | (simp; omega) | omega) _ | refine bel_trans ?_ (by assumption)))
              replace HB : Hid (Below w.heap.size w z64) := (by have hB0 := HB.out; exact (by repeat (first | with_reducible exact Below.refl _ _ | assumption | with_reducible refine bel_alloc ?_ _ | with_reducible refine Below.drew ?_ | with_reducible refine bel_drewN ?_ _ | with_reducible refine bel_set ?_ (by go_light; first | (simp; done) | (simp; omega) | omega) _ | refine bel_trans ?_ (by assumption))))
              clear hb
              have GRm : R62 (z64.heap.size) = none := Mem.fresh HMm.out (by omega)
              go_wp2_with fail
              refine (rgood_to vk vn vb _ HGD.out).mono ?_
              rintro e z65 ⟨rfl, hb⟩
              replace A0 : z65.cell? ⟨w.heap.size, 0, none⟩ = some (.int .i64 ak) := keep_cell hb (by go_simp)
              replace A1 : z65.cell? ⟨w.heap.size, 1, none⟩ = some (.int .i64 an) := keep_cell hb (by go_simp)
              replace A2 : z65.cell? ⟨w.heap.size, 2, none⟩ = some (.int .i64 ab) := keep_cell hb (by go_simp)
              replace AL : w.heap.size < z65.heap.size := block_lt_of_cell A0
              replace V0 : z65.cell? ⟨w.heap.size + 1, 0, none⟩ = some (.int .i64 vk) := keep_cell hb (by go_simp)
              replace V1 : z65.cell? ⟨w.heap.size + 1, 1, none⟩ = some (.int .i64 vn) := keep_cell hb (by go_simp)
              replace V2 : z65.cell? ⟨w.heap.size + 1, 2, none⟩ = some (.int .i64 vb) := keep_cell hb (by go_simp)
              replace VL : w.heap.size + 1 < z65.heap.size := block_lt_of_cell V0
              replace O0 : z65.cell? ⟨w.heap.size + 1 + 1, 0, none⟩ = some (.int .i64 qk) := keep_cell hb (by go_simp)
              replace O1 : z65.cell? ⟨w.heap.size + 1 + 1, 1, none⟩ = some (.int .i64 qn) := keep_cell hb (by go_simp)
              replace O2 : z65.cell? ⟨w.heap.size + 1 + 1, 2, none⟩ = some (.int .i64 qb) := keep_cell hb (by go_simp)
              replace OL : w.heap.size + 1 + 1 < z65.heap.size := block_lt_of_cell O0
              replace X0 : z65.cell? ⟨z61.heap.size, 0, none⟩ = some (.int .i64 xk) := keep_cell hb (by go_simp)
              replace X1 : z65.cell? ⟨z61.heap.size, 1, none⟩ = some (.int .i64 xn) := keep_cell hb (by go_simp)
              replace X2 : z65.cell? ⟨z61.heap.size, 2, none⟩ = some (.int .i64 xb) := keep_cell hb (by go_simp)
              replace XL : z61.heap.size < z65.heap.size := block_lt_of_cell X0
              replace Y0 : z65.cell? ⟨z63.heap.size, 0, none⟩ = some (.int .i64 yk) := keep_cell hb (by go_simp)
              replace Y1 : z65.cell? ⟨z63.heap.size, 1, none⟩ = some (.int .i64 yn) := keep_cell hb (by go_simp)
              replace Y2 : z65.cell? ⟨z63.heap.size, 2, none⟩ = some (.int .i64 yb) := keep_cell hb (by go_simp)
              replace YL : z63.heap.size < z65.heap.size := block_lt_of_cell Y0
              have G0 : z65.cell? ⟨z64.heap.size, 0, none⟩ = some (.int .i64 0) := keep_cell hb (by go_simp)
              have G1 : z65.cell? ⟨z64.heap.size, 1, none⟩ = some (.int .i64 0) := keep_cell hb (by go_simp)
              have G2 : z65.cell? ⟨z64.heap.size, 2, none⟩ = some (.int .i64 0) := keep_cell hb (by go_simp)
              have GL : z64.heap.size < z65.heap.size := block_lt_of_cell G0
              replace HMm : Hid (Mem z65 w.heap.size P2 R62 M2) := Mem.below HMm.out (by repeat (first | with_reducible exact Below.refl _ _ | assumption | with_reducible refine bel_alloc ?_ _ | with_reducible refine Below.drew ?_ | with_reducible refine bel_drewN ?_ _ | with_reducible refine bel_set ?_ (by go_light; first | (simp; done) | (simp; omega) | omega) _ | refine bel_trans ?_ (by assumption)))
              replace HB : Hid (Below w.heap.size w z65) := (by have hB0 := HB.out; exact (by repeat (first | with_reducible exact Below.refl _ _ | assumption | with_reducible refine bel_alloc ?_ _ | with_reducible refine Below.drew ?_ | with_reducible refine bel_drewN ?_ _ | with_reducible refine bel_set ?_ (by go_light; first | (simp; done) | (simp; omega) | omega) _ | refine bel_trans ?_ (by assumption))))
              clear hb
              go_wp2_with fail
              refine (rgood_to vk vn vb _ HGD.out).mono ?_
              rintro e z66 ⟨rfl, hb⟩
              replace A0 : z66.cell? ⟨w.heap.size, 0, none⟩ = some (.int .i64 ak) := keep_cell hb (by go_simp)
              replace A1 : z66.cell? ⟨w.heap.size, 1, none⟩ = some (.int .i64 an) := keep_cell hb (by go_simp)
              replace A2 : z66.cell? ⟨w.heap.size, 2, none⟩ = some (.int .i64 ab) := keep_cell hb (by go_simp)
              replace AL : w.heap.size < z66.heap.size := block_lt_of_cell A0
              replace V0 : z66.cell? ⟨w.heap.size + 1, 0, none⟩ = some (.int .i64 vk) := keep_cell hb (by go_simp)
              replace V1 : z66.cell? ⟨w.heap.size + 1, 1, none⟩ = some (.int .i64 vn) := keep_cell hb (by go_simp)
              replace V2 : z66.cell? ⟨w.heap.size + 1, 2, none⟩ = some (.int .i64 vb) := keep_cell hb (by go_simp)
              replace VL : w.heap.size + 1 < z66.heap.size := block_lt_of_cell V0
              replace O0 : z66.cell? ⟨w.heap.size + 1 + 1, 0, none⟩ = some (.int .i64 qk) := keep_cell hb (by go_simp)
              replace O1 : z66.cell? ⟨w.heap.size + 1 + 1, 1, none⟩ = some (.int .i64 qn) := keep_cell hb (by go_simp)
              replace O2 : z66.cell? ⟨w.heap.size + 1 + 1, 2, none⟩ = some (.int .i64 qb) := keep_cell hb (by go_simp)
              replace OL : w.heap.size + 1 + 1 < z66.heap.size := block_lt_of_cell O0
              replace X0 : z66.cell? ⟨z61.heap.size, 0, none⟩ = some (.int .i64 xk) := keep_cell hb (by go_simp)
              replace X1 : z66.cell? ⟨z61.heap.size, 1, none⟩ = some (.int .i64 xn) := keep_cell hb (by go_simp)
              replace X2 : z66.cell? ⟨z61.heap.size, 2, none⟩ = some (.int .i64 xb) := keep_cell hb (by go_simp)
              replace XL : z61.heap.size < z66.heap.size := block_lt_of_cell X0
              replace Y0 : z66.cell? ⟨z63.heap.size, 0, none⟩ = some (.int .i64 yk) := keep_cell hb (by go_simp)
              replace Y1 : z66.cell? ⟨z63.heap.size, 1, none⟩ = some (.int .i64 yn) := keep_cell hb (by go_simp)
              replace Y2 : z66.cell? ⟨z63.heap.size, 2, none⟩ = some (.int .i64 yb) := keep_cell hb (by go_simp)
              replace YL : z63.heap.size < z66.heap.size := block_lt_of_cell Y0
              replace G0 : z66.cell? ⟨z64.heap.size, 0, none⟩ = some (.int .i64 0) := keep_cell hb (by go_simp)
              replace G1 : z66.cell? ⟨z64.heap.size, 1, none⟩ = some (.int .i64 0) := keep_cell hb (by go_simp)
              replace G2 : z66.cell? ⟨z64.heap.size, 2, none⟩ = some (.int .i64 0) := keep_cell hb (by go_simp)
              replace GL : z64.heap.size < z66.heap.size := block_lt_of_cell G0
              replace HMm : Hid (Mem z66 w.heap.size P2 R62 M2) := Mem.below HMm.out (by repeat (first | with_reducible exact Below.refl _ _ | assumption | with_reducible refine bel_alloc ?_ _ | with_reducible refine Below.drew ?_ | with_reducible refine bel_drewN ?_ _ | with_reducible refine bel_set ?_ (by go_light; first | (simp; done) | (simp; omega) | omega) _ | refine bel_trans ?_ (by assumption)))
              replace HB : Hid (Below w.heap.size w z66) := (by have hB0 := HB.out; exact (by repeat (first | with_reducible exact Below.refl _ _ | assumption | with_reducible refine bel_alloc ?_ _ | with_reducible refine Below.drew ?_ | with_reducible refine bel_drewN ?_ _ | with_reducible refine bel_set ?_ (by go_light; first | (simp; done) | (simp; omega) | omega) _ | refine bel_trans ?_ (by assumption))))
              clear hb
              go_wp2_with fail
              refine (rgood_to vk vn vb _ HGD.out).mono ?_
              rintro e z67 ⟨rfl, hb⟩
              replace A0 : z67.cell? ⟨w.heap.size, 0, none⟩ = some (.int .i64 ak) := keep_cell hb (by go_simp)
              replace A1 : z67.cell? ⟨w.heap.size, 1, none⟩ = some (.int .i64 an) := keep_cell hb (by go_simp)
              replace A2 : z67.cell? ⟨w.heap.size, 2, none⟩ = some (.int .i64 ab) := keep_cell hb (by go_simp)
              replace AL : w.heap.size < z67.heap.size := block_lt_of_cell A0
              replace V0 : z67.cell? ⟨w.heap.size + 1, 0, none⟩ = some (.int .i64 vk) := keep_cell hb (by go_simp)
              replace V1 : z67.cell? ⟨w.heap.size + 1, 1, none⟩ = some (.int .i64 vn) := keep_cell hb (by go_simp)
              replace V2 : z67.cell? ⟨w.heap.size + 1, 2, none⟩ = some (.int .i64 vb) := keep_cell hb (by go_simp)
              replace VL : w.heap.size + 1 < z67.heap.size := block_lt_of_cell V0
              replace O0 : z67.cell? ⟨w.heap.size + 1 + 1, 0, none⟩ = some (.int .i64 qk) := keep_cell hb (by go_simp)
              replace O1 : z67.cell? ⟨w.heap.size + 1 + 1, 1, none⟩ = some (.int .i64 qn) := keep_cell hb (by go_simp)
              replace O2 : z67.cell? ⟨w.heap.size + 1 + 1, 2, none⟩ = some (.int .i64 qb) := keep_cell hb (by go_simp)
              replace OL : w.heap.size + 1 + 1 < z67.heap.size := block_lt_of_cell O0
              replace X0 : z67.cell? ⟨z61.heap.size, 0, none⟩ = some (.int .i64 xk) := keep_cell hb (by go_simp)
              replace X1 : z67.cell? ⟨z61.heap.size, 1, none⟩ = some (.int .i64 xn) := keep_cell hb (by go_simp)
              replace X2 : z67.cell? ⟨z61.heap.size, 2, none⟩ = some (.int .i64 xb) := keep_cell hb (by go_simp)
              replace XL : z61.heap.size < z67.heap.size := block_lt_of_cell X0
              replace Y0 : z67.cell? ⟨z63.heap.size, 0, none⟩ = some (.int .i64 yk) := keep_cell hb (by go_simp)
              replace Y1 : z67.cell? ⟨z63.heap.size, 1, none⟩ = some (.int .i64 yn) := keep_cell hb (by go_simp)
              replace Y2 : z67.cell? ⟨z63.heap.size, 2, none⟩ = some (.int .i64 yb) := keep_cell hb (by go_simp)
              replace YL : z63.heap.size < z67.heap.size := block_lt_of_cell Y0
              replace G0 : z67.cell? ⟨z64.heap.size, 0, none⟩ = some (.int .i64 0) := keep_cell hb (by go_simp)
              replace G1 : z67.cell? ⟨z64.heap.size, 1, none⟩ = some (.int .i64 0) := keep_cell hb (by go_simp)
              replace G2 : z67.cell? ⟨z64.heap.size, 2, none⟩ = some (.int .i64 0) := keep_cell hb (by go_simp)
              replace GL : z64.heap.size < z67.heap.size := block_lt_of_cell G0
              replace HMm : Hid (Mem z67 w.heap.size P2 R62 M2) := Mem.below HMm.out (by repeat (first | with_reducible exact Below.refl _ _ | assumption | with_reducible refine bel_alloc ?_ _ | with_reducible refine Below.drew ?_ | with_reducible refine bel_drewN ?_ _ | with_reducible refine bel_set ?_ (by go_light; first | (simp; done) | (simp; omega) | omega) _ | refine bel_trans ?_ (by assumption)))
              replace HB : Hid (Below w.heap.size w z67) := (by have hB0 := HB.out; exact (by repeat (first | with_reducible exact Below.refl _ _ | assumption | with_reducible refine bel_alloc ?_ _ | with_reducible refine Below.drew ?_ | with_reducible refine bel_drewN ?_ _ | with_reducible refine bel_set ?_ (by go_light; first | (simp; done) | (simp; omega) | omega) _ | refine bel_trans ?_ (by assumption))))
              clear hb
              go_wp2
              go_ret
              exact ⟨by simp, by have hB0 := HB.out; exact (by repeat (first | with_reducible exact Below.refl _ _ | assumption | with_reducible refine bel_alloc ?_ _ | with_reducible refine Below.drew ?_ | with_reducible refine bel_drewN ?_ _ | with_reducible refine bel_set ?_ (by go_light; first | (simp; done) | (simp; omega) | omega) _ | refine bel_trans ?_ (by assumption)))⟩
            have hgv : goodV ⟨vk, vn, vb⟩ = ⟨vk, vn, vb⟩ := by simp [goodV, hgd]
            rw [hgv] at hss
            clear hgv
            by_cases h2 : vk = 2
            · subst h2
              have HGD : Hid (goodF ⟨2, vn, vb⟩ = true) := hgd
              have HG : Hid (loadM M2 chunk ⟨ak, an, ab⟩ = (⟨2, vn, vb⟩, true)) := by show _ = _; simpa using hss
              clear hss hgd hbx
              go_wp2_with fail
              refine (load_to (Mem.below HMm.out (by repeat (first | with_reducible exact Below.refl _ _ | assumption | with_reducible refine bel_alloc ?_ _ | with_reducible refine Below.drew ?_ | with_reducible refine bel_drewN ?_ _ | with_reducible refine bel_set ?_ (by go_light; first | (simp; done) | (simp; omega) | omega) _ | refine bel_trans ?_ (by assumption)))) chunk ak an ab HG.out).mono ?_
              rintro e z64 ⟨rfl, hb⟩
              replace A0 : z64.cell? ⟨w.heap.size, 0, none⟩ = some (.int .i64 ak) := keep_cell hb (by go_simp)
              replace A1 : z64.cell? ⟨w.heap.size, 1, none⟩ = some (.int .i64 an) := keep_cell hb (by go_simp)
              replace A2 : z64.cell? ⟨w.heap.size, 2, none⟩ = some (.int .i64 ab) := keep_cell hb (by go_simp)
              replace AL : w.heap.size < z64.heap.size := block_lt_of_cell A0
              replace V0 : z64.cell? ⟨w.heap.size + 1, 0, none⟩ = some (.int .i64 2) := keep_cell hb (by go_simp)
              replace V1 : z64.cell? ⟨w.heap.size + 1, 1, none⟩ = some (.int .i64 vn) := keep_cell hb (by go_simp)
              replace V2 : z64.cell? ⟨w.heap.size + 1, 2, none⟩ = some (.int .i64 vb) := keep_cell hb (by go_simp)
              replace VL : w.heap.size + 1 < z64.heap.size := block_lt_of_cell V0
              replace O0 : z64.cell? ⟨w.heap.size + 1 + 1, 0, none⟩ = some (.int .i64 qk) := keep_cell hb (by go_simp)
              replace O1 : z64.cell? ⟨w.heap.size + 1 + 1, 1, none⟩ = some (.int .i64 qn) := keep_cell hb (by go_simp)
              replace O2 : z64.cell? ⟨w.heap.size + 1 + 1, 2, none⟩ = some (.int .i64 qb) := keep_cell hb (by go_simp)
              replace OL : w.heap.size + 1 + 1 < z64.heap.size := block_lt_of_cell O0
              replace X0 : z64.cell? ⟨z61.heap.size, 0, none⟩ = some (.int .i64 xk) := keep_cell hb (by go_simp)
              replace X1 : z64.cell? ⟨z61.heap.size, 1, none⟩ = some (.int .i64 xn) := keep_cell hb (by go_simp)
              replace X2 : z64.cell? ⟨z61.heap.size, 2, none⟩ = some (.int .i64 xb) := keep_cell hb (by go_simp)
              replace XL : z61.heap.size < z64.heap.size := block_lt_of_cell X0
              have Y0 : z64.cell? ⟨z63.heap.size, 0, none⟩ = some (.int .i64 yk) := keep_cell hb (by go_simp)
              have Y1 : z64.cell? ⟨z63.heap.size, 1, none⟩ = some (.int .i64 yn) := keep_cell hb (by go_simp)
              have Y2 : z64.cell? ⟨z63.heap.size, 2, none⟩ = some (.int .i64 yb) := keep_cell hb (by go_simp)
              have YL : z63.heap.size < z64.heap.size := block_lt_of_cell Y0
              replace HMm : Hid (Mem z64 w.heap.size P2 R62 M2) := Mem.below HMm.out (by repeat (first | with_reducible exact Below.refl _ _ | assumption | with_reducible refine bel_alloc ?_ _ | with_reducible refine Below.drew ?_ | with_reducible refine bel_drewN ?_ _ | with_reducible refine bel_set ?_ (by go_light; first | (simp; done) | (simp; omega) | omega) _ | refine bel_trans ?_ (by assumption)))
              replace HB : Hid (Below w.heap.size w z64) := (by have hB0 := HB.out; exact (by repeat (first | with_reducible exact Below.refl _ _ | assumption | with_reducible refine bel_alloc ?_ _ | with_reducible refine Below.drew ?_ | with_reducible refine bel_drewN ?_ _ | with_reducible refine bel_set ?_ (by go_light; first | (simp; done) | (simp; omega) | omega) _ | refine bel_trans ?_ (by assumption))))
              clear hb
              have GRm : R62 (z64.heap.size) = none := Mem.fresh HMm.out (by omega)
              go_wp2_with fail
              refine (rgood_to 2 vn vb _ HGD.out).mono ?_
              rintro e z65 ⟨rfl, hb⟩
              replace A0 : z65.cell? ⟨w.heap.size, 0, none⟩ = some (.int .i64 ak) := keep_cell hb (by go_simp)
              replace A1 : z65.cell? ⟨w.heap.size, 1, none⟩ = some (.int .i64 an) := keep_cell hb (by go_simp)
              replace A2 : z65.cell? ⟨w.heap.size, 2, none⟩ = some (.int .i64 ab) := keep_cell hb (by go_simp)
              replace AL : w.heap.size < z65.heap.size := block_lt_of_cell A0
              replace V0 : z65.cell? ⟨w.heap.size + 1, 0, none⟩ = some (.int .i64 2) := keep_cell hb (by go_simp)
              replace V1 : z65.cell? ⟨w.heap.size + 1, 1, none⟩ = some (.int .i64 vn) := keep_cell hb (by go_simp)
              replace V2 : z65.cell? ⟨w.heap.size + 1, 2, none⟩ = some (.int .i64 vb) := keep_cell hb (by go_simp)
              replace VL : w.heap.size + 1 < z65.heap.size := block_lt_of_cell V0
              replace O0 : z65.cell? ⟨w.heap.size + 1 + 1, 0, none⟩ = some (.int .i64 qk) := keep_cell hb (by go_simp)
              replace O1 : z65.cell? ⟨w.heap.size + 1 + 1, 1, none⟩ = some (.int .i64 qn) := keep_cell hb (by go_simp)
              replace O2 : z65.cell? ⟨w.heap.size + 1 + 1, 2, none⟩ = some (.int .i64 qb) := keep_cell hb (by go_simp)
              replace OL : w.heap.size + 1 + 1 < z65.heap.size := block_lt_of_cell O0
              replace X0 : z65.cell? ⟨z61.heap.size, 0, none⟩ = some (.int .i64 xk) := keep_cell hb (by go_simp)
              replace X1 : z65.cell? ⟨z61.heap.size, 1, none⟩ = some (.int .i64 xn) := keep_cell hb (by go_simp)
              replace X2 : z65.cell? ⟨z61.heap.size, 2, none⟩ = some (.int .i64 xb) := keep_cell hb (by go_simp)
              replace XL : z61.heap.size < z65.heap.size := block_lt_of_cell X0
              replace Y0 : z65.cell? ⟨z63.heap.size, 0, none⟩ = some (.int .i64 yk) := keep_cell hb (by go_simp)
              replace Y1 : z65.cell? ⟨z63.heap.size, 1, none⟩ = some (.int .i64 yn) := keep_cell hb (by go_simp)
              replace Y2 : z65.cell? ⟨z63.heap.size, 2, none⟩ = some (.int .i64 yb) := keep_cell hb (by go_simp)
              replace YL : z63.heap.size < z65.heap.size := block_lt_of_cell Y0
              have G0 : z65.cell? ⟨z64.heap.size, 0, none⟩ = some (.int .i64 2) := keep_cell hb (by go_simp)
              have G1 : z65.cell? ⟨z64.heap.size, 1, none⟩ = some (.int .i64 vn) := keep_cell hb (by go_simp)
              have G2 : z65.cell? ⟨z64.heap.size, 2, none⟩ = some (.int .i64 vb) := keep_cell hb (by go_simp)
              have GL : z64.heap.size < z65.heap.size := block_lt_of_cell G0
              replace HMm : Hid (Mem z65 w.heap.size P2 R62 M2) := Mem.below HMm.out (by repeat (first | with_reducible exact Below.refl _ _ | assumption | with_reducible refine bel_alloc ?_ _ | with_reducible refine Below.drew ?_ | with_reducible refine bel_drewN ?_ _ | with_reducible refine bel_set ?_ (by go_light; first | (simp; done) | (simp; omega) | omega) _ | refine bel_trans ?_ (by assumption)))
              replace HB : Hid (Below w.heap.size w z65) := (by have hB0 := HB.out; exact (by repeat (first | with_reducible exact Below.refl _ _ | assumption | with_reducible refine bel_alloc ?_ _ | with_reducible refine Below.drew ?_ | with_reducible refine bel_drewN ?_ _ | with_reducible refine bel_set ?_ (by go_light; first | (simp; done) | (simp; omega) | omega) _ | refine bel_trans ?_ (by assumption))))
              clear hb
              go_wp2
              go_ret
              exact ⟨by simp, by have hB0 := HB.out; exact (by repeat (first | with_reducible exact Below.refl _ _ | assumption | with_reducible refine bel_alloc ?_ _ | with_reducible refine Below.drew ?_ | with_reducible refine bel_drewN ?_ _ | with_reducible refine bel_set ?_ (by go_light; first | (simp; done) | (simp; omega) | omega) _ | refine bel_trans ?_ (by assumption)))⟩
            by_cases h1 : vk = 1
            · subst h1
              have hvb : vb = 0 := by simpa [goodF] using hgd
              subst hvb
              have HGD : Hid (goodF ⟨1, vn, 0⟩ = true) := hgd
              rcases HBND.out.1 with hc | hc | hc
              · subst hc
                clear HBND HBAD hgd
                have HG : Hid (loadM M2 1 ⟨ak, an, ab⟩ = (⟨1, (wrap64 (IntKind.i8.wrap vn)), 0⟩, true)) := by show _ = _; simpa [numF, ofF] using hss
                clear hss hbx
                go_wp2_with fail
                refine (load_to (Mem.below HMm.out (by repeat (first | with_reducible exact Below.refl _ _ | assumption | with_reducible refine bel_alloc ?_ _ | with_reducible refine Below.drew ?_ | with_reducible refine bel_drewN ?_ _ | with_reducible refine bel_set ?_ (by go_light; first | (simp; done) | (simp; omega) | omega) _ | refine bel_trans ?_ (by assumption)))) 1 ak an ab HG.out).mono ?_
                rintro e z64 ⟨rfl, hb⟩
                replace A0 : z64.cell? ⟨w.heap.size, 0, none⟩ = some (.int .i64 ak) := keep_cell hb (by go_simp)
                replace A1 : z64.cell? ⟨w.heap.size, 1, none⟩ = some (.int .i64 an) := keep_cell hb (by go_simp)
                replace A2 : z64.cell? ⟨w.heap.size, 2, none⟩ = some (.int .i64 ab) := keep_cell hb (by go_simp)
                replace AL : w.heap.size < z64.heap.size := block_lt_of_cell A0
                replace V0 : z64.cell? ⟨w.heap.size + 1, 0, none⟩ = some (.int .i64 1) := keep_cell hb (by go_simp)
                replace V1 : z64.cell? ⟨w.heap.size + 1, 1, none⟩ = some (.int .i64 vn) := keep_cell hb (by go_simp)
                replace V2 : z64.cell? ⟨w.heap.size + 1, 2, none⟩ = some (.int .i64 0) := keep_cell hb (by go_simp)
                replace VL : w.heap.size + 1 < z64.heap.size := block_lt_of_cell V0
                replace O0 : z64.cell? ⟨w.heap.size + 1 + 1, 0, none⟩ = some (.int .i64 qk) := keep_cell hb (by go_simp)
                replace O1 : z64.cell? ⟨w.heap.size + 1 + 1, 1, none⟩ = some (.int .i64 qn) := keep_cell hb (by go_simp)
                replace O2 : z64.cell? ⟨w.heap.size + 1 + 1, 2, none⟩ = some (.int .i64 qb) := keep_cell hb (by go_simp)
                replace OL : w.heap.size + 1 + 1 < z64.heap.size := block_lt_of_cell O0
                replace X0 : z64.cell? ⟨z61.heap.size, 0, none⟩ = some (.int .i64 xk) := keep_cell hb (by go_simp)
                replace X1 : z64.cell? ⟨z61.heap.size, 1, none⟩ = some (.int .i64 xn) := keep_cell hb (by go_simp)
                replace X2 : z64.cell? ⟨z61.heap.size, 2, none⟩ = some (.int .i64 xb) := keep_cell hb (by go_simp)
                replace XL : z61.heap.size < z64.heap.size := block_lt_of_cell X0
                have Y0 : z64.cell? ⟨z63.heap.size, 0, none⟩ = some (.int .i64 yk) := keep_cell hb (by go_simp)
                have Y1 : z64.cell? ⟨z63.heap.size, 1, none⟩ = some (.int .i64 yn) := keep_cell hb (by go_simp)
                have Y2 : z64.cell? ⟨z63.heap.size, 2, none⟩ = some (.int .i64 yb) := keep_cell hb (by go_simp)
                have YL : z63.heap.size < z64.heap.size := block_lt_of_cell Y0
                replace HMm : Hid (Mem z64 w.heap.size P2 R62 M2) := Mem.below HMm.out (by repeat (first | with_reducible exact Below.refl _ _ | assumption | with_reducible refine bel_alloc ?_ _ | with_reducible refine Below.drew ?_ | with_reducible refine bel_drewN ?_ _ | with_reducible refine bel_set ?_ (by go_light; first | (simp; done) | (simp; omega) | omega) _ | refine bel_trans ?_ (by assumption)))
                replace HB : Hid (Below w.heap.size w z64) := (by have hB0 := HB.out; exact (by repeat (first | with_reducible exact Below.refl _ _ | assumption | with_reducible refine bel_alloc ?_ _ | with_reducible refine Below.drew ?_ | with_reducible refine bel_drewN ?_ _ | with_reducible refine bel_set ?_ (by go_light; first | (simp; done) | (simp; omega) | omega) _ | refine bel_trans ?_ (by assumption))))
                clear hb
                have GRm : R62 (z64.heap.size) = none := Mem.fresh HMm.out (by omega)
                go_wp2_with fail
                refine (rgood_to 1 vn 0 _ HGD.out).mono ?_
                rintro e z65 ⟨rfl, hb⟩
                replace A0 : z65.cell? ⟨w.heap.size, 0, none⟩ = some (.int .i64 ak) := keep_cell hb (by go_simp)
                replace A1 : z65.cell? ⟨w.heap.size, 1, none⟩ = some (.int .i64 an) := keep_cell hb (by go_simp)
                replace A2 : z65.cell? ⟨w.heap.size, 2, none⟩ = some (.int .i64 ab) := keep_cell hb (by go_simp)
                replace AL : w.heap.size < z65.heap.size := block_lt_of_cell A0
                replace V0 : z65.cell? ⟨w.heap.size + 1, 0, none⟩ = some (.int .i64 1) := keep_cell hb (by go_simp)
                replace V1 : z65.cell? ⟨w.heap.size + 1, 1, none⟩ = some (.int .i64 vn) := keep_cell hb (by go_simp)
                replace V2 : z65.cell? ⟨w.heap.size + 1, 2, none⟩ = some (.int .i64 0) := keep_cell hb (by go_simp)
                replace VL : w.heap.size + 1 < z65.heap.size := block_lt_of_cell V0
                replace O0 : z65.cell? ⟨w.heap.size + 1 + 1, 0, none⟩ = some (.int .i64 qk) := keep_cell hb (by go_simp)
                replace O1 : z65.cell? ⟨w.heap.size + 1 + 1, 1, none⟩ = some (.int .i64 qn) := keep_cell hb (by go_simp)
                replace O2 : z65.cell? ⟨w.heap.size + 1 + 1, 2, none⟩ = some (.int .i64 qb) := keep_cell hb (by go_simp)
                replace OL : w.heap.size + 1 + 1 < z65.heap.size := block_lt_of_cell O0
                replace X0 : z65.cell? ⟨z61.heap.size, 0, none⟩ = some (.int .i64 xk) := keep_cell hb (by go_simp)
                replace X1 : z65.cell? ⟨z61.heap.size, 1, none⟩ = some (.int .i64 xn) := keep_cell hb (by go_simp)
                replace X2 : z65.cell? ⟨z61.heap.size, 2, none⟩ = some (.int .i64 xb) := keep_cell hb (by go_simp)
                replace XL : z61.heap.size < z65.heap.size := block_lt_of_cell X0
                replace Y0 : z65.cell? ⟨z63.heap.size, 0, none⟩ = some (.int .i64 yk) := keep_cell hb (by go_simp)
                replace Y1 : z65.cell? ⟨z63.heap.size, 1, none⟩ = some (.int .i64 yn) := keep_cell hb (by go_simp)
                replace Y2 : z65.cell? ⟨z63.heap.size, 2, none⟩ = some (.int .i64 yb) := keep_cell hb (by go_simp)
                replace YL : z63.heap.size < z65.heap.size := block_lt_of_cell Y0
                have G0 : z65.cell? ⟨z64.heap.size, 0, none⟩ = some (.int .i64 1) := keep_cell hb (by go_simp)
                have G1 : z65.cell? ⟨z64.heap.size, 1, none⟩ = some (.int .i64 (wrap64 (IntKind.i8.wrap vn))) := keep_cell hb (by go_simp)
                have G2 : z65.cell? ⟨z64.heap.size, 2, none⟩ = some (.int .i64 0) := keep_cell hb (by go_simp)
                have GL : z64.heap.size < z65.heap.size := block_lt_of_cell G0
                replace HMm : Hid (Mem z65 w.heap.size P2 R62 M2) := Mem.below HMm.out (by repeat (first | with_reducible exact Below.refl _ _ | assumption | with_reducible refine bel_alloc ?_ _ | with_reducible refine Below.drew ?_ | with_reducible refine bel_drewN ?_ _ | with_reducible refine bel_set ?_ (by go_light; first | (simp; done) | (simp; omega) | omega) _ | refine bel_trans ?_ (by assumption)))
                replace HB : Hid (Below w.heap.size w z65) := (by have hB0 := HB.out; exact (by repeat (first | with_reducible exact Below.refl _ _ | assumption | with_reducible refine bel_alloc ?_ _ | with_reducible refine Below.drew ?_ | with_reducible refine bel_drewN ?_ _ | with_reducible refine bel_set ?_ (by go_light; first | (simp; done) | (simp; omega) | omega) _ | refine bel_trans ?_ (by assumption))))
                clear hb
                go_wp2_with fail
                refine (rgood_to 1 vn 0 _ HGD.out).mono ?_
                rintro e z66 ⟨rfl, hb⟩
                replace A0 : z66.cell? ⟨w.heap.size, 0, none⟩ = some (.int .i64 ak) := keep_cell hb (by go_simp)
                replace A1 : z66.cell? ⟨w.heap.size, 1, none⟩ = some (.int .i64 an) := keep_cell hb (by go_simp)
                replace A2 : z66.cell? ⟨w.heap.size, 2, none⟩ = some (.int .i64 ab) := keep_cell hb (by go_simp)
                replace AL : w.heap.size < z66.heap.size := block_lt_of_cell A0
                replace V0 : z66.cell? ⟨w.heap.size + 1, 0, none⟩ = some (.int .i64 1) := keep_cell hb (by go_simp)
                replace V1 : z66.cell? ⟨w.heap.size + 1, 1, none⟩ = some (.int .i64 vn) := keep_cell hb (by go_simp)
                replace V2 : z66.cell? ⟨w.heap.size + 1, 2, none⟩ = some (.int .i64 0) := keep_cell hb (by go_simp)
                replace VL : w.heap.size + 1 < z66.heap.size := block_lt_of_cell V0
                replace O0 : z66.cell? ⟨w.heap.size + 1 + 1, 0, none⟩ = some (.int .i64 qk) := keep_cell hb (by go_simp)
                replace O1 : z66.cell? ⟨w.heap.size + 1 + 1, 1, none⟩ = some (.int .i64 qn) := keep_cell hb (by go_simp)
                replace O2 : z66.cell? ⟨w.heap.size + 1 + 1, 2, none⟩ = some (.int .i64 qb) := keep_cell hb (by go_simp)
                replace OL : w.heap.size + 1 + 1 < z66.heap.size := block_lt_of_cell O0
                replace X0 : z66.cell? ⟨z61.heap.size, 0, none⟩ = some (.int .i64 xk) := keep_cell hb (by go_simp)
                replace X1 : z66.cell? ⟨z61.heap.size, 1, none⟩ = some (.int .i64 xn) := keep_cell hb (by go_simp)
                replace X2 : z66.cell? ⟨z61.heap.size, 2, none⟩ = some (.int .i64 xb) := keep_cell hb (by go_simp)
                replace XL : z61.heap.size < z66.heap.size := block_lt_of_cell X0
                replace Y0 : z66.cell? ⟨z63.heap.size, 0, none⟩ = some (.int .i64 yk) := keep_cell hb (by go_simp)
                replace Y1 : z66.cell? ⟨z63.heap.size, 1, none⟩ = some (.int .i64 yn) := keep_cell hb (by go_simp)
                replace Y2 : z66.cell? ⟨z63.heap.size, 2, none⟩ = some (.int .i64 yb) := keep_cell hb (by go_simp)
                replace YL : z63.heap.size < z66.heap.size := block_lt_of_cell Y0
                replace G0 : z66.cell? ⟨z64.heap.size, 0, none⟩ = some (.int .i64 1) := keep_cell hb (by go_simp)
                replace G1 : z66.cell? ⟨z64.heap.size, 1, none⟩ = some (.int .i64 (wrap64 (IntKind.i8.wrap vn))) := keep_cell hb (by go_simp)
                replace G2 : z66.cell? ⟨z64.heap.size, 2, none⟩ = some (.int .i64 0) := keep_cell hb (by go_simp)
                replace GL : z64.heap.size < z66.heap.size := block_lt_of_cell G0
                replace HMm : Hid (Mem z66 w.heap.size P2 R62 M2) := Mem.below HMm.out (by repeat (first | with_reducible exact Below.refl _ _ | assumption | with_reducible refine bel_alloc ?_ _ | with_reducible refine Below.drew ?_ | with_reducible refine bel_drewN ?_ _ | with_reducible refine bel_set ?_ (by go_light; first | (simp; done) | (simp; omega) | omega) _ | refine bel_trans ?_ (by assumption)))
                replace HB : Hid (Below w.heap.size w z66) := (by have hB0 := HB.out; exact (by repeat (first | with_reducible exact Below.refl _ _ | assumption | with_reducible refine bel_alloc ?_ _ | with_reducible refine Below.drew ?_ | with_reducible refine bel_drewN ?_ _ | with_reducible refine bel_set ?_ (by go_light; first | (simp; done) | (simp; omega) | omega) _ | refine bel_trans ?_ (by assumption))))
                clear hb
                go_wp2_with fail
                refine (rgood_to 1 vn 0 _ HGD.out).mono ?_
                rintro e z67 ⟨rfl, hb⟩
                replace A0 : z67.cell? ⟨w.heap.size, 0, none⟩ = some (.int .i64 ak) := keep_cell hb (by go_simp)
                replace A1 : z67.cell? ⟨w.heap.size, 1, none⟩ = some (.int .i64 an) := keep_cell hb (by go_simp)
                replace A2 : z67.cell? ⟨w.heap.size, 2, none⟩ = some (.int .i64 ab) := keep_cell hb (by go_simp)
                replace AL : w.heap.size < z67.heap.size := block_lt_of_cell A0
                replace V0 : z67.cell? ⟨w.heap.size + 1, 0, none⟩ = some (.int .i64 1) := keep_cell hb (by go_simp)
                replace V1 : z67.cell? ⟨w.heap.size + 1, 1, none⟩ = some (.int .i64 vn) := keep_cell hb (by go_simp)
                replace V2 : z67.cell? ⟨w.heap.size + 1, 2, none⟩ = some (.int .i64 0) := keep_cell hb (by go_simp)
                replace VL : w.heap.size + 1 < z67.heap.size := block_lt_of_cell V0
                replace O0 : z67.cell? ⟨w.heap.size + 1 + 1, 0, none⟩ = some (.int .i64 qk) := keep_cell hb (by go_simp)
                replace O1 : z67.cell? ⟨w.heap.size + 1 + 1, 1, none⟩ = some (.int .i64 qn) := keep_cell hb (by go_simp)
                replace O2 : z67.cell? ⟨w.heap.size + 1 + 1, 2, none⟩ = some (.int .i64 qb) := keep_cell hb (by go_simp)
                replace OL : w.heap.size + 1 + 1 < z67.heap.size := block_lt_of_cell O0
                replace X0 : z67.cell? ⟨z61.heap.size, 0, none⟩ = some (.int .i64 xk) := keep_cell hb (by go_simp)
                replace X1 : z67.cell? ⟨z61.heap.size, 1, none⟩ = some (.int .i64 xn) := keep_cell hb (by go_simp)
                replace X2 : z67.cell? ⟨z61.heap.size, 2, none⟩ = some (.int .i64 xb) := keep_cell hb (by go_simp)
                replace XL : z61.heap.size < z67.heap.size := block_lt_of_cell X0
                replace Y0 : z67.cell? ⟨z63.heap.size, 0, none⟩ = some (.int .i64 yk) := keep_cell hb (by go_simp)
                replace Y1 : z67.cell? ⟨z63.heap.size, 1, none⟩ = some (.int .i64 yn) := keep_cell hb (by go_simp)
                replace Y2 : z67.cell? ⟨z63.heap.size, 2, none⟩ = some (.int .i64 yb) := keep_cell hb (by go_simp)
                replace YL : z63.heap.size < z67.heap.size := block_lt_of_cell Y0
                replace G0 : z67.cell? ⟨z64.heap.size, 0, none⟩ = some (.int .i64 1) := keep_cell hb (by go_simp)
                replace G1 : z67.cell? ⟨z64.heap.size, 1, none⟩ = some (.int .i64 (wrap64 (IntKind.i8.wrap vn))) := keep_cell hb (by go_simp)
                replace G2 : z67.cell? ⟨z64.heap.size, 2, none⟩ = some (.int .i64 0) := keep_cell hb (by go_simp)
                replace GL : z64.heap.size < z67.heap.size := block_lt_of_cell G0
                replace HMm : Hid (Mem z67 w.heap.size P2 R62 M2) := Mem.below HMm.out (by repeat (first | with_reducible exact Below.refl _ _ | assumption | with_reducible refine bel_alloc ?_ _ | with_reducible refine Below.drew ?_ | with_reducible refine bel_drewN ?_ _ | with_reducible refine bel_set ?_ (by go_light; first | (simp; done) | (simp; omega) | omega) _ | refine bel_trans ?_ (by assumption)))
                replace HB : Hid (Below w.heap.size w z67) := (by have hB0 := HB.out; exact (by repeat (first | with_reducible exact Below.refl _ _ | assumption | with_reducible refine bel_alloc ?_ _ | with_reducible refine Below.drew ?_ | with_reducible refine bel_drewN ?_ _ | with_reducible refine bel_set ?_ (by go_light; first | (simp; done) | (simp; omega) | omega) _ | refine bel_trans ?_ (by assumption))))
                clear hb
                go_wp2_with fail
                go_region_held3 (fun w' => (w'.cell? ⟨z64.heap.size, 0, none⟩ = some (.int .i64 1) ∧ w'.cell? ⟨z64.heap.size, 1, none⟩ = some (.int .i64 (wrap64 (IntKind.i8.wrap vn))) ∧ w'.cell? ⟨z64.heap.size, 2, none⟩ = some (.int .i64 0)) ∧ w'.cell? ⟨w.heap.size + 1, 1, none⟩ = some (.int .i64 vn))
                  (first | with_reducible exact s4_call hb (by assumption) | ((go_simp; done)))
                  (first
                    | (go_at_call 33; refine (ext8_any _ _).mono ?_; rintro e w' ⟨rfl, hw'⟩; replace hw' := hw'.symm; subst hw')
                    | (go_at_call 32; refine (rof_to _ _).mono ?_; rintro e wy ⟨rfl, hb⟩))
                all_goals
                  go_wp2
                  go_ret
                  exact ⟨by simp, by have hB0 := HB.out; exact (by repeat (first | with_reducible exact Below.refl _ _ | assumption | with_reducible refine bel_alloc ?_ _ | with_reducible refine Below.drew ?_ | with_reducible refine bel_drewN ?_ _ | with_reducible refine bel_set ?_ (by go_light; first | (simp; done) | (simp; omega) | omega) _ | refine bel_trans ?_ (by assumption)))⟩
              · subst hc
                clear HBND HBAD hgd
                have HG : Hid (loadM M2 4 ⟨ak, an, ab⟩ = (⟨1, (wrap64 (wrap32 vn)), 0⟩, true)) := by show _ = _; simpa [numF, ofF] using hss
                clear hss hbx
                go_wp2_with fail
                refine (load_to (Mem.below HMm.out (by repeat (first | with_reducible exact Below.refl _ _ | assumption | with_reducible refine bel_alloc ?_ _ | with_reducible refine Below.drew ?_ | with_reducible refine bel_drewN ?_ _ | with_reducible refine bel_set ?_ (by go_light; first | (simp; done) | (simp; omega) | omega) _ | refine bel_trans ?_ (by assumption)))) 4 ak an ab HG.out).mono ?_
                rintro e z64 ⟨rfl, hb⟩
                replace A0 : z64.cell? ⟨w.heap.size, 0, none⟩ = some (.int .i64 ak) := keep_cell hb (by go_simp)
                replace A1 : z64.cell? ⟨w.heap.size, 1, none⟩ = some (.int .i64 an) := keep_cell hb (by go_simp)
                replace A2 : z64.cell? ⟨w.heap.size, 2, none⟩ = some (.int .i64 ab) := keep_cell hb (by go_simp)
                replace AL : w.heap.size < z64.heap.size := block_lt_of_cell A0
                replace V0 : z64.cell? ⟨w.heap.size + 1, 0, none⟩ = some (.int .i64 1) := keep_cell hb (by go_simp)
                replace V1 : z64.cell? ⟨w.heap.size + 1, 1, none⟩ = some (.int .i64 vn) := keep_cell hb (by go_simp)
                replace V2 : z64.cell? ⟨w.heap.size + 1, 2, none⟩ = some (.int .i64 0) := keep_cell hb (by go_simp)
                replace VL : w.heap.size + 1 < z64.heap.size := block_lt_of_cell V0
                replace O0 : z64.cell? ⟨w.heap.size + 1 + 1, 0, none⟩ = some (.int .i64 qk) := keep_cell hb (by go_simp)
                replace O1 : z64.cell? ⟨w.heap.size + 1 + 1, 1, none⟩ = some (.int .i64 qn) := keep_cell hb (by go_simp)
                replace O2 : z64.cell? ⟨w.heap.size + 1 + 1, 2, none⟩ = some (.int .i64 qb) := keep_cell hb (by go_simp)
                replace OL : w.heap.size + 1 + 1 < z64.heap.size := block_lt_of_cell O0
                replace X0 : z64.cell? ⟨z61.heap.size, 0, none⟩ = some (.int .i64 xk) := keep_cell hb (by go_simp)
                replace X1 : z64.cell? ⟨z61.heap.size, 1, none⟩ = some (.int .i64 xn) := keep_cell hb (by go_simp)
                replace X2 : z64.cell? ⟨z61.heap.size, 2, none⟩ = some (.int .i64 xb) := keep_cell hb (by go_simp)
                replace XL : z61.heap.size < z64.heap.size := block_lt_of_cell X0
                have Y0 : z64.cell? ⟨z63.heap.size, 0, none⟩ = some (.int .i64 yk) := keep_cell hb (by go_simp)
                have Y1 : z64.cell? ⟨z63.heap.size, 1, none⟩ = some (.int .i64 yn) := keep_cell hb (by go_simp)
                have Y2 : z64.cell? ⟨z63.heap.size, 2, none⟩ = some (.int .i64 yb) := keep_cell hb (by go_simp)
                have YL : z63.heap.size < z64.heap.size := block_lt_of_cell Y0
                replace HMm : Hid (Mem z64 w.heap.size P2 R62 M2) := Mem.below HMm.out (by repeat (first | with_reducible exact Below.refl _ _ | assumption | with_reducible refine bel_alloc ?_ _ | with_reducible refine Below.drew ?_ | with_reducible refine bel_drewN ?_ _ | with_reducible refine bel_set ?_ (by go_light; first | (simp; done) | (simp; omega) | omega) _ | refine bel_trans ?_ (by assumption)))
                replace HB : Hid (Below w.heap.size w z64) := (by have hB0 := HB.out; exact (by repeat (first | with_reducible exact Below.refl _ _ | assumption | with_reducible refine bel_alloc ?_ _ | with_reducible refine Below.drew ?_ | with_reducible refine bel_drewN ?_ _ | with_reducible refine bel_set ?_ (by go_light; first | (simp; done) | (simp; omega) | omega) _ | refine bel_trans ?_ (by assumption))))
                clear hb
                have GRm : R62 (z64.heap.size) = none := Mem.fresh HMm.out (by omega)
                go_wp2_with fail
                refine (rgood_to 1 vn 0 _ HGD.out).mono ?_
                rintro e z65 ⟨rfl, hb⟩
                replace A0 : z65.cell? ⟨w.heap.size, 0, none⟩ = some (.int .i64 ak) := keep_cell hb (by go_simp)
                replace A1 : z65.cell? ⟨w.heap.size, 1, none⟩ = some (.int .i64 an) := keep_cell hb (by go_simp)
                replace A2 : z65.cell? ⟨w.heap.size, 2, none⟩ = some (.int .i64 ab) := keep_cell hb (by go_simp)
                replace AL : w.heap.size < z65.heap.size := block_lt_of_cell A0
                replace V0 : z65.cell? ⟨w.heap.size + 1, 0, none⟩ = some (.int .i64 1) := keep_cell hb (by go_simp)
                replace V1 : z65.cell? ⟨w.heap.size + 1, 1, none⟩ = some (.int .i64 vn) := keep_cell hb (by go_simp)
                replace V2 : z65.cell? ⟨w.heap.size + 1, 2, none⟩ = some (.int .i64 0) := keep_cell hb (by go_simp)
                replace VL : w.heap.size + 1 < z65.heap.size := block_lt_of_cell V0
                replace O0 : z65.cell? ⟨w.heap.size + 1 + 1, 0, none⟩ = some (.int .i64 qk) := keep_cell hb (by go_simp)
                replace O1 : z65.cell? ⟨w.heap.size + 1 + 1, 1, none⟩ = some (.int .i64 qn) := keep_cell hb (by go_simp)
                replace O2 : z65.cell? ⟨w.heap.size + 1 + 1, 2, none⟩ = some (.int .i64 qb) := keep_cell hb (by go_simp)
                replace OL : w.heap.size + 1 + 1 < z65.heap.size := block_lt_of_cell O0
                replace X0 : z65.cell? ⟨z61.heap.size, 0, none⟩ = some (.int .i64 xk) := keep_cell hb (by go_simp)
                replace X1 : z65.cell? ⟨z61.heap.size, 1, none⟩ = some (.int .i64 xn) := keep_cell hb (by go_simp)
                replace X2 : z65.cell? ⟨z61.heap.size, 2, none⟩ = some (.int .i64 xb) := keep_cell hb (by go_simp)
                replace XL : z61.heap.size < z65.heap.size := block_lt_of_cell X0
                replace Y0 : z65.cell? ⟨z63.heap.size, 0, none⟩ = some (.int .i64 yk) := keep_cell hb (by go_simp)
                replace Y1 : z65.cell? ⟨z63.heap.size, 1, none⟩ = some (.int .i64 yn) := keep_cell hb (by go_simp)
                replace Y2 : z65.cell? ⟨z63.heap.size, 2, none⟩ = some (.int .i64 yb) := keep_cell hb (by go_simp)
                replace YL : z63.heap.size < z65.heap.size := block_lt_of_cell Y0
                have G0 : z65.cell? ⟨z64.heap.size, 0, none⟩ = some (.int .i64 1) := keep_cell hb (by go_simp)
                have G1 : z65.cell? ⟨z64.heap.size, 1, none⟩ = some (.int .i64 (wrap64 (wrap32 vn))) := keep_cell hb (by go_simp)
                have G2 : z65.cell? ⟨z64.heap.size, 2, none⟩ = some (.int .i64 0) := keep_cell hb (by go_simp)
                have GL : z64.heap.size < z65.heap.size := block_lt_of_cell G0
                replace HMm : Hid (Mem z65 w.heap.size P2 R62 M2) := Mem.below HMm.out (by repeat (first | with_reducible exact Below.refl _ _ | assumption | with_reducible refine bel_alloc ?_ _ | with_reducible refine Below.drew ?_ | with_reducible refine bel_drewN ?_ _ | with_reducible refine bel_set ?_ (by go_light; first | (simp; done) | (simp; omega) | omega) _ | refine bel_trans ?_ (by assumption)))
                replace HB : Hid (Below w.heap.size w z65) := (by have hB0 := HB.out; exact (by repeat (first | with_reducible exact Below.refl _ _ | assumption | with_reducible refine bel_alloc ?_ _ | with_reducible refine Below.drew ?_ | with_reducible refine bel_drewN ?_ _ | with_reducible refine bel_set ?_ (by go_light; first | (simp; done) | (simp; omega) | omega) _ | refine bel_trans ?_ (by assumption))))
                clear hb
                go_wp2_with fail
                refine (rgood_to 1 vn 0 _ HGD.out).mono ?_
                rintro e z66 ⟨rfl, hb⟩
                replace A0 : z66.cell? ⟨w.heap.size, 0, none⟩ = some (.int .i64 ak) := keep_cell hb (by go_simp)
                replace A1 : z66.cell? ⟨w.heap.size, 1, none⟩ = some (.int .i64 an) := keep_cell hb (by go_simp)
                replace A2 : z66.cell? ⟨w.heap.size, 2, none⟩ = some (.int .i64 ab) := keep_cell hb (by go_simp)
                replace AL : w.heap.size < z66.heap.size := block_lt_of_cell A0
                replace V0 : z66.cell? ⟨w.heap.size + 1, 0, none⟩ = some (.int .i64 1) := keep_cell hb (by go_simp)
                replace V1 : z66.cell? ⟨w.heap.size + 1, 1, none⟩ = some (.int .i64 vn) := keep_cell hb (by go_simp)
                replace V2 : z66.cell? ⟨w.heap.size + 1, 2, none⟩ = some (.int .i64 0) := keep_cell hb (by go_simp)
                replace VL : w.heap.size + 1 < z66.heap.size := block_lt_of_cell V0
                replace O0 : z66.cell? ⟨w.heap.size + 1 + 1, 0, none⟩ = some (.int .i64 qk) := keep_cell hb (by go_simp)
                replace O1 : z66.cell? ⟨w.heap.size + 1 + 1, 1, none⟩ = some (.int .i64 qn) := keep_cell hb (by go_simp)
                replace O2 : z66.cell? ⟨w.heap.size + 1 + 1, 2, none⟩ = some (.int .i64 qb) := keep_cell hb (by go_simp)
                replace OL : w.heap.size + 1 + 1 < z66.heap.size := block_lt_of_cell O0
                replace X0 : z66.cell? ⟨z61.heap.size, 0, none⟩ = some (.int .i64 xk) := keep_cell hb (by go_simp)
                replace X1 : z66.cell? ⟨z61.heap.size, 1, none⟩ = some (.int .i64 xn) := keep_cell hb (by go_simp)
                replace X2 : z66.cell? ⟨z61.heap.size, 2, none⟩ = some (.int .i64 xb) := keep_cell hb (by go_simp)
                replace XL : z61.heap.size < z66.heap.size := block_lt_of_cell X0
                replace Y0 : z66.cell? ⟨z63.heap.size, 0, none⟩ = some (.int .i64 yk) := keep_cell hb (by go_simp)
                replace Y1 : z66.cell? ⟨z63.heap.size, 1, none⟩ = some (.int .i64 yn) := keep_cell hb (by go_simp)
                replace Y2 : z66.cell? ⟨z63.heap.size, 2, none⟩ = some (.int .i64 yb) := keep_cell hb (by go_simp)
                replace YL : z63.heap.size < z66.heap.size := block_lt_of_cell Y0
                replace G0 : z66.cell? ⟨z64.heap.size, 0, none⟩ = some (.int .i64 1) := keep_cell hb (by go_simp)
                replace G1 : z66.cell? ⟨z64.heap.size, 1, none⟩ = some (.int .i64 (wrap64 (wrap32 vn))) := keep_cell hb (by go_simp)
                replace G2 : z66.cell? ⟨z64.heap.size, 2, none⟩ = some (.int .i64 0) := keep_cell hb (by go_simp)
                replace GL : z64.heap.size < z66.heap.size := block_lt_of_cell G0
                replace HMm : Hid (Mem z66 w.heap.size P2 R62 M2) := Mem.below HMm.out (by repeat (first | with_reducible exact Below.refl _ _ | assumption | with_reducible refine bel_alloc ?_ _ | with_reducible refine Below.drew ?_ | with_reducible refine bel_drewN ?_ _ | with_reducible refine bel_set ?_ (by go_light; first | (simp; done) | (simp; omega) | omega) _ | refine bel_trans ?_ (by assumption)))
                replace HB : Hid (Below w.heap.size w z66) := (by have hB0 := HB.out; exact (by repeat (first | with_reducible exact Below.refl _ _ | assumption | with_reducible refine bel_alloc ?_ _ | with_reducible refine Below.drew ?_ | with_reducible refine bel_drewN ?_ _ | with_reducible refine bel_set ?_ (by go_light; first | (simp; done) | (simp; omega) | omega) _ | refine bel_trans ?_ (by assumption))))
                clear hb
                go_wp2_with fail
                refine (rgood_to 1 vn 0 _ HGD.out).mono ?_
                rintro e z67 ⟨rfl, hb⟩
                replace A0 : z67.cell? ⟨w.heap.size, 0, none⟩ = some (.int .i64 ak) := keep_cell hb (by go_simp)
                replace A1 : z67.cell? ⟨w.heap.size, 1, none⟩ = some (.int .i64 an) := keep_cell hb (by go_simp)
                replace A2 : z67.cell? ⟨w.heap.size, 2, none⟩ = some (.int .i64 ab) := keep_cell hb (by go_simp)
                replace AL : w.heap.size < z67.heap.size := block_lt_of_cell A0
                replace V0 : z67.cell? ⟨w.heap.size + 1, 0, none⟩ = some (.int .i64 1) := keep_cell hb (by go_simp)
                replace V1 : z67.cell? ⟨w.heap.size + 1, 1, none⟩ = some (.int .i64 vn) := keep_cell hb (by go_simp)
                replace V2 : z67.cell? ⟨w.heap.size + 1, 2, none⟩ = some (.int .i64 0) := keep_cell hb (by go_simp)
                replace VL : w.heap.size + 1 < z67.heap.size := block_lt_of_cell V0
                replace O0 : z67.cell? ⟨w.heap.size + 1 + 1, 0, none⟩ = some (.int .i64 qk) := keep_cell hb (by go_simp)
                replace O1 : z67.cell? ⟨w.heap.size + 1 + 1, 1, none⟩ = some (.int .i64 qn) := keep_cell hb (by go_simp)
                replace O2 : z67.cell? ⟨w.heap.size + 1 + 1, 2, none⟩ = some (.int .i64 qb) := keep_cell hb (by go_simp)
                replace OL : w.heap.size + 1 + 1 < z67.heap.size := block_lt_of_cell O0
                replace X0 : z67.cell? ⟨z61.heap.size, 0, none⟩ = some (.int .i64 xk) := keep_cell hb (by go_simp)
                replace X1 : z67.cell? ⟨z61.heap.size, 1, none⟩ = some (.int .i64 xn) := keep_cell hb (by go_simp)
                replace X2 : z67.cell? ⟨z61.heap.size, 2, none⟩ = some (.int .i64 xb) := keep_cell hb (by go_simp)
                replace XL : z61.heap.size < z67.heap.size := block_lt_of_cell X0
                replace Y0 : z67.cell? ⟨z63.heap.size, 0, none⟩ = some (.int .i64 yk) := keep_cell hb (by go_simp)
                replace Y1 : z67.cell? ⟨z63.heap.size, 1, none⟩ = some (.int .i64 yn) := keep_cell hb (by go_simp)
                replace Y2 : z67.cell? ⟨z63.heap.size, 2, none⟩ = some (.int .i64 yb) := keep_cell hb (by go_simp)
                replace YL : z63.heap.size < z67.heap.size := block_lt_of_cell Y0
                replace G0 : z67.cell? ⟨z64.heap.size, 0, none⟩ = some (.int .i64 1) := keep_cell hb (by go_simp)
                replace G1 : z67.cell? ⟨z64.heap.size, 1, none⟩ = some (.int .i64 (wrap64 (wrap32 vn))) := keep_cell hb (by go_simp)
                replace G2 : z67.cell? ⟨z64.heap.size, 2, none⟩ = some (.int .i64 0) := keep_cell hb (by go_simp)
                replace GL : z64.heap.size < z67.heap.size := block_lt_of_cell G0
                replace HMm : Hid (Mem z67 w.heap.size P2 R62 M2) := Mem.below HMm.out (by repeat (first | with_reducible exact Below.refl _ _ | assumption | with_reducible refine bel_alloc ?_ _ | with_reducible refine Below.drew ?_ | with_reducible refine bel_drewN ?_ _ | with_reducible refine bel_set ?_ (by go_light; first | (simp; done) | (simp; omega) | omega) _ | refine bel_trans ?_ (by assumption)))
                replace HB : Hid (Below w.heap.size w z67) := (by have hB0 := HB.out; exact (by repeat (first | with_reducible exact Below.refl _ _ | assumption | with_reducible refine bel_alloc ?_ _ | with_reducible refine Below.drew ?_ | with_reducible refine bel_drewN ?_ _ | with_reducible refine bel_set ?_ (by go_light; first | (simp; done) | (simp; omega) | omega) _ | refine bel_trans ?_ (by assumption))))
                clear hb
                go_wp2_with fail
                go_region_held3 (fun w' => (w'.cell? ⟨z64.heap.size, 0, none⟩ = some (.int .i64 1) ∧ w'.cell? ⟨z64.heap.size, 1, none⟩ = some (.int .i64 (wrap64 (wrap32 vn))) ∧ w'.cell? ⟨z64.heap.size, 2, none⟩ = some (.int .i64 0)) ∧ w'.cell? ⟨w.heap.size + 1, 1, none⟩ = some (.int .i64 vn))
                  (first | with_reducible exact s4_call hb (by assumption) | ((go_simp; done)))
                  (first
                    | (go_at_call 33; refine (ext32_any _ _).mono ?_; rintro e w' ⟨rfl, hw'⟩; replace hw' := hw'.symm; subst hw')
                    | (go_at_call 32; refine (rof_to _ _).mono ?_; rintro e wy ⟨rfl, hb⟩))
                all_goals
                  go_wp2
                  go_ret
                  exact ⟨by simp, by have hB0 := HB.out; exact (by repeat (first | with_reducible exact Below.refl _ _ | assumption | with_reducible refine bel_alloc ?_ _ | with_reducible refine Below.drew ?_ | with_reducible refine bel_drewN ?_ _ | with_reducible refine bel_set ?_ (by go_light; first | (simp; done) | (simp; omega) | omega) _ | refine bel_trans ?_ (by assumption)))⟩
              · subst hc
                clear HBND HBAD hgd
                have ew : wrap64 vn = vn := by unfold wrap64; omega
                have HG : Hid (loadM M2 8 ⟨ak, an, ab⟩ = (⟨1, vn, 0⟩, true)) := by show _ = _; simpa [numF, ofF, ew] using hss
                clear hss ew hbx
                go_wp2_with fail
                refine (load_to (Mem.below HMm.out (by repeat (first | with_reducible exact Below.refl _ _ | assumption | with_reducible refine bel_alloc ?_ _ | with_reducible refine Below.drew ?_ | with_reducible refine bel_drewN ?_ _ | with_reducible refine bel_set ?_ (by go_light; first | (simp; done) | (simp; omega) | omega) _ | refine bel_trans ?_ (by assumption)))) 8 ak an ab HG.out).mono ?_
                rintro e z64 ⟨rfl, hb⟩
                replace A0 : z64.cell? ⟨w.heap.size, 0, none⟩ = some (.int .i64 ak) := keep_cell hb (by go_simp)
                replace A1 : z64.cell? ⟨w.heap.size, 1, none⟩ = some (.int .i64 an) := keep_cell hb (by go_simp)
                replace A2 : z64.cell? ⟨w.heap.size, 2, none⟩ = some (.int .i64 ab) := keep_cell hb (by go_simp)
                replace AL : w.heap.size < z64.heap.size := block_lt_of_cell A0
                replace V0 : z64.cell? ⟨w.heap.size + 1, 0, none⟩ = some (.int .i64 1) := keep_cell hb (by go_simp)
                replace V1 : z64.cell? ⟨w.heap.size + 1, 1, none⟩ = some (.int .i64 vn) := keep_cell hb (by go_simp)
                replace V2 : z64.cell? ⟨w.heap.size + 1, 2, none⟩ = some (.int .i64 0) := keep_cell hb (by go_simp)
                replace VL : w.heap.size + 1 < z64.heap.size := block_lt_of_cell V0
                replace O0 : z64.cell? ⟨w.heap.size + 1 + 1, 0, none⟩ = some (.int .i64 qk) := keep_cell hb (by go_simp)
                replace O1 : z64.cell? ⟨w.heap.size + 1 + 1, 1, none⟩ = some (.int .i64 qn) := keep_cell hb (by go_simp)
                replace O2 : z64.cell? ⟨w.heap.size + 1 + 1, 2, none⟩ = some (.int .i64 qb) := keep_cell hb (by go_simp)
                replace OL : w.heap.size + 1 + 1 < z64.heap.size := block_lt_of_cell O0
                replace X0 : z64.cell? ⟨z61.heap.size, 0, none⟩ = some (.int .i64 xk) := keep_cell hb (by go_simp)
                replace X1 : z64.cell? ⟨z61.heap.size, 1, none⟩ = some (.int .i64 xn) := keep_cell hb (by go_simp)
                replace X2 : z64.cell? ⟨z61.heap.size, 2, none⟩ = some (.int .i64 xb) := keep_cell hb (by go_simp)
                replace XL : z61.heap.size < z64.heap.size := block_lt_of_cell X0
                have Y0 : z64.cell? ⟨z63.heap.size, 0, none⟩ = some (.int .i64 yk) := keep_cell hb (by go_simp)
                have Y1 : z64.cell? ⟨z63.heap.size, 1, none⟩ = some (.int .i64 yn) := keep_cell hb (by go_simp)
                have Y2 : z64.cell? ⟨z63.heap.size, 2, none⟩ = some (.int .i64 yb) := keep_cell hb (by go_simp)
                have YL : z63.heap.size < z64.heap.size := block_lt_of_cell Y0
                replace HMm : Hid (Mem z64 w.heap.size P2 R62 M2) := Mem.below HMm.out (by repeat (first | with_reducible exact Below.refl _ _ | assumption | with_reducible refine bel_alloc ?_ _ | with_reducible refine Below.drew ?_ | with_reducible refine bel_drewN ?_ _ | with_reducible refine bel_set ?_ (by go_light; first | (simp; done) | (simp; omega) | omega) _ | refine bel_trans ?_ (by assumption)))
                replace HB : Hid (Below w.heap.size w z64) := (by have hB0 := HB.out; exact (by repeat (first | with_reducible exact Below.refl _ _ | assumption | with_reducible refine bel_alloc ?_ _ | with_reducible refine Below.drew ?_ | with_reducible refine bel_drewN ?_ _ | with_reducible refine bel_set ?_ (by go_light; first | (simp; done) | (simp; omega) | omega) _ | refine bel_trans ?_ (by assumption))))
                clear hb
                have GRm : R62 (z64.heap.size) = none := Mem.fresh HMm.out (by omega)
                go_wp2_with fail
                refine (rgood_to 1 vn 0 _ HGD.out).mono ?_
                rintro e z65 ⟨rfl, hb⟩
                replace A0 : z65.cell? ⟨w.heap.size, 0, none⟩ = some (.int .i64 ak) := keep_cell hb (by go_simp)
                replace A1 : z65.cell? ⟨w.heap.size, 1, none⟩ = some (.int .i64 an) := keep_cell hb (by go_simp)
                replace A2 : z65.cell? ⟨w.heap.size, 2, none⟩ = some (.int .i64 ab) := keep_cell hb (by go_simp)
                replace AL : w.heap.size < z65.heap.size := block_lt_of_cell A0
                replace V0 : z65.cell? ⟨w.heap.size + 1, 0, none⟩ = some (.int .i64 1) := keep_cell hb (by go_simp)
                replace V1 : z65.cell? ⟨w.heap.size + 1, 1, none⟩ = some (.int .i64 vn) := keep_cell hb (by go_simp)
                replace V2 : z65.cell? ⟨w.heap.size + 1, 2, none⟩ = some (.int .i64 0) := keep_cell hb (by go_simp)
                replace VL : w.heap.size + 1 < z65.heap.size := block_lt_of_cell V0
                replace O0 : z65.cell? ⟨w.heap.size + 1 + 1, 0, none⟩ = some (.int .i64 qk) := keep_cell hb (by go_simp)
                replace O1 : z65.cell? ⟨w.heap.size + 1 + 1, 1, none⟩ = some (.int .i64 qn) := keep_cell hb (by go_simp)
                replace O2 : z65.cell? ⟨w.heap.size + 1 + 1, 2, none⟩ = some (.int .i64 qb) := keep_cell hb (by go_simp)
                replace OL : w.heap.size + 1 + 1 < z65.heap.size := block_lt_of_cell O0
                replace X0 : z65.cell? ⟨z61.heap.size, 0, none⟩ = some (.int .i64 xk) := keep_cell hb (by go_simp)
                replace X1 : z65.cell? ⟨z61.heap.size, 1, none⟩ = some (.int .i64 xn) := keep_cell hb (by go_simp)
                replace X2 : z65.cell? ⟨z61.heap.size, 2, none⟩ = some (.int .i64 xb) := keep_cell hb (by go_simp)
                replace XL : z61.heap.size < z65.heap.size := block_lt_of_cell X0
                replace Y0 : z65.cell? ⟨z63.heap.size, 0, none⟩ = some (.int .i64 yk) := keep_cell hb (by go_simp)
                replace Y1 : z65.cell? ⟨z63.heap.size, 1, none⟩ = some (.int .i64 yn) := keep_cell hb (by go_simp)
                replace Y2 : z65.cell? ⟨z63.heap.size, 2, none⟩ = some (.int .i64 yb) := keep_cell hb (by go_simp)
                replace YL : z63.heap.size < z65.heap.size := block_lt_of_cell Y0
                have G0 : z65.cell? ⟨z64.heap.size, 0, none⟩ = some (.int .i64 1) := keep_cell hb (by go_simp)
                have G1 : z65.cell? ⟨z64.heap.size, 1, none⟩ = some (.int .i64 vn) := keep_cell hb (by go_simp)
                have G2 : z65.cell? ⟨z64.heap.size, 2, none⟩ = some (.int .i64 0) := keep_cell hb (by go_simp)
                have GL : z64.heap.size < z65.heap.size := block_lt_of_cell G0
                replace HMm : Hid (Mem z65 w.heap.size P2 R62 M2) := Mem.below HMm.out (by repeat (first | with_reducible exact Below.refl _ _ | assumption | with_reducible refine bel_alloc ?_ _ | with_reducible refine Below.drew ?_ | with_reducible refine bel_drewN ?_ _ | with_reducible refine bel_set ?_ (by go_light; first | (simp; done) | (simp; omega) | omega) _ | refine bel_trans ?_ (by assumption)))
                replace HB : Hid (Below w.heap.size w z65) := (by have hB0 := HB.out; exact (by repeat (first | with_reducible exact Below.refl _ _ | assumption | with_reducible refine bel_alloc ?_ _ | with_reducible refine Below.drew ?_ | with_reducible refine bel_drewN ?_ _ | with_reducible refine bel_set ?_ (by go_light; first | (simp; done) | (simp; omega) | omega) _ | refine bel_trans ?_ (by assumption))))
                clear hb
                go_wp2_with fail
                refine (rgood_to 1 vn 0 _ HGD.out).mono ?_
                rintro e z66 ⟨rfl, hb⟩
                replace A0 : z66.cell? ⟨w.heap.size, 0, none⟩ = some (.int .i64 ak) := keep_cell hb (by go_simp)
                replace A1 : z66.cell? ⟨w.heap.size, 1, none⟩ = some (.int .i64 an) := keep_cell hb (by go_simp)
                replace A2 : z66.cell? ⟨w.heap.size, 2, none⟩ = some (.int .i64 ab) := keep_cell hb (by go_simp)
                replace AL : w.heap.size < z66.heap.size := block_lt_of_cell A0
                replace V0 : z66.cell? ⟨w.heap.size + 1, 0, none⟩ = some (.int .i64 1) := keep_cell hb (by go_simp)
                replace V1 : z66.cell? ⟨w.heap.size + 1, 1, none⟩ = some (.int .i64 vn) := keep_cell hb (by go_simp)
                replace V2 : z66.cell? ⟨w.heap.size + 1, 2, none⟩ = some (.int .i64 0) := keep_cell hb (by go_simp)
                replace VL : w.heap.size + 1 < z66.heap.size := block_lt_of_cell V0
                replace O0 : z66.cell? ⟨w.heap.size + 1 + 1, 0, none⟩ = some (.int .i64 qk) := keep_cell hb (by go_simp)
                replace O1 : z66.cell? ⟨w.heap.size + 1 + 1, 1, none⟩ = some (.int .i64 qn) := keep_cell hb (by go_simp)
                replace O2 : z66.cell? ⟨w.heap.size + 1 + 1, 2, none⟩ = some (.int .i64 qb) := keep_cell hb (by go_simp)
                replace OL : w.heap.size + 1 + 1 < z66.heap.size := block_lt_of_cell O0
                replace X0 : z66.cell? ⟨z61.heap.size, 0, none⟩ = some (.int .i64 xk) := keep_cell hb (by go_simp)
                replace X1 : z66.cell? ⟨z61.heap.size, 1, none⟩ = some (.int .i64 xn) := keep_cell hb (by go_simp)
                replace X2 : z66.cell? ⟨z61.heap.size, 2, none⟩ = some (.int .i64 xb) := keep_cell hb (by go_simp)
                replace XL : z61.heap.size < z66.heap.size := block_lt_of_cell X0
                replace Y0 : z66.cell? ⟨z63.heap.size, 0, none⟩ = some (.int .i64 yk) := keep_cell hb (by go_simp)
                replace Y1 : z66.cell? ⟨z63.heap.size, 1, none⟩ = some (.int .i64 yn) := keep_cell hb (by go_simp)
                replace Y2 : z66.cell? ⟨z63.heap.size, 2, none⟩ = some (.int .i64 yb) := keep_cell hb (by go_simp)
                replace YL : z63.heap.size < z66.heap.size := block_lt_of_cell Y0
                replace G0 : z66.cell? ⟨z64.heap.size, 0, none⟩ = some (.int .i64 1) := keep_cell hb (by go_simp)
                replace G1 : z66.cell? ⟨z64.heap.size, 1, none⟩ = some (.int .i64 vn) := keep_cell hb (by go_simp)
                replace G2 : z66.cell? ⟨z64.heap.size, 2, none⟩ = some (.int .i64 0) := keep_cell hb (by go_simp)
                replace GL : z64.heap.size < z66.heap.size := block_lt_of_cell G0
                replace HMm : Hid (Mem z66 w.heap.size P2 R62 M2) := Mem.below HMm.out (by repeat (first | with_reducible exact Below.refl _ _ | assumption | with_reducible refine bel_alloc ?_ _ | with_reducible refine Below.drew ?_ | with_reducible refine bel_drewN ?_ _ | with_reducible refine bel_set ?_ (by go_light; first | (simp; done) | (simp; omega) | omega) _ | refine bel_trans ?_ (by assumption)))
                replace HB : Hid (Below w.heap.size w z66) := (by have hB0 := HB.out; exact (by repeat (first | with_reducible exact Below.refl _ _ | assumption | with_reducible refine bel_alloc ?_ _ | with_reducible refine Below.drew ?_ | with_reducible refine bel_drewN ?_ _ | with_reducible refine bel_set ?_ (by go_light; first | (simp; done) | (simp; omega) | omega) _ | refine bel_trans ?_ (by assumption))))
                clear hb
                go_wp2
                go_ret
                exact ⟨by simp, by have hB0 := HB.out; exact (by repeat (first | with_reducible exact Below.refl _ _ | assumption | with_reducible refine bel_alloc ?_ _ | with_reducible refine Below.drew ?_ | with_reducible refine bel_drewN ?_ _ | with_reducible refine bel_set ?_ (by go_light; first | (simp; done) | (simp; omega) | omega) _ | refine bel_trans ?_ (by assumption)))⟩
            · have HGD : Hid (goodF ⟨vk, vn, vb⟩ = true) := hgd
              have g1 : (vk == 1) = false := by simp [h1]
              have g2 : (vk == 2) = false := by simp [h2]
              have HG : Hid (loadM M2 chunk ⟨ak, an, ab⟩ = (⟨0, 0, 0⟩, true)) := by show _ = _; simpa [h1, h2, noV] using hss
              clear hss hgd hbx
              go_wp2_with fail
              refine (load_to (Mem.below HMm.out (by repeat (first | with_reducible exact Below.refl _ _ | assumption | with_reducible refine bel_alloc ?_ _ | with_reducible refine Below.drew ?_ | with_reducible refine bel_drewN ?_ _ | with_reducible refine bel_set ?_ (by go_light; first | (simp; done) | (simp; omega) | omega) _ | refine bel_trans ?_ (by assumption)))) chunk ak an ab HG.out).mono ?_
              rintro e z64 ⟨rfl, hb⟩
              replace A0 : z64.cell? ⟨w.heap.size, 0, none⟩ = some (.int .i64 ak) := keep_cell hb (by go_simp)
              replace A1 : z64.cell? ⟨w.heap.size, 1, none⟩ = some (.int .i64 an) := keep_cell hb (by go_simp)
              replace A2 : z64.cell? ⟨w.heap.size, 2, none⟩ = some (.int .i64 ab) := keep_cell hb (by go_simp)
              replace AL : w.heap.size < z64.heap.size := block_lt_of_cell A0
              replace V0 : z64.cell? ⟨w.heap.size + 1, 0, none⟩ = some (.int .i64 vk) := keep_cell hb (by go_simp)
              replace V1 : z64.cell? ⟨w.heap.size + 1, 1, none⟩ = some (.int .i64 vn) := keep_cell hb (by go_simp)
              replace V2 : z64.cell? ⟨w.heap.size + 1, 2, none⟩ = some (.int .i64 vb) := keep_cell hb (by go_simp)
              replace VL : w.heap.size + 1 < z64.heap.size := block_lt_of_cell V0
              replace O0 : z64.cell? ⟨w.heap.size + 1 + 1, 0, none⟩ = some (.int .i64 qk) := keep_cell hb (by go_simp)
              replace O1 : z64.cell? ⟨w.heap.size + 1 + 1, 1, none⟩ = some (.int .i64 qn) := keep_cell hb (by go_simp)
              replace O2 : z64.cell? ⟨w.heap.size + 1 + 1, 2, none⟩ = some (.int .i64 qb) := keep_cell hb (by go_simp)
              replace OL : w.heap.size + 1 + 1 < z64.heap.size := block_lt_of_cell O0
              replace X0 : z64.cell? ⟨z61.heap.size, 0, none⟩ = some (.int .i64 xk) := keep_cell hb (by go_simp)
              replace X1 : z64.cell? ⟨z61.heap.size, 1, none⟩ = some (.int .i64 xn) := keep_cell hb (by go_simp)
              replace X2 : z64.cell? ⟨z61.heap.size, 2, none⟩ = some (.int .i64 xb) := keep_cell hb (by go_simp)
              replace XL : z61.heap.size < z64.heap.size := block_lt_of_cell X0
              have Y0 : z64.cell? ⟨z63.heap.size, 0, none⟩ = some (.int .i64 yk) := keep_cell hb (by go_simp)
              have Y1 : z64.cell? ⟨z63.heap.size, 1, none⟩ = some (.int .i64 yn) := keep_cell hb (by go_simp)
              have Y2 : z64.cell? ⟨z63.heap.size, 2, none⟩ = some (.int .i64 yb) := keep_cell hb (by go_simp)
              have YL : z63.heap.size < z64.heap.size := block_lt_of_cell Y0
              replace HMm : Hid (Mem z64 w.heap.size P2 R62 M2) := Mem.below HMm.out (by repeat (first | with_reducible exact Below.refl _ _ | assumption | with_reducible refine bel_alloc ?_ _ | with_reducible refine Below.drew ?_ | with_reducible refine bel_drewN ?_ _ | with_reducible refine bel_set ?_ (by go_light; first | (simp; done) | (simp; omega) | omega) _ | refine bel_trans ?_ (by assumption)))
              replace HB : Hid (Below w.heap.size w z64) := (by have hB0 := HB.out; exact (by repeat (first | with_reducible exact Below.refl _ _ | assumption | with_reducible refine bel_alloc ?_ _ | with_reducible refine Below.drew ?_ | with_reducible refine bel_drewN ?_ _ | with_reducible refine bel_set ?_ (by go_light; first | (simp; done) | (simp; omega) | omega) _ | refine bel_trans ?_ (by assumption))))
              clear hb
              have GRm : R62 (z64.heap.size) = none := Mem.fresh HMm.out (by omega)
              go_wp2_with fail
              refine (rgood_to vk vn vb _ HGD.out).mono ?_
              rintro e z65 ⟨rfl, hb⟩
              replace A0 : z65.cell? ⟨w.heap.size, 0, none⟩ = some (.int .i64 ak) := keep_cell hb (by go_simp)
              replace A1 : z65.cell? ⟨w.heap.size, 1, none⟩ = some (.int .i64 an) := keep_cell hb (by go_simp)
              replace A2 : z65.cell? ⟨w.heap.size, 2, none⟩ = some (.int .i64 ab) := keep_cell hb (by go_simp)
              replace AL : w.heap.size < z65.heap.size := block_lt_of_cell A0
              replace V0 : z65.cell? ⟨w.heap.size + 1, 0, none⟩ = some (.int .i64 vk) := keep_cell hb (by go_simp)
              replace V1 : z65.cell? ⟨w.heap.size + 1, 1, none⟩ = some (.int .i64 vn) := keep_cell hb (by go_simp)
              replace V2 : z65.cell? ⟨w.heap.size + 1, 2, none⟩ = some (.int .i64 vb) := keep_cell hb (by go_simp)
              replace VL : w.heap.size + 1 < z65.heap.size := block_lt_of_cell V0
              replace O0 : z65.cell? ⟨w.heap.size + 1 + 1, 0, none⟩ = some (.int .i64 qk) := keep_cell hb (by go_simp)
              replace O1 : z65.cell? ⟨w.heap.size + 1 + 1, 1, none⟩ = some (.int .i64 qn) := keep_cell hb (by go_simp)
              replace O2 : z65.cell? ⟨w.heap.size + 1 + 1, 2, none⟩ = some (.int .i64 qb) := keep_cell hb (by go_simp)
              replace OL : w.heap.size + 1 + 1 < z65.heap.size := block_lt_of_cell O0
              replace X0 : z65.cell? ⟨z61.heap.size, 0, none⟩ = some (.int .i64 xk) := keep_cell hb (by go_simp)
              replace X1 : z65.cell? ⟨z61.heap.size, 1, none⟩ = some (.int .i64 xn) := keep_cell hb (by go_simp)
              replace X2 : z65.cell? ⟨z61.heap.size, 2, none⟩ = some (.int .i64 xb) := keep_cell hb (by go_simp)
              replace XL : z61.heap.size < z65.heap.size := block_lt_of_cell X0
              replace Y0 : z65.cell? ⟨z63.heap.size, 0, none⟩ = some (.int .i64 yk) := keep_cell hb (by go_simp)
              replace Y1 : z65.cell? ⟨z63.heap.size, 1, none⟩ = some (.int .i64 yn) := keep_cell hb (by go_simp)
              replace Y2 : z65.cell? ⟨z63.heap.size, 2, none⟩ = some (.int .i64 yb) := keep_cell hb (by go_simp)
              replace YL : z63.heap.size < z65.heap.size := block_lt_of_cell Y0
              have G0 : z65.cell? ⟨z64.heap.size, 0, none⟩ = some (.int .i64 0) := keep_cell hb (by go_simp)
              have G1 : z65.cell? ⟨z64.heap.size, 1, none⟩ = some (.int .i64 0) := keep_cell hb (by go_simp)
              have G2 : z65.cell? ⟨z64.heap.size, 2, none⟩ = some (.int .i64 0) := keep_cell hb (by go_simp)
              have GL : z64.heap.size < z65.heap.size := block_lt_of_cell G0
              replace HMm : Hid (Mem z65 w.heap.size P2 R62 M2) := Mem.below HMm.out (by repeat (first | with_reducible exact Below.refl _ _ | assumption | with_reducible refine bel_alloc ?_ _ | with_reducible refine Below.drew ?_ | with_reducible refine bel_drewN ?_ _ | with_reducible refine bel_set ?_ (by go_light; first | (simp; done) | (simp; omega) | omega) _ | refine bel_trans ?_ (by assumption)))
              replace HB : Hid (Below w.heap.size w z65) := (by have hB0 := HB.out; exact (by repeat (first | with_reducible exact Below.refl _ _ | assumption | with_reducible refine bel_alloc ?_ _ | with_reducible refine Below.drew ?_ | with_reducible refine bel_drewN ?_ _ | with_reducible refine bel_set ?_ (by go_light; first | (simp; done) | (simp; omega) | omega) _ | refine bel_trans ?_ (by assumption))))
              clear hb
              go_wp2_with fail
              refine (rgood_to vk vn vb _ HGD.out).mono ?_
              rintro e z66 ⟨rfl, hb⟩
              replace A0 : z66.cell? ⟨w.heap.size, 0, none⟩ = some (.int .i64 ak) := keep_cell hb (by go_simp)
              replace A1 : z66.cell? ⟨w.heap.size, 1, none⟩ = some (.int .i64 an) := keep_cell hb (by go_simp)
              replace A2 : z66.cell? ⟨w.heap.size, 2, none⟩ = some (.int .i64 ab) := keep_cell hb (by go_simp)
              replace AL : w.heap.size < z66.heap.size := block_lt_of_cell A0
              replace V0 : z66.cell? ⟨w.heap.size + 1, 0, none⟩ = some (.int .i64 vk) := keep_cell hb (by go_simp)
              replace V1 : z66.cell? ⟨w.heap.size + 1, 1, none⟩ = some (.int .i64 vn) := keep_cell hb (by go_simp)
              replace V2 : z66.cell? ⟨w.heap.size + 1, 2, none⟩ = some (.int .i64 vb) := keep_cell hb (by go_simp)
              replace VL : w.heap.size + 1 < z66.heap.size := block_lt_of_cell V0
              replace O0 : z66.cell? ⟨w.heap.size + 1 + 1, 0, none⟩ = some (.int .i64 qk) := keep_cell hb (by go_simp)
              replace O1 : z66.cell? ⟨w.heap.size + 1 + 1, 1, none⟩ = some (.int .i64 qn) := keep_cell hb (by go_simp)
              replace O2 : z66.cell? ⟨w.heap.size + 1 + 1, 2, none⟩ = some (.int .i64 qb) := keep_cell hb (by go_simp)
              replace OL : w.heap.size + 1 + 1 < z66.heap.size := block_lt_of_cell O0
              replace X0 : z66.cell? ⟨z61.heap.size, 0, none⟩ = some (.int .i64 xk) := keep_cell hb (by go_simp)
              replace X1 : z66.cell? ⟨z61.heap.size, 1, none⟩ = some (.int .i64 xn) := keep_cell hb (by go_simp)
              replace X2 : z66.cell? ⟨z61.heap.size, 2, none⟩ = some (.int .i64 xb) := keep_cell hb (by go_simp)
              replace XL : z61.heap.size < z66.heap.size := block_lt_of_cell X0
              replace Y0 : z66.cell? ⟨z63.heap.size, 0, none⟩ = some (.int .i64 yk) := keep_cell hb (by go_simp)
              replace Y1 : z66.cell? ⟨z63.heap.size, 1, none⟩ = some (.int .i64 yn) := keep_cell hb (by go_simp)
              replace Y2 : z66.cell? ⟨z63.heap.size, 2, none⟩ = some (.int .i64 yb) := keep_cell hb (by go_simp)
              replace YL : z63.heap.size < z66.heap.size := block_lt_of_cell Y0
              replace G0 : z66.cell? ⟨z64.heap.size, 0, none⟩ = some (.int .i64 0) := keep_cell hb (by go_simp)
              replace G1 : z66.cell? ⟨z64.heap.size, 1, none⟩ = some (.int .i64 0) := keep_cell hb (by go_simp)
              replace G2 : z66.cell? ⟨z64.heap.size, 2, none⟩ = some (.int .i64 0) := keep_cell hb (by go_simp)
              replace GL : z64.heap.size < z66.heap.size := block_lt_of_cell G0
              replace HMm : Hid (Mem z66 w.heap.size P2 R62 M2) := Mem.below HMm.out (by repeat (first | with_reducible exact Below.refl _ _ | assumption | with_reducible refine bel_alloc ?_ _ | with_reducible refine Below.drew ?_ | with_reducible refine bel_drewN ?_ _ | with_reducible refine bel_set ?_ (by go_light; first | (simp; done) | (simp; omega) | omega) _ | refine bel_trans ?_ (by assumption)))
              replace HB : Hid (Below w.heap.size w z66) := (by have hB0 := HB.out; exact (by repeat (first | with_reducible exact Below.refl _ _ | assumption | with_reducible refine bel_alloc ?_ _ | with_reducible refine Below.drew ?_ | with_reducible refine bel_drewN ?_ _ | with_reducible refine bel_set ?_ (by go_light; first | (simp; done) | (simp; omega) | omega) _ | refine bel_trans ?_ (by assumption))))
              clear hb
              go_wp2_with fail
              refine (rgood_to vk vn vb _ HGD.out).mono ?_
              rintro e z67 ⟨rfl, hb⟩
              replace A0 : z67.cell? ⟨w.heap.size, 0, none⟩ = some (.int .i64 ak) := keep_cell hb (by go_simp)
              replace A1 : z67.cell? ⟨w.heap.size, 1, none⟩ = some (.int .i64 an) := keep_cell hb (by go_simp)
              replace A2 : z67.cell? ⟨w.heap.size, 2, none⟩ = some (.int .i64 ab) := keep_cell hb (by go_simp)
              replace AL : w.heap.size < z67.heap.size := block_lt_of_cell A0
              replace V0 : z67.cell? ⟨w.heap.size + 1, 0, none⟩ = some (.int .i64 vk) := keep_cell hb (by go_simp)
              replace V1 : z67.cell? ⟨w.heap.size + 1, 1, none⟩ = some (.int .i64 vn) := keep_cell hb (by go_simp)
              replace V2 : z67.cell? ⟨w.heap.size + 1, 2, none⟩ = some (.int .i64 vb) := keep_cell hb (by go_simp)
              replace VL : w.heap.size + 1 < z67.heap.size := block_lt_of_cell V0
              replace O0 : z67.cell? ⟨w.heap.size + 1 + 1, 0, none⟩ = some (.int .i64 qk) := keep_cell hb (by go_simp)
              replace O1 : z67.cell? ⟨w.heap.size + 1 + 1, 1, none⟩ = some (.int .i64 qn) := keep_cell hb (by go_simp)
              replace O2 : z67.cell? ⟨w.heap.size + 1 + 1, 2, none⟩ = some (.int .i64 qb) := keep_cell hb (by go_simp)
              replace OL : w.heap.size + 1 + 1 < z67.heap.size := block_lt_of_cell O0
              replace X0 : z67.cell? ⟨z61.heap.size, 0, none⟩ = some (.int .i64 xk) := keep_cell hb (by go_simp)
              replace X1 : z67.cell? ⟨z61.heap.size, 1, none⟩ = some (.int .i64 xn) := keep_cell hb (by go_simp)
              replace X2 : z67.cell? ⟨z61.heap.size, 2, none⟩ = some (.int .i64 xb) := keep_cell hb (by go_simp)
              replace XL : z61.heap.size < z67.heap.size := block_lt_of_cell X0
              replace Y0 : z67.cell? ⟨z63.heap.size, 0, none⟩ = some (.int .i64 yk) := keep_cell hb (by go_simp)
              replace Y1 : z67.cell? ⟨z63.heap.size, 1, none⟩ = some (.int .i64 yn) := keep_cell hb (by go_simp)
              replace Y2 : z67.cell? ⟨z63.heap.size, 2, none⟩ = some (.int .i64 yb) := keep_cell hb (by go_simp)
              replace YL : z63.heap.size < z67.heap.size := block_lt_of_cell Y0
              replace G0 : z67.cell? ⟨z64.heap.size, 0, none⟩ = some (.int .i64 0) := keep_cell hb (by go_simp)
              replace G1 : z67.cell? ⟨z64.heap.size, 1, none⟩ = some (.int .i64 0) := keep_cell hb (by go_simp)
              replace G2 : z67.cell? ⟨z64.heap.size, 2, none⟩ = some (.int .i64 0) := keep_cell hb (by go_simp)
              replace GL : z64.heap.size < z67.heap.size := block_lt_of_cell G0
              replace HMm : Hid (Mem z67 w.heap.size P2 R62 M2) := Mem.below HMm.out (by repeat (first | with_reducible exact Below.refl _ _ | assumption | with_reducible refine bel_alloc ?_ _ | with_reducible refine Below.drew ?_ | with_reducible refine bel_drewN ?_ _ | with_reducible refine bel_set ?_ (by go_light; first | (simp; done) | (simp; omega) | omega) _ | refine bel_trans ?_ (by assumption)))
              replace HB : Hid (Below w.heap.size w z67) := (by have hB0 := HB.out; exact (by repeat (first | with_reducible exact Below.refl _ _ | assumption | with_reducible refine bel_alloc ?_ _ | with_reducible refine Below.drew ?_ | with_reducible refine bel_drewN ?_ _ | with_reducible refine bel_set ?_ (by go_light; first | (simp; done) | (simp; omega) | omega) _ | refine bel_trans ?_ (by assumption))))
              clear hb
              go_wp2
              go_ret
              exact ⟨by simp, by have hB0 := HB.out; exact (by repeat (first | with_reducible exact Below.refl _ _ | assumption | with_reducible refine bel_alloc ?_ _ | with_reducible refine Below.drew ?_ | with_reducible refine bel_drewN ?_ _ | with_reducible refine bel_set ?_ (by go_light; first | (simp; done) | (simp; omega) | omega) _ | refine bel_trans ?_ (by assumption)))⟩

end Go.Proofs.Ytjiniihdpkaknaa
