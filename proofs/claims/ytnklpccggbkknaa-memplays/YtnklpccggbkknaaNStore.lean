/- The document's own Store: the walks. -/
import Derived.Test.YtnklpccggbkknaaNAlloc2
import Derived.Test.YtnklpccggbkknaaNRight
import Derived.Deep.RegionHeld3
import Derived.Deep.RegionLaw
import Derived.Deep.AppendLies
namespace Go.Proofs.Ytnklpccggbkknaa
open Go.ChangeShapes Go.WideShapes Go.ChangeAt Go.RowKit Pl
set_option linter.unusedSimpArgs false
set_option linter.unusedVariables false

theorem infoV : (Try.prog.info? 32).map (fun i => (i.zero, i.size, i.bytes)) = some (some (.agg #[.int .i64 0, .int .i64 0, .int .i64 0]), 3, 24) := by kernel_rfl
/-- The ints behind n, the first i of them written by f. -/
def wrt (l : List Int) (n : Nat) (f : Nat → Int) : Nat → List Int
  | 0 => l
  | i + 1 => (wrt l n f i).set (n + i) (f i)
theorem wrt_len (l : List Int) (n : Nat) (f : Nat → Int) : ∀ i, (wrt l n f i).length = l.length
  | 0 => rfl
  | i + 1 => by simp [wrt, wrt_len l n f i]
/-- Of what was there nothing has turned but the block b, which holds these ints. -/
structure RowAt (w w' : World) (b : Nat) (l : List Int) : Prop where
  os : w'.os = w.os
  tape : w'.tape = w.tape
  output : w'.output = w.output
  size : w.heap.size ≤ w'.heap.size
  block : ∀ k, k < w.heap.size → k ≠ b → w'.heap[k]? = w.heap[k]?
  row : w'.heap[b]? = some (.cells (intCells l) 3 (0, 0))
theorem row_lt {w : World} {b : Nat} {o : Obj} (h : w.heap[b]? = some o) : b < w.heap.size := (Array.getElem?_eq_some_iff.1 h).1
theorem RowAt.below {w w1 w2 : World} {b : Nat} {l : List Int} (h : RowAt w w1 b l) (k : Below w1.heap.size w1 w2) : RowAt w w2 b l :=
  ⟨k.os.trans h.os, k.tape.trans h.tape, k.output.trans h.output, Nat.le_trans h.size k.size, fun q hq hn => (k.block q (Nat.lt_of_lt_of_le hq h.size)).trans (h.block q hq hn), (k.block b (row_lt h.row)).trans h.row⟩
theorem RowAt.set {w w1 : World} {b : Nat} {l : List Int} (h : RowAt w w1 b l) (o : Nat) (x : Int) : RowAt w (w1.setCell ⟨b, o, none⟩ (.int .i64 x)) b (l.set o x) :=
  ⟨h.os, h.tape, h.output, by rw [size_set]; exact h.size, fun q hq hn => (heap_set_other hn).trans (h.block q hq hn), by rw [heap_set_same h.row, intCells_set]⟩
theorem RowAt.cell {w w1 : World} {b : Nat} {l : List Int} (h : RowAt w w1 b l) {q o : Nat} {v : Value} (hc : w.cell? ⟨q, o, none⟩ = some v) (hn : q ≠ b) : w1.cell? ⟨q, o, none⟩ = some v :=
  (World.cell?_of_block (h.block q (block_lt_of_cell hc) hn)).trans hc
theorem RowAt.at {w w1 : World} {b : Nat} {l : List Int} (h : RowAt w w1 b l) {o : Nat} (ho : o < l.length) : w1.cell? ⟨b, o, none⟩ = some (.int .i64 (l[o])) := heap_cell h.row (by rw [intCells_get, List.getElem?_eq_getElem ho]; rfl)
theorem RowAt.of_below {w w1 w2 : World} {b : Nat} {l : List Int} (hb : Below w.heap.size w w1) (h : RowAt w1 w2 b l) : RowAt w w2 b l :=
  ⟨h.os.trans hb.os, h.tape.trans hb.tape, h.output.trans hb.output, Nat.le_trans hb.size h.size, fun k hk hn => (h.block k (Nat.lt_of_lt_of_le hk hb.size) hn).trans (hb.block k hk), h.row⟩
theorem RowAt.fz {w w1 : World} {b : Nat} {l : List Int} (h : RowAt w w1 b l) (o : Nat) : w1.frozen? ⟨b, o, none⟩ = false := heap_frozen h.row


set_option maxHeartbeats 2000000 in
theorem rstore_no_bad (p : Nat) (c uk un ub vk vn vb : Int) (w : World) (HG : Hid (goodF ⟨vk, vn, vb⟩ = false))  (HR : Hid (∀ W, Below w.heap.size w W → Calls Try.prog 37 #[.pointer (some ⟨p, 0, none⟩), .int .i64 c, .agg #[.int .i64 uk, .int .i64 un, .int .i64 ub]] W (retP (.bool false) W))) :
    Calls Try.prog 16 #[.pointer (some ⟨p, 0, none⟩), .int .i64 c, .agg #[.int .i64 uk, .int .i64 un, .int .i64 ub], .agg #[.int .i64 vk, .int .i64 vn, .int .i64 vb]] w (retP (.bool false) w) := by
  go_enter Try.func16, Try.ntmps16
  go_wp2_with fail
  refine (rgoodR_to vk vn vb false _ HG).mono ?_
  rintro e w1 ⟨rfl, hb1⟩
  have u0 : w1.cell? ⟨w.heap.size, 0, none⟩ = some (.int .i64 uk) := keep_cell hb1 (by go_simp)
  have u1 : w1.cell? ⟨w.heap.size, 1, none⟩ = some (.int .i64 un) := keep_cell hb1 (by go_simp)
  have u2 : w1.cell? ⟨w.heap.size, 2, none⟩ = some (.int .i64 ub) := keep_cell hb1 (by go_simp)
  have v0 : w1.cell? ⟨(w.heap.size + 1), 0, none⟩ = some (.int .i64 vk) := keep_cell hb1 (by go_simp)
  have v1 : w1.cell? ⟨(w.heap.size + 1), 1, none⟩ = some (.int .i64 vn) := keep_cell hb1 (by go_simp)
  have v2 : w1.cell? ⟨(w.heap.size + 1), 2, none⟩ = some (.int .i64 vb) := keep_cell hb1 (by go_simp)
  have uL : w.heap.size < w1.heap.size := block_lt_of_cell u0
  have vL : (w.heap.size + 1) < w1.heap.size := block_lt_of_cell v0
  have HB : Hid (Below w.heap.size w w1) := (by repeat (first | with_reducible exact Below.refl _ _ | with_reducible refine bel_alloc ?_ _ | with_reducible refine bel_set ?_ (by first | exact Nat.le_refl _ | (simp; done) | (simp; omega)) _ | with_reducible refine Below.drew ?_ | refine bel_trans ?_ (by assumption)))
  clear hb1
  go_wp2_with fail
  refine (HR.out _ HB.out).mono ?_
  rintro e w2 ⟨rfl, hb2⟩
  replace u0 : w2.cell? ⟨w.heap.size, 0, none⟩ = some (.int .i64 uk) := keep_cell hb2 (by go_simp)
  replace u1 : w2.cell? ⟨w.heap.size, 1, none⟩ = some (.int .i64 un) := keep_cell hb2 (by go_simp)
  replace u2 : w2.cell? ⟨w.heap.size, 2, none⟩ = some (.int .i64 ub) := keep_cell hb2 (by go_simp)
  replace v0 : w2.cell? ⟨(w.heap.size + 1), 0, none⟩ = some (.int .i64 vk) := keep_cell hb2 (by go_simp)
  replace v1 : w2.cell? ⟨(w.heap.size + 1), 1, none⟩ = some (.int .i64 vn) := keep_cell hb2 (by go_simp)
  replace v2 : w2.cell? ⟨(w.heap.size + 1), 2, none⟩ = some (.int .i64 vb) := keep_cell hb2 (by go_simp)
  replace uL : w.heap.size < w2.heap.size := block_lt_of_cell u0
  replace vL : (w.heap.size + 1) < w2.heap.size := block_lt_of_cell v0
  replace HB : Hid (Below w.heap.size w w2) := bel_trans HB.out hb2
  clear hb2
  go_wp2
  go_ret
  exact ⟨rfl, HB.out⟩


set_option maxHeartbeats 2000000 in
theorem rstore_no_ptr (p : Nat) (c uk un ub vn vb : Int) (w : World) (HG : Hid (goodF ⟨2, vn, vb⟩ = true))  (HR : Hid (∀ W, Below w.heap.size w W → Calls Try.prog 37 #[.pointer (some ⟨p, 0, none⟩), .int .i64 c, .agg #[.int .i64 uk, .int .i64 un, .int .i64 ub]] W (retP (.bool false) W))) :
    Calls Try.prog 16 #[.pointer (some ⟨p, 0, none⟩), .int .i64 c, .agg #[.int .i64 uk, .int .i64 un, .int .i64 ub], .agg #[.int .i64 2, .int .i64 vn, .int .i64 vb]] w (retP (.bool false) w) := by
  go_enter Try.func16, Try.ntmps16
  go_wp2_with fail
  refine (rgoodR_to 2 vn vb true _ HG).mono ?_
  rintro e w1 ⟨rfl, hb1⟩
  have u0 : w1.cell? ⟨w.heap.size, 0, none⟩ = some (.int .i64 uk) := keep_cell hb1 (by go_simp)
  have u1 : w1.cell? ⟨w.heap.size, 1, none⟩ = some (.int .i64 un) := keep_cell hb1 (by go_simp)
  have u2 : w1.cell? ⟨w.heap.size, 2, none⟩ = some (.int .i64 ub) := keep_cell hb1 (by go_simp)
  have v0 : w1.cell? ⟨(w.heap.size + 1), 0, none⟩ = some (.int .i64 2) := keep_cell hb1 (by go_simp)
  have v1 : w1.cell? ⟨(w.heap.size + 1), 1, none⟩ = some (.int .i64 vn) := keep_cell hb1 (by go_simp)
  have v2 : w1.cell? ⟨(w.heap.size + 1), 2, none⟩ = some (.int .i64 vb) := keep_cell hb1 (by go_simp)
  have uL : w.heap.size < w1.heap.size := block_lt_of_cell u0
  have vL : (w.heap.size + 1) < w1.heap.size := block_lt_of_cell v0
  have HB : Hid (Below w.heap.size w w1) := (by repeat (first | with_reducible exact Below.refl _ _ | with_reducible refine bel_alloc ?_ _ | with_reducible refine bel_set ?_ (by first | exact Nat.le_refl _ | (simp; done) | (simp; omega)) _ | with_reducible refine Below.drew ?_ | refine bel_trans ?_ (by assumption)))
  clear hb1
  go_wp2_with fail
  refine (HR.out _ HB.out).mono ?_
  rintro e w2 ⟨rfl, hb2⟩
  replace u0 : w2.cell? ⟨w.heap.size, 0, none⟩ = some (.int .i64 uk) := keep_cell hb2 (by go_simp)
  replace u1 : w2.cell? ⟨w.heap.size, 1, none⟩ = some (.int .i64 un) := keep_cell hb2 (by go_simp)
  replace u2 : w2.cell? ⟨w.heap.size, 2, none⟩ = some (.int .i64 ub) := keep_cell hb2 (by go_simp)
  replace v0 : w2.cell? ⟨(w.heap.size + 1), 0, none⟩ = some (.int .i64 2) := keep_cell hb2 (by go_simp)
  replace v1 : w2.cell? ⟨(w.heap.size + 1), 1, none⟩ = some (.int .i64 vn) := keep_cell hb2 (by go_simp)
  replace v2 : w2.cell? ⟨(w.heap.size + 1), 2, none⟩ = some (.int .i64 vb) := keep_cell hb2 (by go_simp)
  replace uL : w.heap.size < w2.heap.size := block_lt_of_cell u0
  replace vL : (w.heap.size + 1) < w2.heap.size := block_lt_of_cell v0
  replace HB : Hid (Below w.heap.size w w2) := bel_trans HB.out hb2
  clear hb2
  go_wp2
  go_ret
  exact ⟨rfl, HB.out⟩


set_option maxHeartbeats 2000000 in
theorem rstore_no_int (p : Nat) (c uk un ub vn vb : Int) (w : World) (HG : Hid (goodF ⟨1, vn, vb⟩ = true))  (HR : Hid (∀ W, Below w.heap.size w W → Calls Try.prog 37 #[.pointer (some ⟨p, 0, none⟩), .int .i64 c, .agg #[.int .i64 uk, .int .i64 un, .int .i64 ub]] W (retP (.bool false) W))) :
    Calls Try.prog 16 #[.pointer (some ⟨p, 0, none⟩), .int .i64 c, .agg #[.int .i64 uk, .int .i64 un, .int .i64 ub], .agg #[.int .i64 1, .int .i64 vn, .int .i64 vb]] w (retP (.bool false) w) := by
  go_enter Try.func16, Try.ntmps16
  go_wp2_with fail
  refine (rgoodR_to 1 vn vb true _ HG).mono ?_
  rintro e w1 ⟨rfl, hb1⟩
  have u0 : w1.cell? ⟨w.heap.size, 0, none⟩ = some (.int .i64 uk) := keep_cell hb1 (by go_simp)
  have u1 : w1.cell? ⟨w.heap.size, 1, none⟩ = some (.int .i64 un) := keep_cell hb1 (by go_simp)
  have u2 : w1.cell? ⟨w.heap.size, 2, none⟩ = some (.int .i64 ub) := keep_cell hb1 (by go_simp)
  have v0 : w1.cell? ⟨(w.heap.size + 1), 0, none⟩ = some (.int .i64 1) := keep_cell hb1 (by go_simp)
  have v1 : w1.cell? ⟨(w.heap.size + 1), 1, none⟩ = some (.int .i64 vn) := keep_cell hb1 (by go_simp)
  have v2 : w1.cell? ⟨(w.heap.size + 1), 2, none⟩ = some (.int .i64 vb) := keep_cell hb1 (by go_simp)
  have uL : w.heap.size < w1.heap.size := block_lt_of_cell u0
  have vL : (w.heap.size + 1) < w1.heap.size := block_lt_of_cell v0
  have HB : Hid (Below w.heap.size w w1) := (by repeat (first | with_reducible exact Below.refl _ _ | with_reducible refine bel_alloc ?_ _ | with_reducible refine bel_set ?_ (by first | exact Nat.le_refl _ | (simp; done) | (simp; omega)) _ | with_reducible refine Below.drew ?_ | refine bel_trans ?_ (by assumption)))
  clear hb1
  go_wp2_with fail
  refine (HR.out _ HB.out).mono ?_
  rintro e w2 ⟨rfl, hb2⟩
  replace u0 : w2.cell? ⟨w.heap.size, 0, none⟩ = some (.int .i64 uk) := keep_cell hb2 (by go_simp)
  replace u1 : w2.cell? ⟨w.heap.size, 1, none⟩ = some (.int .i64 un) := keep_cell hb2 (by go_simp)
  replace u2 : w2.cell? ⟨w.heap.size, 2, none⟩ = some (.int .i64 ub) := keep_cell hb2 (by go_simp)
  replace v0 : w2.cell? ⟨(w.heap.size + 1), 0, none⟩ = some (.int .i64 1) := keep_cell hb2 (by go_simp)
  replace v1 : w2.cell? ⟨(w.heap.size + 1), 1, none⟩ = some (.int .i64 vn) := keep_cell hb2 (by go_simp)
  replace v2 : w2.cell? ⟨(w.heap.size + 1), 2, none⟩ = some (.int .i64 vb) := keep_cell hb2 (by go_simp)
  replace uL : w.heap.size < w2.heap.size := block_lt_of_cell u0
  replace vL : (w.heap.size + 1) < w2.heap.size := block_lt_of_cell v0
  replace HB : Hid (Below w.heap.size w w2) := bel_trans HB.out hb2
  clear hb2
  go_wp2
  go_ret
  exact ⟨rfl, HB.out⟩


set_option maxHeartbeats 2000000 in
theorem rstore_no_un (p : Nat) (c uk un ub vk vn vb : Int) (w : World) (HG : Hid (goodF ⟨vk, vn, vb⟩ = true)) (q2 : (vk == 2) = false) (q1 : (vk == 1) = false) (HR : Hid (∀ W, Below w.heap.size w W → Calls Try.prog 37 #[.pointer (some ⟨p, 0, none⟩), .int .i64 c, .agg #[.int .i64 uk, .int .i64 un, .int .i64 ub]] W (retP (.bool false) W))) :
    Calls Try.prog 16 #[.pointer (some ⟨p, 0, none⟩), .int .i64 c, .agg #[.int .i64 uk, .int .i64 un, .int .i64 ub], .agg #[.int .i64 vk, .int .i64 vn, .int .i64 vb]] w (retP (.bool false) w) := by
  go_enter Try.func16, Try.ntmps16
  go_wp2_with fail
  refine (rgoodR_to vk vn vb true _ HG).mono ?_
  rintro e w1 ⟨rfl, hb1⟩
  have u0 : w1.cell? ⟨w.heap.size, 0, none⟩ = some (.int .i64 uk) := keep_cell hb1 (by go_simp)
  have u1 : w1.cell? ⟨w.heap.size, 1, none⟩ = some (.int .i64 un) := keep_cell hb1 (by go_simp)
  have u2 : w1.cell? ⟨w.heap.size, 2, none⟩ = some (.int .i64 ub) := keep_cell hb1 (by go_simp)
  have v0 : w1.cell? ⟨(w.heap.size + 1), 0, none⟩ = some (.int .i64 vk) := keep_cell hb1 (by go_simp)
  have v1 : w1.cell? ⟨(w.heap.size + 1), 1, none⟩ = some (.int .i64 vn) := keep_cell hb1 (by go_simp)
  have v2 : w1.cell? ⟨(w.heap.size + 1), 2, none⟩ = some (.int .i64 vb) := keep_cell hb1 (by go_simp)
  have uL : w.heap.size < w1.heap.size := block_lt_of_cell u0
  have vL : (w.heap.size + 1) < w1.heap.size := block_lt_of_cell v0
  have HB : Hid (Below w.heap.size w w1) := (by repeat (first | with_reducible exact Below.refl _ _ | with_reducible refine bel_alloc ?_ _ | with_reducible refine bel_set ?_ (by first | exact Nat.le_refl _ | (simp; done) | (simp; omega)) _ | with_reducible refine Below.drew ?_ | refine bel_trans ?_ (by assumption)))
  clear hb1
  go_wp2_with fail
  refine (HR.out _ HB.out).mono ?_
  rintro e w2 ⟨rfl, hb2⟩
  replace u0 : w2.cell? ⟨w.heap.size, 0, none⟩ = some (.int .i64 uk) := keep_cell hb2 (by go_simp)
  replace u1 : w2.cell? ⟨w.heap.size, 1, none⟩ = some (.int .i64 un) := keep_cell hb2 (by go_simp)
  replace u2 : w2.cell? ⟨w.heap.size, 2, none⟩ = some (.int .i64 ub) := keep_cell hb2 (by go_simp)
  replace v0 : w2.cell? ⟨(w.heap.size + 1), 0, none⟩ = some (.int .i64 vk) := keep_cell hb2 (by go_simp)
  replace v1 : w2.cell? ⟨(w.heap.size + 1), 1, none⟩ = some (.int .i64 vn) := keep_cell hb2 (by go_simp)
  replace v2 : w2.cell? ⟨(w.heap.size + 1), 2, none⟩ = some (.int .i64 vb) := keep_cell hb2 (by go_simp)
  replace uL : w.heap.size < w2.heap.size := block_lt_of_cell u0
  replace vL : (w.heap.size + 1) < w2.heap.size := block_lt_of_cell v0
  replace HB : Hid (Below w.heap.size w w2) := bel_trans HB.out hb2
  clear hb2
  go_wp2
  go_ret
  exact ⟨rfl, HB.out⟩


set_option maxHeartbeats 2000000 in
theorem rstore_wide (p : Nat) (c uk un ub vn vb : Int) (w : World) (HG : Hid (goodF ⟨2, vn, vb⟩ = true)) (h8 : (c != 8) = true) (HR : Hid (∀ W, Below w.heap.size w W → Calls Try.prog 37 #[.pointer (some ⟨p, 0, none⟩), .int .i64 c, .agg #[.int .i64 uk, .int .i64 un, .int .i64 ub]] W (retP (.bool true) W))) :
    Calls Try.prog 16 #[.pointer (some ⟨p, 0, none⟩), .int .i64 c, .agg #[.int .i64 uk, .int .i64 un, .int .i64 ub], .agg #[.int .i64 2, .int .i64 vn, .int .i64 vb]] w (retP (.bool false) w) := by
  go_enter Try.func16, Try.ntmps16
  go_wp2_with fail
  refine (rgoodR_to 2 vn vb true _ HG).mono ?_
  rintro e w1 ⟨rfl, hb1⟩
  have u0 : w1.cell? ⟨w.heap.size, 0, none⟩ = some (.int .i64 uk) := keep_cell hb1 (by go_simp)
  have u1 : w1.cell? ⟨w.heap.size, 1, none⟩ = some (.int .i64 un) := keep_cell hb1 (by go_simp)
  have u2 : w1.cell? ⟨w.heap.size, 2, none⟩ = some (.int .i64 ub) := keep_cell hb1 (by go_simp)
  have v0 : w1.cell? ⟨(w.heap.size + 1), 0, none⟩ = some (.int .i64 2) := keep_cell hb1 (by go_simp)
  have v1 : w1.cell? ⟨(w.heap.size + 1), 1, none⟩ = some (.int .i64 vn) := keep_cell hb1 (by go_simp)
  have v2 : w1.cell? ⟨(w.heap.size + 1), 2, none⟩ = some (.int .i64 vb) := keep_cell hb1 (by go_simp)
  have uL : w.heap.size < w1.heap.size := block_lt_of_cell u0
  have vL : (w.heap.size + 1) < w1.heap.size := block_lt_of_cell v0
  have HB : Hid (Below w.heap.size w w1) := (by repeat (first | with_reducible exact Below.refl _ _ | with_reducible refine bel_alloc ?_ _ | with_reducible refine bel_set ?_ (by first | exact Nat.le_refl _ | (simp; done) | (simp; omega)) _ | with_reducible refine Below.drew ?_ | refine bel_trans ?_ (by assumption)))
  clear hb1
  go_wp2_with fail
  refine (HR.out _ HB.out).mono ?_
  rintro e w2 ⟨rfl, hb2⟩
  replace u0 : w2.cell? ⟨w.heap.size, 0, none⟩ = some (.int .i64 uk) := keep_cell hb2 (by go_simp)
  replace u1 : w2.cell? ⟨w.heap.size, 1, none⟩ = some (.int .i64 un) := keep_cell hb2 (by go_simp)
  replace u2 : w2.cell? ⟨w.heap.size, 2, none⟩ = some (.int .i64 ub) := keep_cell hb2 (by go_simp)
  replace v0 : w2.cell? ⟨(w.heap.size + 1), 0, none⟩ = some (.int .i64 2) := keep_cell hb2 (by go_simp)
  replace v1 : w2.cell? ⟨(w.heap.size + 1), 1, none⟩ = some (.int .i64 vn) := keep_cell hb2 (by go_simp)
  replace v2 : w2.cell? ⟨(w.heap.size + 1), 2, none⟩ = some (.int .i64 vb) := keep_cell hb2 (by go_simp)
  replace uL : w.heap.size < w2.heap.size := block_lt_of_cell u0
  replace vL : (w.heap.size + 1) < w2.heap.size := block_lt_of_cell v0
  replace HB : Hid (Below w.heap.size w w2) := bel_trans HB.out hb2
  clear hb2
  go_wp2
  go_ret
  exact ⟨rfl, HB.out⟩


set_option maxHeartbeats 4000000 in
theorem rstore_bad (p l cap g kk bb ln nn : Nat) (cc : Nat) (uk ub vk vn vb : Int) (bs : List Int) (w : World) (HG : Hid (goodF ⟨vk, vn, vb⟩ = false))  (HR : Hid (∀ W, Below w.heap.size w W → Calls Try.prog 37 #[.pointer (some ⟨p, 0, none⟩), .int .i64 (cc : Int), .agg #[.int .i64 uk, .int .i64 (nn : Int), .int .i64 ub]] W (retP (.bool true) W)))
    (e0 : w.cell? ⟨p, 0, none⟩ = some (.slice (some ⟨g, 0, none⟩) l cap)) (e1 : w.cell? ⟨g, kk * 2, none⟩ = some (.slice (some ⟨bb, 0, none⟩) ln ln)) (hk : ub - 1 = kk) (hl : (kk : Int) < l) (hl2 : (l : Int) ≤ 100000) (hln : (ln : Int) ≤ 65536) (hc0 : (0 : Int) < (cc : Int)) (hc8 : ((cc : Int) : Int) ≤ 8) (hnc : (nn : Int) + (cc : Int) ≤ ln) (hrow : w.heap[bb]? = some (.cells (intCells bs) 3 (0, 0))) (hbs : ln = bs.length) :
    Calls Try.prog 16 #[.pointer (some ⟨p, 0, none⟩), .int .i64 (cc : Int), .agg #[.int .i64 uk, .int .i64 (nn : Int), .int .i64 ub], .agg #[.int .i64 vk, .int .i64 vn, .int .i64 vb]] w fun e w' => e = .returned (.bool true) ∧ RowAt w w' bb (wrt bs nn (fun _ => -1) cc) := by
  have hw1 : IntKind.i64.wrap (ub - 1) = (kk : Int) := by rw [i64w, hk]; unfold wrap64; omega
  have hw2 : IntKind.i64.wrap ((nn : Int) + (cc : Int)) = (nn : Int) + (cc : Int) := by rw [i64w]; unfold wrap64; omega
  have kk0 : (0 : Int) ≤ kk := by omega
  have kkn : ((kk : Int)).toNat = kk := by omega
  have nn0 : (0 : Int) ≤ nn := by omega
  have nnh : (nn : Int) ≤ (nn : Int) + (cc : Int) := by omega
  have nnt : ((nn : Int) + (cc : Int)).toNat = nn + cc := by omega
  have nne : ¬ ln = nn := by omega
  have HM : Hid (ln = bs.length) := hbs
  have HN : Hid (w.heap.size + 1 ≠ bb) := by have := row_lt hrow; show _ ≠ _; omega
  have HRW : Hid (w.heap[bb]? = some (.cells (intCells bs) 3 (0, 0))) := hrow
  clear hrow hbs
  go_enter Try.func16, Try.ntmps16
  go_wp2_with fail
  refine (rgoodR_to vk vn vb false _ HG).mono ?_
  rintro e w1 ⟨rfl, hb1⟩
  have u0 : w1.cell? ⟨w.heap.size, 0, none⟩ = some (.int .i64 uk) := keep_cell hb1 (by go_simp)
  have u1 : w1.cell? ⟨w.heap.size, 1, none⟩ = some (.int .i64 (nn : Int)) := keep_cell hb1 (by go_simp)
  have u2 : w1.cell? ⟨w.heap.size, 2, none⟩ = some (.int .i64 ub) := keep_cell hb1 (by go_simp)
  have v0 : w1.cell? ⟨(w.heap.size + 1), 0, none⟩ = some (.int .i64 vk) := keep_cell hb1 (by go_simp)
  have v1 : w1.cell? ⟨(w.heap.size + 1), 1, none⟩ = some (.int .i64 vn) := keep_cell hb1 (by go_simp)
  have v2 : w1.cell? ⟨(w.heap.size + 1), 2, none⟩ = some (.int .i64 vb) := keep_cell hb1 (by go_simp)
  have uL : w.heap.size < w1.heap.size := block_lt_of_cell u0
  have vL : (w.heap.size + 1) < w1.heap.size := block_lt_of_cell v0
  have HB : Hid (Below w.heap.size w w1) := (by repeat (first | with_reducible exact Below.refl _ _ | with_reducible refine bel_alloc ?_ _ | with_reducible refine bel_set ?_ (by first | exact Nat.le_refl _ | (simp; done) | (simp; omega)) _ | with_reducible refine Below.drew ?_ | refine bel_trans ?_ (by assumption)))
  clear hb1
  go_wp2_with fail
  refine (HR.out _ HB.out).mono ?_
  rintro e w2 ⟨rfl, hb2⟩
  replace u0 : w2.cell? ⟨w.heap.size, 0, none⟩ = some (.int .i64 uk) := keep_cell hb2 (by go_simp)
  replace u1 : w2.cell? ⟨w.heap.size, 1, none⟩ = some (.int .i64 (nn : Int)) := keep_cell hb2 (by go_simp)
  replace u2 : w2.cell? ⟨w.heap.size, 2, none⟩ = some (.int .i64 ub) := keep_cell hb2 (by go_simp)
  replace v0 : w2.cell? ⟨(w.heap.size + 1), 0, none⟩ = some (.int .i64 vk) := keep_cell hb2 (by go_simp)
  replace v1 : w2.cell? ⟨(w.heap.size + 1), 1, none⟩ = some (.int .i64 vn) := keep_cell hb2 (by go_simp)
  replace v2 : w2.cell? ⟨(w.heap.size + 1), 2, none⟩ = some (.int .i64 vb) := keep_cell hb2 (by go_simp)
  replace uL : w.heap.size < w2.heap.size := block_lt_of_cell u0
  replace vL : (w.heap.size + 1) < w2.heap.size := block_lt_of_cell v0
  replace HB : Hid (Below w.heap.size w w2) := bel_trans HB.out hb2
  clear hb2
  have c0 := keep_cell HB.out e0
  have c1 := keep_cell HB.out e1
  go_wp2_with fail
  clear HR hk
  refine wp_region_held_drew (S := (fun w' => w'.cell? ⟨w.heap.size, 1, none⟩ = some (.int .i64 (nn : Int)) ∧ w'.cell? ⟨w.heap.size, 2, none⟩ = some (.int .i64 ub) ∧ w'.cell? ⟨p, 0, none⟩ = some (.slice (some ⟨g, 0, none⟩) l cap) ∧ w'.cell? ⟨g, kk * 2, none⟩ = some (.slice (some ⟨bb, 0, none⟩) ln ln))) (by kernel_rfl) (⟨u1, u2, c0, c1⟩) (fun hHeld => ?_)
  refine wpAnyH_take (i := 0) (oi := ?oia0) (v := ?vva0) ?hia0 (by kernel_rfl) (by kernel_rfl) (by kernel_rfl) ?hqa0 ?hya0 hHeld ?_
  case hia0 => simp only [List.getElem?_toArray, List.getElem?_cons_succ, List.getElem?_cons_zero]; rfl
  case hqa0 => exact fun _ _ _ h => h
  case hya0 => (refine Or.inl ⟨by rfl, ?_⟩; intro w' hSw; (try dsimp only at hSw); go_simp; (try (with_reducible rfl)))
  simp only [Act.put, List.setIfInBounds_toArray, List.set_cons_zero, List.set_cons_succ]
  refine wpAnyH_take (i := 1) (oi := ?oia1) (v := ?vva1) ?hia1 (by kernel_rfl) (by kernel_rfl) (by kernel_rfl) ?hqa1 ?hya1 hHeld ?_
  case hia1 => simp only [List.getElem?_toArray, List.getElem?_cons_succ, List.getElem?_cons_zero]; rfl
  case hqa1 => exact fun _ _ _ h => h
  case hya1 => (refine Or.inl ⟨by rfl, ?_⟩; intro w' hSw; (try dsimp only at hSw); go_simp; (try (with_reducible rfl)))
  simp only [Act.put, List.setIfInBounds_toArray, List.set_cons_zero, List.set_cons_succ]
  refine wpAnyH_take (i := 2) (oi := ?oia2) (v := ?vva2) ?hia2 (by kernel_rfl) (by kernel_rfl) (by kernel_rfl) ?hqa2 ?hya2 hHeld ?_
  case hia2 => simp only [List.getElem?_toArray, List.getElem?_cons_succ, List.getElem?_cons_zero]; rfl
  case hqa2 => exact fun _ _ _ h => h
  case hya2 => (refine Or.inl ⟨by rfl, ?_⟩; intro w' hSw; (try dsimp only at hSw); go_simp; (try (with_reducible rfl)))
  simp only [Act.put, List.setIfInBounds_toArray, List.set_cons_zero, List.set_cons_succ]
  refine wpAnyH_take (i := 3) (oi := ?oia3) (v := ?vva3) ?hia3 (by kernel_rfl) (by kernel_rfl) (by kernel_rfl) ?hqa3 ?hya3 hHeld ?_
  case hia3 => simp only [List.getElem?_toArray, List.getElem?_cons_succ, List.getElem?_cons_zero]; rfl
  case hqa3 => exact fun _ _ _ h => h
  case hya3 => (refine Or.inl ⟨by rfl, ?_⟩; intro w' hSw; (try dsimp only at hSw); go_simp; (try (with_reducible rfl)))
  simp only [Act.put, List.setIfInBounds_toArray, List.set_cons_zero, List.set_cons_succ]
  refine wpAnyH_take (i := 4) (oi := ?oia4) (v := ?vva4) ?hia4 (by kernel_rfl) (by kernel_rfl) (by kernel_rfl) ?hqa4 ?hya4 hHeld ?_
  case hia4 => simp only [List.getElem?_toArray, List.getElem?_cons_succ, List.getElem?_cons_zero]; rfl
  case hqa4 => exact fun _ _ _ h => h
  case hya4 => (refine Or.inl ⟨by rfl, ?_⟩; intro w' hSw; (try dsimp only at hSw); go_simp; (try (with_reducible rfl)))
  simp only [Act.put, List.setIfInBounds_toArray, List.set_cons_zero, List.set_cons_succ]
  refine wpAnyH_take (i := 5) (oi := ?oia5) (v := ?vva5) ?hia5 (by kernel_rfl) (by kernel_rfl) (by kernel_rfl) ?hqa5 ?hya5 hHeld ?_
  case hia5 => simp only [List.getElem?_toArray, List.getElem?_cons_succ, List.getElem?_cons_zero]; rfl
  case hqa5 => exact fun _ _ _ h => h
  case hya5 => (refine Or.inl ⟨by rfl, ?_⟩; intro w' hSw; (try dsimp only at hSw); go_simp; (try (with_reducible rfl)))
  simp only [Act.put, List.setIfInBounds_toArray, List.set_cons_zero, List.set_cons_succ]
  refine wpAnyH_take (i := 6) (oi := ?oia6) (v := ?vva6) ?hia6 (by kernel_rfl) (by kernel_rfl) (by kernel_rfl) ?hqa6 ?hya6 hHeld ?_
  case hia6 => simp only [List.getElem?_toArray, List.getElem?_cons_succ, List.getElem?_cons_zero]; rfl
  case hqa6 => exact fun _ _ _ h => h
  case hya6 => (refine Or.inl ⟨by rfl, ?_⟩; intro w' hSw; (try dsimp only at hSw); go_simp; (try (with_reducible rfl)))
  simp only [Act.put, List.setIfInBounds_toArray, List.set_cons_zero, List.set_cons_succ]
  refine wpAnyH_take (i := 7) (oi := ?oia7) (v := ?vva7) ?hia7 (by kernel_rfl) (by kernel_rfl) (by kernel_rfl) ?hqa7 ?hya7 hHeld ?_
  case hia7 => simp only [List.getElem?_toArray, List.getElem?_cons_succ, List.getElem?_cons_zero]; rfl
  case hqa7 => exact fun _ _ _ h => h
  case hya7 => (refine Or.inl ⟨by rfl, ?_⟩; intro w' hSw; (try dsimp only at hSw); go_simp; (try (with_reducible rfl)))
  simp only [Act.put, List.setIfInBounds_toArray, List.set_cons_zero, List.set_cons_succ]
  refine wpAnyH_take (i := 8) (oi := ?oia8) (v := ?vva8) ?hia8 (by kernel_rfl) (by kernel_rfl) (by kernel_rfl) ?hqa8 ?hya8 hHeld ?_
  case hia8 => simp only [List.getElem?_toArray, List.getElem?_cons_succ, List.getElem?_cons_zero]; rfl
  case hqa8 => exact fun _ _ _ h => h
  case hya8 => (refine Or.inl ⟨by rfl, ?_⟩; intro w' hSw; (try dsimp only at hSw); go_simp; (try (with_reducible rfl)))
  simp only [Act.put, List.setIfInBounds_toArray, List.set_cons_zero, List.set_cons_succ]
  refine wpAnyH_take (i := 9) (oi := ?oia9) (v := ?vva9) ?hia9 (by kernel_rfl) (by kernel_rfl) (by kernel_rfl) ?hqa9 ?hya9 hHeld ?_
  case hia9 => simp only [List.getElem?_toArray, List.getElem?_cons_succ, List.getElem?_cons_zero]; rfl
  case hqa9 => exact fun _ _ _ h => h
  case hya9 => (refine Or.inl ⟨by rfl, ?_⟩; intro w' hSw; (try dsimp only at hSw); go_simp; (try (with_reducible rfl)))
  simp only [Act.put, List.setIfInBounds_toArray, List.set_cons_zero, List.set_cons_succ]
  refine wpAnyH_take (i := 10) (oi := ?oia10) (v := ?vva10) ?hia10 (by kernel_rfl) (by kernel_rfl) (by kernel_rfl) ?hqa10 ?hya10 hHeld ?_
  case hia10 => simp only [List.getElem?_toArray, List.getElem?_cons_succ, List.getElem?_cons_zero]; rfl
  case hqa10 => exact fun _ _ _ h => h
  case hya10 => (refine Or.inl ⟨by rfl, ?_⟩; intro w' hSw; (try dsimp only at hSw); go_simp; (try (with_reducible rfl)))
  simp only [Act.put, List.setIfInBounds_toArray, List.set_cons_zero, List.set_cons_succ]
  refine wpAnyH_take (i := 11) (oi := ?oia11) (v := ?vva11) ?hia11 (by kernel_rfl) (by kernel_rfl) (by kernel_rfl) ?hqa11 ?hya11 hHeld ?_
  case hia11 => simp only [List.getElem?_toArray, List.getElem?_cons_succ, List.getElem?_cons_zero]; rfl
  case hqa11 => exact fun _ _ _ h => h
  case hya11 => (refine Or.inl ⟨by rfl, ?_⟩; intro w' hSw; (try dsimp only at hSw); go_simp; (try (with_reducible rfl)))
  simp only [Act.put, List.setIfInBounds_toArray, List.set_cons_zero, List.set_cons_succ]
  refine wpAnyH_take (i := 12) (oi := ?oia12) (v := ?vva12) ?hia12 (by kernel_rfl) (by kernel_rfl) (by kernel_rfl) ?hqa12 ?hya12 hHeld ?_
  case hia12 => simp only [List.getElem?_toArray, List.getElem?_cons_succ, List.getElem?_cons_zero]; rfl
  case hqa12 => exact fun _ _ _ h => h
  case hya12 => (refine Or.inl ⟨by rfl, ?_⟩; intro w' hSw; (try dsimp only at hSw); go_simp; (try (with_reducible rfl)))
  simp only [Act.put, List.setIfInBounds_toArray, List.set_cons_zero, List.set_cons_succ]
  refine wpAnyH_take (i := 13) (oi := ?oia13) (v := ?vva13) ?hia13 (by kernel_rfl) (by kernel_rfl) (by kernel_rfl) ?hqa13 ?hya13 hHeld ?_
  case hia13 => simp only [List.getElem?_toArray, List.getElem?_cons_succ, List.getElem?_cons_zero]; rfl
  case hqa13 => exact fun _ _ _ h => h
  case hya13 => (refine Or.inl ⟨by rfl, ?_⟩; intro w' hSw; (try dsimp only at hSw); go_simp; (try (with_reducible rfl)))
  simp only [Act.put, List.setIfInBounds_toArray, List.set_cons_zero, List.set_cons_succ]
  refine wpAnyH_take (i := 14) (oi := ?oia14) (v := ?vva14) ?hia14 (by kernel_rfl) (by kernel_rfl) (by kernel_rfl) ?hqa14 ?hya14 hHeld ?_
  case hia14 => simp only [List.getElem?_toArray, List.getElem?_cons_succ, List.getElem?_cons_zero]; rfl
  case hqa14 => exact fun _ _ _ h => h
  case hya14 => (refine Or.inl ⟨by rfl, ?_⟩; intro w' hSw; (try dsimp only at hSw); go_simp; (try (with_reducible rfl)))
  simp only [Act.put, List.setIfInBounds_toArray, List.set_cons_zero, List.set_cons_succ]
  refine wpAnyH_take (i := 15) (oi := ?oia15) (v := ?vva15) ?hia15 (by kernel_rfl) (by kernel_rfl) (by kernel_rfl) ?hqa15 ?hya15 hHeld ?_
  case hia15 => simp only [List.getElem?_toArray, List.getElem?_cons_succ, List.getElem?_cons_zero]; rfl
  case hqa15 => exact fun _ _ _ h => h
  case hya15 => (refine Or.inl ⟨by rfl, ?_⟩; intro w' hSw; (try dsimp only at hSw); go_simp; (try (with_reducible rfl)))
  simp only [Act.put, List.setIfInBounds_toArray, List.set_cons_zero, List.set_cons_succ]
  refine wpAnyH_take (i := 16) (oi := ?oia16) (v := ?vva16) ?hia16 (by kernel_rfl) (by kernel_rfl) (by kernel_rfl) ?hqa16 ?hya16 hHeld ?_
  case hia16 => simp only [List.getElem?_toArray, List.getElem?_cons_succ, List.getElem?_cons_zero]; rfl
  case hqa16 => exact fun _ _ _ h => h
  case hya16 => (refine Or.inl ⟨by rfl, ?_⟩; intro w' hSw; (try dsimp only at hSw); go_simp; (try (with_reducible rfl)))
  simp only [Act.put, List.setIfInBounds_toArray, List.set_cons_zero, List.set_cons_succ]
  refine wpAnyH_take (i := 17) (oi := ?oia17) (v := ?vva17) ?hia17 (by kernel_rfl) (by kernel_rfl) (by kernel_rfl) ?hqa17 ?hya17 hHeld ?_
  case hia17 => simp only [List.getElem?_toArray, List.getElem?_cons_succ, List.getElem?_cons_zero]; rfl
  case hqa17 => exact fun _ _ _ h => h
  case hya17 => (refine Or.inl ⟨by rfl, ?_⟩; intro w' hSw; (try dsimp only at hSw); go_simp; (try (with_reducible rfl)))
  simp only [Act.put, List.setIfInBounds_toArray, List.set_cons_zero, List.set_cons_succ]
  refine wpAnyH_done (by kernel_rfl) ?_ _
  have H0 : Hid (RowAt w2 w2.drew bb (wrt bs nn (fun _ => -1) 0)) := ⟨rfl, rfl, rfl, Nat.le_refl _, fun k _ _ => rfl, (HB.out.block bb (row_lt HRW.out)).trans HRW.out⟩
  clear hHeld
  go_wp2
  go_loopw [11] (fun v wr => ∃ i : Nat, i ≤ cc ∧ v = .int .i64 i ∧ Hid (RowAt w2 wr bb (wrt bs nn (fun _ => -1) i))) (fun v _ => cc - (intOf v).toNat)
  case atStart => exact ⟨0, by omega, rfl, H0⟩
  case round =>
    obtain ⟨i, hi, rfl, HA⟩ := hrel
    by_cases him : i < cc
    · have i0 : (0 : Int) ≤ i := by omega
      have i1 : (i : Int) < cc := by omega
      have ci := HA.out.at (o := nn + i) (by rw [wrt_len, ← HM.out]; omega)
      have fi := HA.out.fz (nn + i)
      have x0 := HA.out.cell v0 HN.out
      have x1 := HA.out.cell v1 HN.out
      have x2 := HA.out.cell v2 HN.out
      generalize (wrt bs nn (fun _ => -1) i)[nn + i]'(by rw [wrt_len, ← HM.out]; omega) = y at ci
      have HK : Hid (∀ W, Below (wr.setCell ⟨bb, nn + i, none⟩ (.int .i64 (-1))).heap.size (wr.setCell ⟨bb, nn + i, none⟩ (.int .i64 (-1))) W → RowAt w2 W bb ((wrt bs nn (fun _ => -1) i).set (nn + i) (-1))) := fun W h => (HA.out.set (nn + i) (-1)).below h
      have hnb : ¬ (w.heap.size + 1 = bb) := HN.out
      have hnb' : ¬ (bb = w.heap.size + 1) := fun h => HN.out h.symm
      go_wp2_with fail
      clear hnb hnb'
      refine (rgoodR_to vk vn vb false _ HG).mono ?_
      rintro e wm ⟨rfl, hbm⟩
      have HS : Hid (RowAt w2 wm bb ((wrt bs nn (fun _ => -1) i).set (nn + i) (-1))) := HK.out _ hbm
      clear hbm HK ci fi x0 x1 x2
      go_wp2
      go_roundw
      case rel => exact ⟨i + 1, by omega, by simp, HS⟩
      case measure => simp [intOf]; omega
    · have hie : i = cc := by omega
      subst hie
      go_wp2
      go_ret
      exact ⟨rfl, RowAt.of_below HB.out HA.out⟩


set_option maxHeartbeats 4000000 in
theorem rstore_un (p l cap g kk bb ln nn : Nat) (cc : Nat) (uk ub vk vn vb : Int) (bs : List Int) (w : World) (HG : Hid (goodF ⟨vk, vn, vb⟩ = true)) (q2 : (vk == 2) = false) (q1 : (vk == 1) = false) (HR : Hid (∀ W, Below w.heap.size w W → Calls Try.prog 37 #[.pointer (some ⟨p, 0, none⟩), .int .i64 (cc : Int), .agg #[.int .i64 uk, .int .i64 (nn : Int), .int .i64 ub]] W (retP (.bool true) W)))
    (e0 : w.cell? ⟨p, 0, none⟩ = some (.slice (some ⟨g, 0, none⟩) l cap)) (e1 : w.cell? ⟨g, kk * 2, none⟩ = some (.slice (some ⟨bb, 0, none⟩) ln ln)) (hk : ub - 1 = kk) (hl : (kk : Int) < l) (hl2 : (l : Int) ≤ 100000) (hln : (ln : Int) ≤ 65536) (hc0 : (0 : Int) < (cc : Int)) (hc8 : ((cc : Int) : Int) ≤ 8) (hnc : (nn : Int) + (cc : Int) ≤ ln) (hrow : w.heap[bb]? = some (.cells (intCells bs) 3 (0, 0))) (hbs : ln = bs.length) :
    Calls Try.prog 16 #[.pointer (some ⟨p, 0, none⟩), .int .i64 (cc : Int), .agg #[.int .i64 uk, .int .i64 (nn : Int), .int .i64 ub], .agg #[.int .i64 vk, .int .i64 vn, .int .i64 vb]] w fun e w' => e = .returned (.bool true) ∧ RowAt w w' bb (wrt bs nn (fun _ => -1) cc) := by
  have hw1 : IntKind.i64.wrap (ub - 1) = (kk : Int) := by rw [i64w, hk]; unfold wrap64; omega
  have hw2 : IntKind.i64.wrap ((nn : Int) + (cc : Int)) = (nn : Int) + (cc : Int) := by rw [i64w]; unfold wrap64; omega
  have kk0 : (0 : Int) ≤ kk := by omega
  have kkn : ((kk : Int)).toNat = kk := by omega
  have nn0 : (0 : Int) ≤ nn := by omega
  have nnh : (nn : Int) ≤ (nn : Int) + (cc : Int) := by omega
  have nnt : ((nn : Int) + (cc : Int)).toNat = nn + cc := by omega
  have nne : ¬ ln = nn := by omega
  have HM : Hid (ln = bs.length) := hbs
  have HN : Hid (w.heap.size + 1 ≠ bb) := by have := row_lt hrow; show _ ≠ _; omega
  have HRW : Hid (w.heap[bb]? = some (.cells (intCells bs) 3 (0, 0))) := hrow
  clear hrow hbs
  go_enter Try.func16, Try.ntmps16
  go_wp2_with fail
  refine (rgoodR_to vk vn vb true _ HG).mono ?_
  rintro e w1 ⟨rfl, hb1⟩
  have u0 : w1.cell? ⟨w.heap.size, 0, none⟩ = some (.int .i64 uk) := keep_cell hb1 (by go_simp)
  have u1 : w1.cell? ⟨w.heap.size, 1, none⟩ = some (.int .i64 (nn : Int)) := keep_cell hb1 (by go_simp)
  have u2 : w1.cell? ⟨w.heap.size, 2, none⟩ = some (.int .i64 ub) := keep_cell hb1 (by go_simp)
  have v0 : w1.cell? ⟨(w.heap.size + 1), 0, none⟩ = some (.int .i64 vk) := keep_cell hb1 (by go_simp)
  have v1 : w1.cell? ⟨(w.heap.size + 1), 1, none⟩ = some (.int .i64 vn) := keep_cell hb1 (by go_simp)
  have v2 : w1.cell? ⟨(w.heap.size + 1), 2, none⟩ = some (.int .i64 vb) := keep_cell hb1 (by go_simp)
  have uL : w.heap.size < w1.heap.size := block_lt_of_cell u0
  have vL : (w.heap.size + 1) < w1.heap.size := block_lt_of_cell v0
  have HB : Hid (Below w.heap.size w w1) := (by repeat (first | with_reducible exact Below.refl _ _ | with_reducible refine bel_alloc ?_ _ | with_reducible refine bel_set ?_ (by first | exact Nat.le_refl _ | (simp; done) | (simp; omega)) _ | with_reducible refine Below.drew ?_ | refine bel_trans ?_ (by assumption)))
  clear hb1
  go_wp2_with fail
  refine (HR.out _ HB.out).mono ?_
  rintro e w2 ⟨rfl, hb2⟩
  replace u0 : w2.cell? ⟨w.heap.size, 0, none⟩ = some (.int .i64 uk) := keep_cell hb2 (by go_simp)
  replace u1 : w2.cell? ⟨w.heap.size, 1, none⟩ = some (.int .i64 (nn : Int)) := keep_cell hb2 (by go_simp)
  replace u2 : w2.cell? ⟨w.heap.size, 2, none⟩ = some (.int .i64 ub) := keep_cell hb2 (by go_simp)
  replace v0 : w2.cell? ⟨(w.heap.size + 1), 0, none⟩ = some (.int .i64 vk) := keep_cell hb2 (by go_simp)
  replace v1 : w2.cell? ⟨(w.heap.size + 1), 1, none⟩ = some (.int .i64 vn) := keep_cell hb2 (by go_simp)
  replace v2 : w2.cell? ⟨(w.heap.size + 1), 2, none⟩ = some (.int .i64 vb) := keep_cell hb2 (by go_simp)
  replace uL : w.heap.size < w2.heap.size := block_lt_of_cell u0
  replace vL : (w.heap.size + 1) < w2.heap.size := block_lt_of_cell v0
  replace HB : Hid (Below w.heap.size w w2) := bel_trans HB.out hb2
  clear hb2
  have c0 := keep_cell HB.out e0
  have c1 := keep_cell HB.out e1
  go_wp2_with fail
  clear HR hk
  refine wp_region_held_drew (S := (fun w' => w'.cell? ⟨w.heap.size, 1, none⟩ = some (.int .i64 (nn : Int)) ∧ w'.cell? ⟨w.heap.size, 2, none⟩ = some (.int .i64 ub) ∧ w'.cell? ⟨p, 0, none⟩ = some (.slice (some ⟨g, 0, none⟩) l cap) ∧ w'.cell? ⟨g, kk * 2, none⟩ = some (.slice (some ⟨bb, 0, none⟩) ln ln))) (by kernel_rfl) (⟨u1, u2, c0, c1⟩) (fun hHeld => ?_)
  refine wpAnyH_take (i := 0) (oi := ?oib0) (v := ?vvb0) ?hib0 (by kernel_rfl) (by kernel_rfl) (by kernel_rfl) ?hqb0 ?hyb0 hHeld ?_
  case hib0 => simp only [List.getElem?_toArray, List.getElem?_cons_succ, List.getElem?_cons_zero]; rfl
  case hqb0 => exact fun _ _ _ h => h
  case hyb0 => (refine Or.inl ⟨by rfl, ?_⟩; intro w' hSw; (try dsimp only at hSw); go_simp; (try (with_reducible rfl)))
  simp only [Act.put, List.setIfInBounds_toArray, List.set_cons_zero, List.set_cons_succ]
  refine wpAnyH_take (i := 1) (oi := ?oib1) (v := ?vvb1) ?hib1 (by kernel_rfl) (by kernel_rfl) (by kernel_rfl) ?hqb1 ?hyb1 hHeld ?_
  case hib1 => simp only [List.getElem?_toArray, List.getElem?_cons_succ, List.getElem?_cons_zero]; rfl
  case hqb1 => exact fun _ _ _ h => h
  case hyb1 => (refine Or.inl ⟨by rfl, ?_⟩; intro w' hSw; (try dsimp only at hSw); go_simp; (try (with_reducible rfl)))
  simp only [Act.put, List.setIfInBounds_toArray, List.set_cons_zero, List.set_cons_succ]
  refine wpAnyH_take (i := 2) (oi := ?oib2) (v := ?vvb2) ?hib2 (by kernel_rfl) (by kernel_rfl) (by kernel_rfl) ?hqb2 ?hyb2 hHeld ?_
  case hib2 => simp only [List.getElem?_toArray, List.getElem?_cons_succ, List.getElem?_cons_zero]; rfl
  case hqb2 => exact fun _ _ _ h => h
  case hyb2 => (refine Or.inl ⟨by rfl, ?_⟩; intro w' hSw; (try dsimp only at hSw); go_simp; (try (with_reducible rfl)))
  simp only [Act.put, List.setIfInBounds_toArray, List.set_cons_zero, List.set_cons_succ]
  refine wpAnyH_take (i := 3) (oi := ?oib3) (v := ?vvb3) ?hib3 (by kernel_rfl) (by kernel_rfl) (by kernel_rfl) ?hqb3 ?hyb3 hHeld ?_
  case hib3 => simp only [List.getElem?_toArray, List.getElem?_cons_succ, List.getElem?_cons_zero]; rfl
  case hqb3 => exact fun _ _ _ h => h
  case hyb3 => (refine Or.inl ⟨by rfl, ?_⟩; intro w' hSw; (try dsimp only at hSw); go_simp; (try (with_reducible rfl)))
  simp only [Act.put, List.setIfInBounds_toArray, List.set_cons_zero, List.set_cons_succ]
  refine wpAnyH_take (i := 4) (oi := ?oib4) (v := ?vvb4) ?hib4 (by kernel_rfl) (by kernel_rfl) (by kernel_rfl) ?hqb4 ?hyb4 hHeld ?_
  case hib4 => simp only [List.getElem?_toArray, List.getElem?_cons_succ, List.getElem?_cons_zero]; rfl
  case hqb4 => exact fun _ _ _ h => h
  case hyb4 => (refine Or.inl ⟨by rfl, ?_⟩; intro w' hSw; (try dsimp only at hSw); go_simp; (try (with_reducible rfl)))
  simp only [Act.put, List.setIfInBounds_toArray, List.set_cons_zero, List.set_cons_succ]
  refine wpAnyH_take (i := 5) (oi := ?oib5) (v := ?vvb5) ?hib5 (by kernel_rfl) (by kernel_rfl) (by kernel_rfl) ?hqb5 ?hyb5 hHeld ?_
  case hib5 => simp only [List.getElem?_toArray, List.getElem?_cons_succ, List.getElem?_cons_zero]; rfl
  case hqb5 => exact fun _ _ _ h => h
  case hyb5 => (refine Or.inl ⟨by rfl, ?_⟩; intro w' hSw; (try dsimp only at hSw); go_simp; (try (with_reducible rfl)))
  simp only [Act.put, List.setIfInBounds_toArray, List.set_cons_zero, List.set_cons_succ]
  refine wpAnyH_take (i := 6) (oi := ?oib6) (v := ?vvb6) ?hib6 (by kernel_rfl) (by kernel_rfl) (by kernel_rfl) ?hqb6 ?hyb6 hHeld ?_
  case hib6 => simp only [List.getElem?_toArray, List.getElem?_cons_succ, List.getElem?_cons_zero]; rfl
  case hqb6 => exact fun _ _ _ h => h
  case hyb6 => (refine Or.inl ⟨by rfl, ?_⟩; intro w' hSw; (try dsimp only at hSw); go_simp; (try (with_reducible rfl)))
  simp only [Act.put, List.setIfInBounds_toArray, List.set_cons_zero, List.set_cons_succ]
  refine wpAnyH_take (i := 7) (oi := ?oib7) (v := ?vvb7) ?hib7 (by kernel_rfl) (by kernel_rfl) (by kernel_rfl) ?hqb7 ?hyb7 hHeld ?_
  case hib7 => simp only [List.getElem?_toArray, List.getElem?_cons_succ, List.getElem?_cons_zero]; rfl
  case hqb7 => exact fun _ _ _ h => h
  case hyb7 => (refine Or.inl ⟨by rfl, ?_⟩; intro w' hSw; (try dsimp only at hSw); go_simp; (try (with_reducible rfl)))
  simp only [Act.put, List.setIfInBounds_toArray, List.set_cons_zero, List.set_cons_succ]
  refine wpAnyH_take (i := 8) (oi := ?oib8) (v := ?vvb8) ?hib8 (by kernel_rfl) (by kernel_rfl) (by kernel_rfl) ?hqb8 ?hyb8 hHeld ?_
  case hib8 => simp only [List.getElem?_toArray, List.getElem?_cons_succ, List.getElem?_cons_zero]; rfl
  case hqb8 => exact fun _ _ _ h => h
  case hyb8 => (refine Or.inl ⟨by rfl, ?_⟩; intro w' hSw; (try dsimp only at hSw); go_simp; (try (with_reducible rfl)))
  simp only [Act.put, List.setIfInBounds_toArray, List.set_cons_zero, List.set_cons_succ]
  refine wpAnyH_take (i := 9) (oi := ?oib9) (v := ?vvb9) ?hib9 (by kernel_rfl) (by kernel_rfl) (by kernel_rfl) ?hqb9 ?hyb9 hHeld ?_
  case hib9 => simp only [List.getElem?_toArray, List.getElem?_cons_succ, List.getElem?_cons_zero]; rfl
  case hqb9 => exact fun _ _ _ h => h
  case hyb9 => (refine Or.inl ⟨by rfl, ?_⟩; intro w' hSw; (try dsimp only at hSw); go_simp; (try (with_reducible rfl)))
  simp only [Act.put, List.setIfInBounds_toArray, List.set_cons_zero, List.set_cons_succ]
  refine wpAnyH_take (i := 10) (oi := ?oib10) (v := ?vvb10) ?hib10 (by kernel_rfl) (by kernel_rfl) (by kernel_rfl) ?hqb10 ?hyb10 hHeld ?_
  case hib10 => simp only [List.getElem?_toArray, List.getElem?_cons_succ, List.getElem?_cons_zero]; rfl
  case hqb10 => exact fun _ _ _ h => h
  case hyb10 => (refine Or.inl ⟨by rfl, ?_⟩; intro w' hSw; (try dsimp only at hSw); go_simp; (try (with_reducible rfl)))
  simp only [Act.put, List.setIfInBounds_toArray, List.set_cons_zero, List.set_cons_succ]
  refine wpAnyH_take (i := 11) (oi := ?oib11) (v := ?vvb11) ?hib11 (by kernel_rfl) (by kernel_rfl) (by kernel_rfl) ?hqb11 ?hyb11 hHeld ?_
  case hib11 => simp only [List.getElem?_toArray, List.getElem?_cons_succ, List.getElem?_cons_zero]; rfl
  case hqb11 => exact fun _ _ _ h => h
  case hyb11 => (refine Or.inl ⟨by rfl, ?_⟩; intro w' hSw; (try dsimp only at hSw); go_simp; (try (with_reducible rfl)))
  simp only [Act.put, List.setIfInBounds_toArray, List.set_cons_zero, List.set_cons_succ]
  refine wpAnyH_take (i := 12) (oi := ?oib12) (v := ?vvb12) ?hib12 (by kernel_rfl) (by kernel_rfl) (by kernel_rfl) ?hqb12 ?hyb12 hHeld ?_
  case hib12 => simp only [List.getElem?_toArray, List.getElem?_cons_succ, List.getElem?_cons_zero]; rfl
  case hqb12 => exact fun _ _ _ h => h
  case hyb12 => (refine Or.inl ⟨by rfl, ?_⟩; intro w' hSw; (try dsimp only at hSw); go_simp; (try (with_reducible rfl)))
  simp only [Act.put, List.setIfInBounds_toArray, List.set_cons_zero, List.set_cons_succ]
  refine wpAnyH_take (i := 13) (oi := ?oib13) (v := ?vvb13) ?hib13 (by kernel_rfl) (by kernel_rfl) (by kernel_rfl) ?hqb13 ?hyb13 hHeld ?_
  case hib13 => simp only [List.getElem?_toArray, List.getElem?_cons_succ, List.getElem?_cons_zero]; rfl
  case hqb13 => exact fun _ _ _ h => h
  case hyb13 => (refine Or.inl ⟨by rfl, ?_⟩; intro w' hSw; (try dsimp only at hSw); go_simp; (try (with_reducible rfl)))
  simp only [Act.put, List.setIfInBounds_toArray, List.set_cons_zero, List.set_cons_succ]
  refine wpAnyH_take (i := 14) (oi := ?oib14) (v := ?vvb14) ?hib14 (by kernel_rfl) (by kernel_rfl) (by kernel_rfl) ?hqb14 ?hyb14 hHeld ?_
  case hib14 => simp only [List.getElem?_toArray, List.getElem?_cons_succ, List.getElem?_cons_zero]; rfl
  case hqb14 => exact fun _ _ _ h => h
  case hyb14 => (refine Or.inl ⟨by rfl, ?_⟩; intro w' hSw; (try dsimp only at hSw); go_simp; (try (with_reducible rfl)))
  simp only [Act.put, List.setIfInBounds_toArray, List.set_cons_zero, List.set_cons_succ]
  refine wpAnyH_take (i := 15) (oi := ?oib15) (v := ?vvb15) ?hib15 (by kernel_rfl) (by kernel_rfl) (by kernel_rfl) ?hqb15 ?hyb15 hHeld ?_
  case hib15 => simp only [List.getElem?_toArray, List.getElem?_cons_succ, List.getElem?_cons_zero]; rfl
  case hqb15 => exact fun _ _ _ h => h
  case hyb15 => (refine Or.inl ⟨by rfl, ?_⟩; intro w' hSw; (try dsimp only at hSw); go_simp; (try (with_reducible rfl)))
  simp only [Act.put, List.setIfInBounds_toArray, List.set_cons_zero, List.set_cons_succ]
  refine wpAnyH_take (i := 16) (oi := ?oib16) (v := ?vvb16) ?hib16 (by kernel_rfl) (by kernel_rfl) (by kernel_rfl) ?hqb16 ?hyb16 hHeld ?_
  case hib16 => simp only [List.getElem?_toArray, List.getElem?_cons_succ, List.getElem?_cons_zero]; rfl
  case hqb16 => exact fun _ _ _ h => h
  case hyb16 => (refine Or.inl ⟨by rfl, ?_⟩; intro w' hSw; (try dsimp only at hSw); go_simp; (try (with_reducible rfl)))
  simp only [Act.put, List.setIfInBounds_toArray, List.set_cons_zero, List.set_cons_succ]
  refine wpAnyH_take (i := 17) (oi := ?oib17) (v := ?vvb17) ?hib17 (by kernel_rfl) (by kernel_rfl) (by kernel_rfl) ?hqb17 ?hyb17 hHeld ?_
  case hib17 => simp only [List.getElem?_toArray, List.getElem?_cons_succ, List.getElem?_cons_zero]; rfl
  case hqb17 => exact fun _ _ _ h => h
  case hyb17 => (refine Or.inl ⟨by rfl, ?_⟩; intro w' hSw; (try dsimp only at hSw); go_simp; (try (with_reducible rfl)))
  simp only [Act.put, List.setIfInBounds_toArray, List.set_cons_zero, List.set_cons_succ]
  refine wpAnyH_done (by kernel_rfl) ?_ _
  have H0 : Hid (RowAt w2 w2.drew bb (wrt bs nn (fun _ => -1) 0)) := ⟨rfl, rfl, rfl, Nat.le_refl _, fun k _ _ => rfl, (HB.out.block bb (row_lt HRW.out)).trans HRW.out⟩
  clear hHeld
  go_wp2
  go_loopw [11] (fun v wr => ∃ i : Nat, i ≤ cc ∧ v = .int .i64 i ∧ Hid (RowAt w2 wr bb (wrt bs nn (fun _ => -1) i))) (fun v _ => cc - (intOf v).toNat)
  case atStart => exact ⟨0, by omega, rfl, H0⟩
  case round =>
    obtain ⟨i, hi, rfl, HA⟩ := hrel
    by_cases him : i < cc
    · have i0 : (0 : Int) ≤ i := by omega
      have i1 : (i : Int) < cc := by omega
      have ci := HA.out.at (o := nn + i) (by rw [wrt_len, ← HM.out]; omega)
      have fi := HA.out.fz (nn + i)
      have x0 := HA.out.cell v0 HN.out
      have x1 := HA.out.cell v1 HN.out
      have x2 := HA.out.cell v2 HN.out
      generalize (wrt bs nn (fun _ => -1) i)[nn + i]'(by rw [wrt_len, ← HM.out]; omega) = y at ci
      have HK : Hid (∀ W, Below (wr.setCell ⟨bb, nn + i, none⟩ (.int .i64 (-1))).heap.size (wr.setCell ⟨bb, nn + i, none⟩ (.int .i64 (-1))) W → RowAt w2 W bb ((wrt bs nn (fun _ => -1) i).set (nn + i) (-1))) := fun W h => (HA.out.set (nn + i) (-1)).below h
      have hnb : ¬ (w.heap.size + 1 = bb) := HN.out
      have hnb' : ¬ (bb = w.heap.size + 1) := fun h => HN.out h.symm
      go_wp2_with fail
      clear hnb hnb'
      refine (rgoodR_to vk vn vb true _ HG).mono ?_
      rintro e wm ⟨rfl, hbm⟩
      have HS : Hid (RowAt w2 wm bb ((wrt bs nn (fun _ => -1) i).set (nn + i) (-1))) := HK.out _ hbm
      clear hbm HK ci fi x0 x1 x2
      have x0 := HS.out.cell v0 HN.out
      go_wp2
      go_roundw
      case rel => exact ⟨i + 1, by omega, by simp, HS⟩
      case measure => simp [intOf]; omega
    · have hie : i = cc := by omega
      subst hie
      go_wp2
      go_ret
      exact ⟨rfl, RowAt.of_below HB.out HA.out⟩


set_option maxHeartbeats 4000000 in
theorem rstore_int (p l cap g kk bb ln nn : Nat) (cc : Nat) (uk ub vn vb : Int) (bs : List Int) (w : World) (HG : Hid (goodF ⟨1, vn, vb⟩ = true))  (HR : Hid (∀ W, Below w.heap.size w W → Calls Try.prog 37 #[.pointer (some ⟨p, 0, none⟩), .int .i64 (cc : Int), .agg #[.int .i64 uk, .int .i64 (nn : Int), .int .i64 ub]] W (retP (.bool true) W)))
    (e0 : w.cell? ⟨p, 0, none⟩ = some (.slice (some ⟨g, 0, none⟩) l cap)) (e1 : w.cell? ⟨g, kk * 2, none⟩ = some (.slice (some ⟨bb, 0, none⟩) ln ln)) (hk : ub - 1 = kk) (hl : (kk : Int) < l) (hl2 : (l : Int) ≤ 100000) (hln : (ln : Int) ≤ 65536) (hc0 : (0 : Int) < (cc : Int)) (hc8 : ((cc : Int) : Int) ≤ 8) (hnc : (nn : Int) + (cc : Int) ≤ ln) (hrow : w.heap[bb]? = some (.cells (intCells bs) 3 (0, 0))) (hbs : ln = bs.length) :
    Calls Try.prog 16 #[.pointer (some ⟨p, 0, none⟩), .int .i64 (cc : Int), .agg #[.int .i64 uk, .int .i64 (nn : Int), .int .i64 ub], .agg #[.int .i64 1, .int .i64 vn, .int .i64 vb]] w fun e w' => e = .returned (.bool true) ∧ RowAt w w' bb (wrt bs nn (fun i => bits .and .i64 (vn / 2 ^ (8 * i)) 255) cc) := by
  have hw1 : IntKind.i64.wrap (ub - 1) = (kk : Int) := by rw [i64w, hk]; unfold wrap64; omega
  have hw2 : IntKind.i64.wrap ((nn : Int) + (cc : Int)) = (nn : Int) + (cc : Int) := by rw [i64w]; unfold wrap64; omega
  have kk0 : (0 : Int) ≤ kk := by omega
  have kkn : ((kk : Int)).toNat = kk := by omega
  have nn0 : (0 : Int) ≤ nn := by omega
  have nnh : (nn : Int) ≤ (nn : Int) + (cc : Int) := by omega
  have nnt : ((nn : Int) + (cc : Int)).toNat = nn + cc := by omega
  have nne : ¬ ln = nn := by omega
  have HM : Hid (ln = bs.length) := hbs
  have HN : Hid (w.heap.size + 1 ≠ bb) := by have := row_lt hrow; show _ ≠ _; omega
  have HRW : Hid (w.heap[bb]? = some (.cells (intCells bs) 3 (0, 0))) := hrow
  clear hrow hbs
  go_enter Try.func16, Try.ntmps16
  go_wp2_with fail
  refine (rgoodR_to 1 vn vb true _ HG).mono ?_
  rintro e w1 ⟨rfl, hb1⟩
  have u0 : w1.cell? ⟨w.heap.size, 0, none⟩ = some (.int .i64 uk) := keep_cell hb1 (by go_simp)
  have u1 : w1.cell? ⟨w.heap.size, 1, none⟩ = some (.int .i64 (nn : Int)) := keep_cell hb1 (by go_simp)
  have u2 : w1.cell? ⟨w.heap.size, 2, none⟩ = some (.int .i64 ub) := keep_cell hb1 (by go_simp)
  have v0 : w1.cell? ⟨(w.heap.size + 1), 0, none⟩ = some (.int .i64 1) := keep_cell hb1 (by go_simp)
  have v1 : w1.cell? ⟨(w.heap.size + 1), 1, none⟩ = some (.int .i64 vn) := keep_cell hb1 (by go_simp)
  have v2 : w1.cell? ⟨(w.heap.size + 1), 2, none⟩ = some (.int .i64 vb) := keep_cell hb1 (by go_simp)
  have uL : w.heap.size < w1.heap.size := block_lt_of_cell u0
  have vL : (w.heap.size + 1) < w1.heap.size := block_lt_of_cell v0
  have HB : Hid (Below w.heap.size w w1) := (by repeat (first | with_reducible exact Below.refl _ _ | with_reducible refine bel_alloc ?_ _ | with_reducible refine bel_set ?_ (by first | exact Nat.le_refl _ | (simp; done) | (simp; omega)) _ | with_reducible refine Below.drew ?_ | refine bel_trans ?_ (by assumption)))
  clear hb1
  go_wp2_with fail
  refine (HR.out _ HB.out).mono ?_
  rintro e w2 ⟨rfl, hb2⟩
  replace u0 : w2.cell? ⟨w.heap.size, 0, none⟩ = some (.int .i64 uk) := keep_cell hb2 (by go_simp)
  replace u1 : w2.cell? ⟨w.heap.size, 1, none⟩ = some (.int .i64 (nn : Int)) := keep_cell hb2 (by go_simp)
  replace u2 : w2.cell? ⟨w.heap.size, 2, none⟩ = some (.int .i64 ub) := keep_cell hb2 (by go_simp)
  replace v0 : w2.cell? ⟨(w.heap.size + 1), 0, none⟩ = some (.int .i64 1) := keep_cell hb2 (by go_simp)
  replace v1 : w2.cell? ⟨(w.heap.size + 1), 1, none⟩ = some (.int .i64 vn) := keep_cell hb2 (by go_simp)
  replace v2 : w2.cell? ⟨(w.heap.size + 1), 2, none⟩ = some (.int .i64 vb) := keep_cell hb2 (by go_simp)
  replace uL : w.heap.size < w2.heap.size := block_lt_of_cell u0
  replace vL : (w.heap.size + 1) < w2.heap.size := block_lt_of_cell v0
  replace HB : Hid (Below w.heap.size w w2) := bel_trans HB.out hb2
  clear hb2
  have c0 := keep_cell HB.out e0
  have c1 := keep_cell HB.out e1
  go_wp2_with fail
  clear HR hk
  refine wp_region_held_drew (S := (fun w' => w'.cell? ⟨w.heap.size, 1, none⟩ = some (.int .i64 (nn : Int)) ∧ w'.cell? ⟨w.heap.size, 2, none⟩ = some (.int .i64 ub) ∧ w'.cell? ⟨p, 0, none⟩ = some (.slice (some ⟨g, 0, none⟩) l cap) ∧ w'.cell? ⟨g, kk * 2, none⟩ = some (.slice (some ⟨bb, 0, none⟩) ln ln))) (by kernel_rfl) (⟨u1, u2, c0, c1⟩) (fun hHeld => ?_)
  refine wpAnyH_take (i := 0) (oi := ?oic0) (v := ?vvc0) ?hic0 (by kernel_rfl) (by kernel_rfl) (by kernel_rfl) ?hqc0 ?hyc0 hHeld ?_
  case hic0 => simp only [List.getElem?_toArray, List.getElem?_cons_succ, List.getElem?_cons_zero]; rfl
  case hqc0 => exact fun _ _ _ h => h
  case hyc0 => (refine Or.inl ⟨by rfl, ?_⟩; intro w' hSw; (try dsimp only at hSw); go_simp; (try (with_reducible rfl)))
  simp only [Act.put, List.setIfInBounds_toArray, List.set_cons_zero, List.set_cons_succ]
  refine wpAnyH_take (i := 1) (oi := ?oic1) (v := ?vvc1) ?hic1 (by kernel_rfl) (by kernel_rfl) (by kernel_rfl) ?hqc1 ?hyc1 hHeld ?_
  case hic1 => simp only [List.getElem?_toArray, List.getElem?_cons_succ, List.getElem?_cons_zero]; rfl
  case hqc1 => exact fun _ _ _ h => h
  case hyc1 => (refine Or.inl ⟨by rfl, ?_⟩; intro w' hSw; (try dsimp only at hSw); go_simp; (try (with_reducible rfl)))
  simp only [Act.put, List.setIfInBounds_toArray, List.set_cons_zero, List.set_cons_succ]
  refine wpAnyH_take (i := 2) (oi := ?oic2) (v := ?vvc2) ?hic2 (by kernel_rfl) (by kernel_rfl) (by kernel_rfl) ?hqc2 ?hyc2 hHeld ?_
  case hic2 => simp only [List.getElem?_toArray, List.getElem?_cons_succ, List.getElem?_cons_zero]; rfl
  case hqc2 => exact fun _ _ _ h => h
  case hyc2 => (refine Or.inl ⟨by rfl, ?_⟩; intro w' hSw; (try dsimp only at hSw); go_simp; (try (with_reducible rfl)))
  simp only [Act.put, List.setIfInBounds_toArray, List.set_cons_zero, List.set_cons_succ]
  refine wpAnyH_take (i := 3) (oi := ?oic3) (v := ?vvc3) ?hic3 (by kernel_rfl) (by kernel_rfl) (by kernel_rfl) ?hqc3 ?hyc3 hHeld ?_
  case hic3 => simp only [List.getElem?_toArray, List.getElem?_cons_succ, List.getElem?_cons_zero]; rfl
  case hqc3 => exact fun _ _ _ h => h
  case hyc3 => (refine Or.inl ⟨by rfl, ?_⟩; intro w' hSw; (try dsimp only at hSw); go_simp; (try (with_reducible rfl)))
  simp only [Act.put, List.setIfInBounds_toArray, List.set_cons_zero, List.set_cons_succ]
  refine wpAnyH_take (i := 4) (oi := ?oic4) (v := ?vvc4) ?hic4 (by kernel_rfl) (by kernel_rfl) (by kernel_rfl) ?hqc4 ?hyc4 hHeld ?_
  case hic4 => simp only [List.getElem?_toArray, List.getElem?_cons_succ, List.getElem?_cons_zero]; rfl
  case hqc4 => exact fun _ _ _ h => h
  case hyc4 => (refine Or.inl ⟨by rfl, ?_⟩; intro w' hSw; (try dsimp only at hSw); go_simp; (try (with_reducible rfl)))
  simp only [Act.put, List.setIfInBounds_toArray, List.set_cons_zero, List.set_cons_succ]
  refine wpAnyH_take (i := 5) (oi := ?oic5) (v := ?vvc5) ?hic5 (by kernel_rfl) (by kernel_rfl) (by kernel_rfl) ?hqc5 ?hyc5 hHeld ?_
  case hic5 => simp only [List.getElem?_toArray, List.getElem?_cons_succ, List.getElem?_cons_zero]; rfl
  case hqc5 => exact fun _ _ _ h => h
  case hyc5 => (refine Or.inl ⟨by rfl, ?_⟩; intro w' hSw; (try dsimp only at hSw); go_simp; (try (with_reducible rfl)))
  simp only [Act.put, List.setIfInBounds_toArray, List.set_cons_zero, List.set_cons_succ]
  refine wpAnyH_take (i := 6) (oi := ?oic6) (v := ?vvc6) ?hic6 (by kernel_rfl) (by kernel_rfl) (by kernel_rfl) ?hqc6 ?hyc6 hHeld ?_
  case hic6 => simp only [List.getElem?_toArray, List.getElem?_cons_succ, List.getElem?_cons_zero]; rfl
  case hqc6 => exact fun _ _ _ h => h
  case hyc6 => (refine Or.inl ⟨by rfl, ?_⟩; intro w' hSw; (try dsimp only at hSw); go_simp; (try (with_reducible rfl)))
  simp only [Act.put, List.setIfInBounds_toArray, List.set_cons_zero, List.set_cons_succ]
  refine wpAnyH_take (i := 7) (oi := ?oic7) (v := ?vvc7) ?hic7 (by kernel_rfl) (by kernel_rfl) (by kernel_rfl) ?hqc7 ?hyc7 hHeld ?_
  case hic7 => simp only [List.getElem?_toArray, List.getElem?_cons_succ, List.getElem?_cons_zero]; rfl
  case hqc7 => exact fun _ _ _ h => h
  case hyc7 => (refine Or.inl ⟨by rfl, ?_⟩; intro w' hSw; (try dsimp only at hSw); go_simp; (try (with_reducible rfl)))
  simp only [Act.put, List.setIfInBounds_toArray, List.set_cons_zero, List.set_cons_succ]
  refine wpAnyH_take (i := 8) (oi := ?oic8) (v := ?vvc8) ?hic8 (by kernel_rfl) (by kernel_rfl) (by kernel_rfl) ?hqc8 ?hyc8 hHeld ?_
  case hic8 => simp only [List.getElem?_toArray, List.getElem?_cons_succ, List.getElem?_cons_zero]; rfl
  case hqc8 => exact fun _ _ _ h => h
  case hyc8 => (refine Or.inl ⟨by rfl, ?_⟩; intro w' hSw; (try dsimp only at hSw); go_simp; (try (with_reducible rfl)))
  simp only [Act.put, List.setIfInBounds_toArray, List.set_cons_zero, List.set_cons_succ]
  refine wpAnyH_take (i := 9) (oi := ?oic9) (v := ?vvc9) ?hic9 (by kernel_rfl) (by kernel_rfl) (by kernel_rfl) ?hqc9 ?hyc9 hHeld ?_
  case hic9 => simp only [List.getElem?_toArray, List.getElem?_cons_succ, List.getElem?_cons_zero]; rfl
  case hqc9 => exact fun _ _ _ h => h
  case hyc9 => (refine Or.inl ⟨by rfl, ?_⟩; intro w' hSw; (try dsimp only at hSw); go_simp; (try (with_reducible rfl)))
  simp only [Act.put, List.setIfInBounds_toArray, List.set_cons_zero, List.set_cons_succ]
  refine wpAnyH_take (i := 10) (oi := ?oic10) (v := ?vvc10) ?hic10 (by kernel_rfl) (by kernel_rfl) (by kernel_rfl) ?hqc10 ?hyc10 hHeld ?_
  case hic10 => simp only [List.getElem?_toArray, List.getElem?_cons_succ, List.getElem?_cons_zero]; rfl
  case hqc10 => exact fun _ _ _ h => h
  case hyc10 => (refine Or.inl ⟨by rfl, ?_⟩; intro w' hSw; (try dsimp only at hSw); go_simp; (try (with_reducible rfl)))
  simp only [Act.put, List.setIfInBounds_toArray, List.set_cons_zero, List.set_cons_succ]
  refine wpAnyH_take (i := 11) (oi := ?oic11) (v := ?vvc11) ?hic11 (by kernel_rfl) (by kernel_rfl) (by kernel_rfl) ?hqc11 ?hyc11 hHeld ?_
  case hic11 => simp only [List.getElem?_toArray, List.getElem?_cons_succ, List.getElem?_cons_zero]; rfl
  case hqc11 => exact fun _ _ _ h => h
  case hyc11 => (refine Or.inl ⟨by rfl, ?_⟩; intro w' hSw; (try dsimp only at hSw); go_simp; (try (with_reducible rfl)))
  simp only [Act.put, List.setIfInBounds_toArray, List.set_cons_zero, List.set_cons_succ]
  refine wpAnyH_take (i := 12) (oi := ?oic12) (v := ?vvc12) ?hic12 (by kernel_rfl) (by kernel_rfl) (by kernel_rfl) ?hqc12 ?hyc12 hHeld ?_
  case hic12 => simp only [List.getElem?_toArray, List.getElem?_cons_succ, List.getElem?_cons_zero]; rfl
  case hqc12 => exact fun _ _ _ h => h
  case hyc12 => (refine Or.inl ⟨by rfl, ?_⟩; intro w' hSw; (try dsimp only at hSw); go_simp; (try (with_reducible rfl)))
  simp only [Act.put, List.setIfInBounds_toArray, List.set_cons_zero, List.set_cons_succ]
  refine wpAnyH_take (i := 13) (oi := ?oic13) (v := ?vvc13) ?hic13 (by kernel_rfl) (by kernel_rfl) (by kernel_rfl) ?hqc13 ?hyc13 hHeld ?_
  case hic13 => simp only [List.getElem?_toArray, List.getElem?_cons_succ, List.getElem?_cons_zero]; rfl
  case hqc13 => exact fun _ _ _ h => h
  case hyc13 => (refine Or.inl ⟨by rfl, ?_⟩; intro w' hSw; (try dsimp only at hSw); go_simp; (try (with_reducible rfl)))
  simp only [Act.put, List.setIfInBounds_toArray, List.set_cons_zero, List.set_cons_succ]
  refine wpAnyH_take (i := 14) (oi := ?oic14) (v := ?vvc14) ?hic14 (by kernel_rfl) (by kernel_rfl) (by kernel_rfl) ?hqc14 ?hyc14 hHeld ?_
  case hic14 => simp only [List.getElem?_toArray, List.getElem?_cons_succ, List.getElem?_cons_zero]; rfl
  case hqc14 => exact fun _ _ _ h => h
  case hyc14 => (refine Or.inl ⟨by rfl, ?_⟩; intro w' hSw; (try dsimp only at hSw); go_simp; (try (with_reducible rfl)))
  simp only [Act.put, List.setIfInBounds_toArray, List.set_cons_zero, List.set_cons_succ]
  refine wpAnyH_take (i := 15) (oi := ?oic15) (v := ?vvc15) ?hic15 (by kernel_rfl) (by kernel_rfl) (by kernel_rfl) ?hqc15 ?hyc15 hHeld ?_
  case hic15 => simp only [List.getElem?_toArray, List.getElem?_cons_succ, List.getElem?_cons_zero]; rfl
  case hqc15 => exact fun _ _ _ h => h
  case hyc15 => (refine Or.inl ⟨by rfl, ?_⟩; intro w' hSw; (try dsimp only at hSw); go_simp; (try (with_reducible rfl)))
  simp only [Act.put, List.setIfInBounds_toArray, List.set_cons_zero, List.set_cons_succ]
  refine wpAnyH_take (i := 16) (oi := ?oic16) (v := ?vvc16) ?hic16 (by kernel_rfl) (by kernel_rfl) (by kernel_rfl) ?hqc16 ?hyc16 hHeld ?_
  case hic16 => simp only [List.getElem?_toArray, List.getElem?_cons_succ, List.getElem?_cons_zero]; rfl
  case hqc16 => exact fun _ _ _ h => h
  case hyc16 => (refine Or.inl ⟨by rfl, ?_⟩; intro w' hSw; (try dsimp only at hSw); go_simp; (try (with_reducible rfl)))
  simp only [Act.put, List.setIfInBounds_toArray, List.set_cons_zero, List.set_cons_succ]
  refine wpAnyH_take (i := 17) (oi := ?oic17) (v := ?vvc17) ?hic17 (by kernel_rfl) (by kernel_rfl) (by kernel_rfl) ?hqc17 ?hyc17 hHeld ?_
  case hic17 => simp only [List.getElem?_toArray, List.getElem?_cons_succ, List.getElem?_cons_zero]; rfl
  case hqc17 => exact fun _ _ _ h => h
  case hyc17 => (refine Or.inl ⟨by rfl, ?_⟩; intro w' hSw; (try dsimp only at hSw); go_simp; (try (with_reducible rfl)))
  simp only [Act.put, List.setIfInBounds_toArray, List.set_cons_zero, List.set_cons_succ]
  refine wpAnyH_done (by kernel_rfl) ?_ _
  have H0 : Hid (RowAt w2 w2.drew bb (wrt bs nn (fun i => bits .and .i64 (vn / 2 ^ (8 * i)) 255) 0)) := ⟨rfl, rfl, rfl, Nat.le_refl _, fun k _ _ => rfl, (HB.out.block bb (row_lt HRW.out)).trans HRW.out⟩
  clear hHeld
  go_wp2
  go_loopw [11] (fun v wr => ∃ i : Nat, i ≤ cc ∧ v = .int .i64 i ∧ Hid (RowAt w2 wr bb (wrt bs nn (fun i => bits .and .i64 (vn / 2 ^ (8 * i)) 255) i))) (fun v _ => cc - (intOf v).toNat)
  case atStart => exact ⟨0, by omega, rfl, H0⟩
  case round =>
    obtain ⟨i, hi, rfl, HA⟩ := hrel
    by_cases him : i < cc
    · have i0 : (0 : Int) ≤ i := by omega
      have i1 : (i : Int) < cc := by omega
      have ci := HA.out.at (o := nn + i) (by rw [wrt_len, ← HM.out]; omega)
      have fi := HA.out.fz (nn + i)
      have x0 := HA.out.cell v0 HN.out
      have x1 := HA.out.cell v1 HN.out
      have x2 := HA.out.cell v2 HN.out
      generalize (wrt bs nn (fun i => bits .and .i64 (vn / 2 ^ (8 * i)) 255) i)[nn + i]'(by rw [wrt_len, ← HM.out]; omega) = y at ci
      have HK : Hid (∀ W, Below (wr.setCell ⟨bb, nn + i, none⟩ (.int .i64 (-1))).heap.size (wr.setCell ⟨bb, nn + i, none⟩ (.int .i64 (-1))) W → RowAt w2 W bb ((wrt bs nn (fun i => bits .and .i64 (vn / 2 ^ (8 * i)) 255) i).set (nn + i) (-1))) := fun W h => (HA.out.set (nn + i) (-1)).below h
      have hnb : ¬ (w.heap.size + 1 = bb) := HN.out
      have hnb' : ¬ (bb = w.heap.size + 1) := fun h => HN.out h.symm
      go_wp2_with fail
      clear hnb hnb'
      refine (rgoodR_to 1 vn vb true _ HG).mono ?_
      rintro e wm ⟨rfl, hbm⟩
      have HS : Hid (RowAt w2 wm bb ((wrt bs nn (fun i => bits .and .i64 (vn / 2 ^ (8 * i)) 255) i).set (nn + i) (-1))) := HK.out _ hbm
      clear hbm HK ci fi x0 x1 x2
      have x0 := HS.out.cell v0 HN.out
      have x1 := HS.out.cell v1 HN.out
      have ci := HS.out.at (o := nn + i) (by rw [List.length_set, wrt_len, ← HM.out]; omega)
      have fi := HS.out.fz (nn + i)
      generalize ((wrt bs nn (fun i => bits .and .i64 (vn / 2 ^ (8 * i)) 255) i).set (nn + i) (-1))[nn + i]'(by rw [List.length_set, wrt_len, ← HM.out]; omega) = y2 at ci
      go_wp2
      go_roundw
      case rel => 
        refine ⟨i + 1, by omega, by simp, ?_⟩
        have h := HS.out.set (nn + i) (bits .and .i64 (vn / 2 ^ (8 * i)) 255)
        rw [List.set_set] at h
        exact h
      case measure => simp [intOf]; omega
    · have hie : i = cc := by omega
      subst hie
      go_wp2
      go_ret
      exact ⟨rfl, RowAt.of_below HB.out HA.out⟩

end Go.Proofs.Ytnklpccggbkknaa
