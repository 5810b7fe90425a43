/- A struct of three integers in a block, carried over calls, new blocks and stores elsewhere. -/
import Derived.Test.YtfkalcfkbaimgabDoorFrame
import Derived.Deep.DeepCutAuto
import Derived.Deep.RegionHeld3
import Derived.Deep.Light
namespace Go.Proofs.YtfkalcfkbaimgabDoor
open Go.ChangeShapes Go.WideShapes Go.ChangeAt Go.RowKit Pl

theorem bel_drewN {B : Nat} {a w : World} (h : Below B a w) (n : Nat) : Below B a (w.drewN n) := ⟨h.os, h.tape, h.output, h.size, h.block⟩
abbrev C3 (w : World) (B : Nat) (k n b : Int) : Prop :=
  w.cell? ⟨B, 0, none⟩ = some (.int .i64 k) ∧ w.cell? ⟨B, 1, none⟩ = some (.int .i64 n) ∧ w.cell? ⟨B, 2, none⟩ = some (.int .i64 b) ∧ B < w.heap.size
theorem C3.call {W v : World} {B : Nat} {k n b : Int} (h : C3 W B k n b) (hb : Below W.heap.size W v) : C3 v B k n b :=
  ⟨keep_cell hb h.1, keep_cell hb h.2.1, keep_cell hb h.2.2.1, Nat.lt_of_lt_of_le h.2.2.2 hb.size⟩
theorem C3.alloc {w : World} {B : Nat} {k n b : Int} (h : C3 w B k n b) (o : Obj) : C3 (w.alloc o) B k n b :=
  ⟨keep_alloc h.1 o, keep_alloc h.2.1 o, keep_alloc h.2.2.1 o, by rw [World.size_alloc]; have := h.2.2.2; omega⟩
theorem C3.realloc {w : World} {B : Nat} {k n b : Int} {o o' : Obj} (h : C3 (w.alloc o) B k n b) (hlt : B < w.heap.size) : C3 (w.alloc o') B k n b := by
  obtain ⟨h0, h1, h2, _⟩ := h
  rw [World.cell?_alloc_lt w o _ hlt] at h0 h1 h2
  exact C3.alloc ⟨h0, h1, h2, hlt⟩ o'
theorem size_set (w : World) (p : Addr) (u : Value) : (w.setCell p u).heap.size = w.heap.size := by simp [World.setCell]
theorem C3.set {w : World} {B B' : Nat} {k n b : Int} {u0 u1 u2 : Value} (h : C3 w B k n b) (hne : B ≠ B') :
    C3 (((w.setCell ⟨B', 0, none⟩ u0).setCell ⟨B', 1, none⟩ u1).setCell ⟨B', 2, none⟩ u2) B k n b :=
  ⟨keep_set (keep_set (keep_set h.1 hne) hne) hne, keep_set (keep_set (keep_set h.2.1 hne) hne) hne, keep_set (keep_set (keep_set h.2.2.1 hne) hne) hne, by rw [size_set, size_set, size_set]; exact h.2.2.2⟩
theorem C3.below {W v : World} {B : Nat} {k n b : Int} (h : C3 W B k n b) (hb : Below W.heap.size W v) : C3 v B k n b := h.call hb
theorem C3.mk' {w : World} {B : Nat} {k n b : Int} (h0 : w.cell? ⟨B, 0, none⟩ = some (.int .i64 k)) (h1 : w.cell? ⟨B, 1, none⟩ = some (.int .i64 n)) (h2 : w.cell? ⟨B, 2, none⟩ = some (.int .i64 b)) : C3 w B k n b :=
  ⟨h0, h1, h2, block_lt_of_cell h0⟩

theorem callS1 {W v : World} {B0 : Nat} {k0 n0 b0 : Int} (hb : Below W.heap.size W v) (h : C3 W B0 k0 n0 b0) : C3 v B0 k0 n0 b0 := C3.call (h) hb
theorem allocS1 {w : World} {B0 : Nat} {k0 n0 b0 : Int} {o : Obj} (h : C3 w B0 k0 n0 b0) : C3 (w.alloc o) B0 k0 n0 b0 := C3.alloc (h) o
theorem drewS1 {w : World} {B0 : Nat} {k0 n0 b0 : Int} (h : C3 w B0 k0 n0 b0) : C3 w.drew B0 k0 n0 b0 := h
theorem setS1 {w : World} {B0 B' : Nat} {k0 n0 b0 : Int} {u0 u1 u2 : Value} (h : C3 w B0 k0 n0 b0) (e0 : B0 ≠ B') :
    C3 (((w.setCell ⟨B', 0, none⟩ u0).setCell ⟨B', 1, none⟩ u1).setCell ⟨B', 2, none⟩ u2) B0 k0 n0 b0 := C3.set (h) e0
theorem callS2 {W v : World} {B0 B1 : Nat} {k0 n0 b0 k1 n1 b1 : Int} (hb : Below W.heap.size W v) (h : C3 W B0 k0 n0 b0 ∧ C3 W B1 k1 n1 b1) : C3 v B0 k0 n0 b0 ∧ C3 v B1 k1 n1 b1 := ⟨C3.call (h.1) hb, C3.call (h.2) hb⟩
theorem allocS2 {w : World} {B0 B1 : Nat} {k0 n0 b0 k1 n1 b1 : Int} {o : Obj} (h : C3 w B0 k0 n0 b0 ∧ C3 w B1 k1 n1 b1) : C3 (w.alloc o) B0 k0 n0 b0 ∧ C3 (w.alloc o) B1 k1 n1 b1 := ⟨C3.alloc (h.1) o, C3.alloc (h.2) o⟩
theorem drewS2 {w : World} {B0 B1 : Nat} {k0 n0 b0 k1 n1 b1 : Int} (h : C3 w B0 k0 n0 b0 ∧ C3 w B1 k1 n1 b1) : C3 w.drew B0 k0 n0 b0 ∧ C3 w.drew B1 k1 n1 b1 := h
theorem setS2 {w : World} {B0 B1 B' : Nat} {k0 n0 b0 k1 n1 b1 : Int} {u0 u1 u2 : Value} (h : C3 w B0 k0 n0 b0 ∧ C3 w B1 k1 n1 b1) (e0 : B0 ≠ B') (e1 : B1 ≠ B') :
    C3 (((w.setCell ⟨B', 0, none⟩ u0).setCell ⟨B', 1, none⟩ u1).setCell ⟨B', 2, none⟩ u2) B0 k0 n0 b0 ∧ C3 (((w.setCell ⟨B', 0, none⟩ u0).setCell ⟨B', 1, none⟩ u1).setCell ⟨B', 2, none⟩ u2) B1 k1 n1 b1 := ⟨C3.set (h.1) e0, C3.set (h.2) e1⟩
theorem callS3 {W v : World} {B0 B1 B2 : Nat} {k0 n0 b0 k1 n1 b1 k2 n2 b2 : Int} (hb : Below W.heap.size W v) (h : C3 W B0 k0 n0 b0 ∧ C3 W B1 k1 n1 b1 ∧ C3 W B2 k2 n2 b2) : C3 v B0 k0 n0 b0 ∧ C3 v B1 k1 n1 b1 ∧ C3 v B2 k2 n2 b2 := ⟨C3.call (h.1) hb, C3.call (h.2.1) hb, C3.call (h.2.2) hb⟩
theorem allocS3 {w : World} {B0 B1 B2 : Nat} {k0 n0 b0 k1 n1 b1 k2 n2 b2 : Int} {o : Obj} (h : C3 w B0 k0 n0 b0 ∧ C3 w B1 k1 n1 b1 ∧ C3 w B2 k2 n2 b2) : C3 (w.alloc o) B0 k0 n0 b0 ∧ C3 (w.alloc o) B1 k1 n1 b1 ∧ C3 (w.alloc o) B2 k2 n2 b2 := ⟨C3.alloc (h.1) o, C3.alloc (h.2.1) o, C3.alloc (h.2.2) o⟩
theorem drewS3 {w : World} {B0 B1 B2 : Nat} {k0 n0 b0 k1 n1 b1 k2 n2 b2 : Int} (h : C3 w B0 k0 n0 b0 ∧ C3 w B1 k1 n1 b1 ∧ C3 w B2 k2 n2 b2) : C3 w.drew B0 k0 n0 b0 ∧ C3 w.drew B1 k1 n1 b1 ∧ C3 w.drew B2 k2 n2 b2 := h
theorem setS3 {w : World} {B0 B1 B2 B' : Nat} {k0 n0 b0 k1 n1 b1 k2 n2 b2 : Int} {u0 u1 u2 : Value} (h : C3 w B0 k0 n0 b0 ∧ C3 w B1 k1 n1 b1 ∧ C3 w B2 k2 n2 b2) (e0 : B0 ≠ B') (e1 : B1 ≠ B') (e2 : B2 ≠ B') :
    C3 (((w.setCell ⟨B', 0, none⟩ u0).setCell ⟨B', 1, none⟩ u1).setCell ⟨B', 2, none⟩ u2) B0 k0 n0 b0 ∧ C3 (((w.setCell ⟨B', 0, none⟩ u0).setCell ⟨B', 1, none⟩ u1).setCell ⟨B', 2, none⟩ u2) B1 k1 n1 b1 ∧ C3 (((w.setCell ⟨B', 0, none⟩ u0).setCell ⟨B', 1, none⟩ u1).setCell ⟨B', 2, none⟩ u2) B2 k2 n2 b2 := ⟨C3.set (h.1) e0, C3.set (h.2.1) e1, C3.set (h.2.2) e2⟩
theorem callS4 {W v : World} {B0 B1 B2 B3 : Nat} {k0 n0 b0 k1 n1 b1 k2 n2 b2 k3 n3 b3 : Int} (hb : Below W.heap.size W v) (h : C3 W B0 k0 n0 b0 ∧ C3 W B1 k1 n1 b1 ∧ C3 W B2 k2 n2 b2 ∧ C3 W B3 k3 n3 b3) : C3 v B0 k0 n0 b0 ∧ C3 v B1 k1 n1 b1 ∧ C3 v B2 k2 n2 b2 ∧ C3 v B3 k3 n3 b3 := ⟨C3.call (h.1) hb, C3.call (h.2.1) hb, C3.call (h.2.2.1) hb, C3.call (h.2.2.2) hb⟩
theorem allocS4 {w : World} {B0 B1 B2 B3 : Nat} {k0 n0 b0 k1 n1 b1 k2 n2 b2 k3 n3 b3 : Int} {o : Obj} (h : C3 w B0 k0 n0 b0 ∧ C3 w B1 k1 n1 b1 ∧ C3 w B2 k2 n2 b2 ∧ C3 w B3 k3 n3 b3) : C3 (w.alloc o) B0 k0 n0 b0 ∧ C3 (w.alloc o) B1 k1 n1 b1 ∧ C3 (w.alloc o) B2 k2 n2 b2 ∧ C3 (w.alloc o) B3 k3 n3 b3 := ⟨C3.alloc (h.1) o, C3.alloc (h.2.1) o, C3.alloc (h.2.2.1) o, C3.alloc (h.2.2.2) o⟩
theorem drewS4 {w : World} {B0 B1 B2 B3 : Nat} {k0 n0 b0 k1 n1 b1 k2 n2 b2 k3 n3 b3 : Int} (h : C3 w B0 k0 n0 b0 ∧ C3 w B1 k1 n1 b1 ∧ C3 w B2 k2 n2 b2 ∧ C3 w B3 k3 n3 b3) : C3 w.drew B0 k0 n0 b0 ∧ C3 w.drew B1 k1 n1 b1 ∧ C3 w.drew B2 k2 n2 b2 ∧ C3 w.drew B3 k3 n3 b3 := h
theorem setS4 {w : World} {B0 B1 B2 B3 B' : Nat} {k0 n0 b0 k1 n1 b1 k2 n2 b2 k3 n3 b3 : Int} {u0 u1 u2 : Value} (h : C3 w B0 k0 n0 b0 ∧ C3 w B1 k1 n1 b1 ∧ C3 w B2 k2 n2 b2 ∧ C3 w B3 k3 n3 b3) (e0 : B0 ≠ B') (e1 : B1 ≠ B') (e2 : B2 ≠ B') (e3 : B3 ≠ B') :
    C3 (((w.setCell ⟨B', 0, none⟩ u0).setCell ⟨B', 1, none⟩ u1).setCell ⟨B', 2, none⟩ u2) B0 k0 n0 b0 ∧ C3 (((w.setCell ⟨B', 0, none⟩ u0).setCell ⟨B', 1, none⟩ u1).setCell ⟨B', 2, none⟩ u2) B1 k1 n1 b1 ∧ C3 (((w.setCell ⟨B', 0, none⟩ u0).setCell ⟨B', 1, none⟩ u1).setCell ⟨B', 2, none⟩ u2) B2 k2 n2 b2 ∧ C3 (((w.setCell ⟨B', 0, none⟩ u0).setCell ⟨B', 1, none⟩ u1).setCell ⟨B', 2, none⟩ u2) B3 k3 n3 b3 := ⟨C3.set (h.1) e0, C3.set (h.2.1) e1, C3.set (h.2.2.1) e2, C3.set (h.2.2.2) e3⟩
theorem reallocS1 {w : World} {B0 : Nat} {k0 n0 b0 : Int} {o o' : Obj} (h : C3 (w.alloc o) B0 k0 n0 b0) (e0 : B0 < w.heap.size) : C3 (w.alloc o') B0 k0 n0 b0 := C3.realloc (h) e0
theorem reallocS2 {w : World} {B0 B1 : Nat} {k0 n0 b0 k1 n1 b1 : Int} {o o' : Obj} (h : C3 (w.alloc o) B0 k0 n0 b0 ∧ C3 (w.alloc o) B1 k1 n1 b1) (e0 : B0 < w.heap.size) (e1 : B1 < w.heap.size) : C3 (w.alloc o') B0 k0 n0 b0 ∧ C3 (w.alloc o') B1 k1 n1 b1 := ⟨C3.realloc (h.1) e0, C3.realloc (h.2) e1⟩
theorem reallocS3 {w : World} {B0 B1 B2 : Nat} {k0 n0 b0 k1 n1 b1 k2 n2 b2 : Int} {o o' : Obj} (h : C3 (w.alloc o) B0 k0 n0 b0 ∧ C3 (w.alloc o) B1 k1 n1 b1 ∧ C3 (w.alloc o) B2 k2 n2 b2) (e0 : B0 < w.heap.size) (e1 : B1 < w.heap.size) (e2 : B2 < w.heap.size) : C3 (w.alloc o') B0 k0 n0 b0 ∧ C3 (w.alloc o') B1 k1 n1 b1 ∧ C3 (w.alloc o') B2 k2 n2 b2 := ⟨C3.realloc (h.1) e0, C3.realloc (h.2.1) e1, C3.realloc (h.2.2) e2⟩
theorem reallocS4 {w : World} {B0 B1 B2 B3 : Nat} {k0 n0 b0 k1 n1 b1 k2 n2 b2 k3 n3 b3 : Int} {o o' : Obj} (h : C3 (w.alloc o) B0 k0 n0 b0 ∧ C3 (w.alloc o) B1 k1 n1 b1 ∧ C3 (w.alloc o) B2 k2 n2 b2 ∧ C3 (w.alloc o) B3 k3 n3 b3) (e0 : B0 < w.heap.size) (e1 : B1 < w.heap.size) (e2 : B2 < w.heap.size) (e3 : B3 < w.heap.size) : C3 (w.alloc o') B0 k0 n0 b0 ∧ C3 (w.alloc o') B1 k1 n1 b1 ∧ C3 (w.alloc o') B2 k2 n2 b2 ∧ C3 (w.alloc o') B3 k3 n3 b3 := ⟨C3.realloc (h.1) e0, C3.realloc (h.2.1) e1, C3.realloc (h.2.2.1) e2, C3.realloc (h.2.2.2) e3⟩
end Go.Proofs.YtfkalcfkbaimgabDoor
