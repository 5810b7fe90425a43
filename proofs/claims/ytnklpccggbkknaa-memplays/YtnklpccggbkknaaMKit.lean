/- The contracts with their answers as letters; several memories beside one another; what every row of this seat owes. -/
import Derived.Test.YtnklpccggbkknaaMSame2
import Derived.ProofKit
import Derived.OpenShut
namespace Go.Proofs.Ytnklpccggbkknaa
open Go.ChangeShapes Go.WideShapes Go.ChangeAt Go.RowKit Pl
set_option linter.unusedSimpArgs false
set_option linter.unusedVariables false

/-- What a call that may write the memory leaves. -/
def Wrote (base p : Nat) (R : Nat → Option Role) (M' : List AB) (v : Value) (w : World) : Ending → World → Prop := fun e w' =>
  e = .returned v ∧ ∃ R', Mem w' base p R' M' ∧ MFr R R' w w'
variable {w w' : World} {base base' p p' : Nat} {R R' Q : Nat → Option Role} {M N : List AB}
theorem alloc_to (h : Mem w base p R M) (x : Int) {M' : List AB} {n e : Int} (he : allocM M x = (M', n, e)) :
    Calls Try.prog 9 #[.pointer (some ⟨p, 0, none⟩), .int .i64 x] w (Wrote base p R M' (.tuple #[.int .i64 n, .int .i64 e]) w) := by
  have := alloc_mem h x
  rw [he] at this
  exact this
theorem store_to (h : Mem w base p R M) (c uk un ub vk vn vb : Int) {M' : List AB} {r : Bool} (he : storeM M c ⟨uk, un, ub⟩ ⟨vk, vn, vb⟩ = (M', r)) :
    Calls Try.prog 15 #[.pointer (some ⟨p, 0, none⟩), .int .i64 c, .agg #[.int .i64 uk, .int .i64 un, .int .i64 ub], .agg #[.int .i64 vk, .int .i64 vn, .int .i64 vb]] w (Wrote base p R M' (.bool r) w) := by
  have := store_mem h c ⟨uk, un, ub⟩ ⟨vk, vn, vb⟩
  rw [he] at this
  exact this
theorem free_to (h : Mem w base p R M) (x : Int) {M' : List AB} {r : Bool} (he : freeM M x = (M', r)) :
    Calls Try.prog 11 #[.pointer (some ⟨p, 0, none⟩), .int .i64 x] w (Wrote base p R M' (.bool r) w) := by
  have := free_any h x
  rw [he] at this
  exact this.mono fun e w' ⟨h1, h2, h3⟩ => ⟨h1, R, h2, h3⟩
theorem zero_to (h : Mem w base p R M) (x : Int) {M' : List AB} {r : Bool} (he : zeroM M x = (M', r)) :
    Calls Try.prog 17 #[.pointer (some ⟨p, 0, none⟩), .int .i64 x] w (Wrote base p R M' (.bool r) w) := by
  have := zero_any h x
  rw [he] at this
  exact this.mono fun e w' ⟨h1, h2, h3⟩ => ⟨h1, R, h2, h3⟩
theorem load_to (h : Mem w base p R M) (c uk un ub : Int) {k n b : Int} {r : Bool} (he : loadM M c ⟨uk, un, ub⟩ = (⟨k, n, b⟩, r)) :
    Calls Try.prog 13 #[.pointer (some ⟨p, 0, none⟩), .int .i64 c, .agg #[.int .i64 uk, .int .i64 un, .int .i64 ub]] w (retP (.tuple #[.agg #[.int .i64 k, .int .i64 n, .int .i64 b], .bool r]) w) := by
  have := load_mem h c ⟨uk, un, ub⟩
  rw [he] at this
  exact this
theorem size_to (h : Mem w base p R M) (x : Int) {n : Int} {r : Bool} (he : sizeM M x = (n, r)) :
    Calls Try.prog 19 #[.pointer (some ⟨p, 0, none⟩), .int .i64 x] w fun e w' => e = .returned (.tuple #[.int .i64 n, .bool r]) ∧ w' = w := by
  have := size_any h x
  rw [he] at this
  exact this
theorem blocks_to (h : Mem w base p R M) {n : Nat} (he : M.length = n) :
    Calls Try.prog 21 #[.pointer (some ⟨p, 0, none⟩)] w fun e w' => e = .returned (.int .i64 n) ∧ w' = w := by
  obtain ⟨a, cap, g, cur, h⟩ := h
  rw [← he]
  exact blocks_any p _ cap a w h.c0
theorem live_to (h : Mem w base p R M) {n : Int} (he : live M = n) :
    Calls Try.prog 22 #[.pointer (some ⟨p, 0, none⟩)] w fun e w' => e = .returned (.int .i64 n) ∧ w' = w := by
  obtain ⟨a, cap, g, cur, h⟩ := h
  rw [← he]
  exact live_any p _ w h.c1
theorem same_to (h : Mem w base p R M) (h' : Mem w base' p' R' N) {r : Bool} (he : r = true ↔ SameM M N) :
    Calls Try.prog 24 #[.pointer (some ⟨p, 0, none⟩), .pointer (some ⟨p', 0, none⟩)] w (retP (.bool r) w) :=
  (same_any h h').mono fun e w' ⟨r', h1, h2, h3⟩ => ⟨by rw [h1, show r' = r from Bool.eq_iff_iff.2 (h2.trans he.symm)], h3⟩
/-- What Copy leaves. -/
def Copied (base : Nat) (M : List AB) (w : World) : Ending → World → Prop := fun e w' =>
  ∃ P R2, e = .returned (.pointer (some ⟨P, 0, none⟩)) ∧ Mem w' base P R2 M ∧ Below w.heap.size w w' ∧ (∀ b, R2 b ≠ none → w.heap.size ≤ b)
theorem Mem.lower (h : Mem w base p R M) (hb : base' ≤ base) : Mem w base' p R M := by
  obtain ⟨a, cap, g, cur, h⟩ := h
  exact ⟨a, cap, g, cur, h.hp, h.rp, h.rows, h.blk, fun b hR => ⟨Nat.le_trans hb (h.rng b hR).1, (h.rng b hR).2⟩, h.sz, h.len⟩
theorem Mem.rng (h : Mem w base p R M) : ∀ b, R b ≠ none → base ≤ b ∧ b < w.heap.size := by
  obtain ⟨a, cap, g, cur, h⟩ := h
  exact h.rng
theorem copy_to (h : Mem w base p R M) (hb : base' ≤ w.heap.size) : Calls Try.prog 8 #[.pointer (some ⟨p, 0, none⟩)] w (Copied base' M w) :=
  (copy_any h).mono fun e w' ⟨P, R2, h1, h2, h3⟩ => ⟨P, R2, h1, h2.lower hb, h3, fun b hR => (h2.rng b hR).1⟩
theorem new_to (w : World) (hb : base ≤ w.heap.size) : Calls Try.prog 7 #[] w fun e w' => ∃ P R2, e = .returned (.pointer (some ⟨P, 0, none⟩)) ∧ Mem w' base P R2 [] ∧ Below w.heap.size w w' ∧ (∀ b, R2 b ≠ none → w.heap.size ≤ b) :=
  (new_any w).mono fun e w' ⟨h1, h2⟩ => by
    subst h2
    exact ⟨_, _, h1, new_mem w base hb, (Below.refl _ w).alloc (Nat.le_refl _) _, fun b hR => by
      by_cases e : b = w.heap.size
      · omega
      · simp [oneR, e] at hR⟩
theorem rat_to (b n : Int) (k' n' b' : Int) (w : World) (h : atF b n = ⟨k', n', b'⟩) : Calls Try.prog 27 #[.int .i64 b, .int .i64 n] w (retP (.agg #[.int .i64 k', .int .i64 n', .int .i64 b']) w) := by
  have := rat_any b n w
  rw [h] at this
  exact this
theorem rof_to (n : Int) (w : World) : Calls Try.prog 28 #[.int .i64 n] w (retP (.agg #[.int .i64 1, .int .i64 n, .int .i64 0]) w) := rof_any n w
theorem rgood_to (k n b : Int) {r : Bool} (w : World) (h : goodF ⟨k, n, b⟩ = r) : Calls Try.prog 42 #[.agg #[.int .i64 k, .int .i64 n, .int .i64 b]] w (retP (.bool r) w) := by
  have := rgood_any k n b w
  rw [h] at this
  exact this
/-- A block that is none of the memory's. -/
theorem Mem.fresh (h : Mem w base p R M) {b : Nat} (hb : w.heap.size ≤ b) : R b = none := by
  cases hR : R b with
  | none => rfl
  | some r => have := (h.rng b (by rw [hR]; simp)).2; omega
theorem MFr.keepR (hf : MFr R R' w w') {b o : Nat} {v : Value} (hr : R b = none) (hc : w.cell? ⟨b, o, none⟩ = some v) : R' b = none := (hf.role b (block_lt_of_cell hc)).trans hr
theorem Below.wrote {W : World} (hB : Below W.heap.size W w) (h : Mem w W.heap.size p R M) (hf : MFr R R' w w') : Below W.heap.size W w' :=
  hB.trans (hf.toBelow hB.size fun b hb => (h.rng b hb).1)
def Apart (R Q : Nat → Option Role) : Prop := ∀ b, R b ≠ none → Q b = none
theorem Apart.symm (h : Apart R Q) : Apart Q R := fun b hb => by
  cases hR : R b with
  | none => rfl
  | some r => exact absurd (h b (by rw [hR]; simp)) hb
theorem Apart.step (h : Apart R Q) (hf : MFr R R' w w') (hQ : Mem w base p Q N) : Apart R' Q := fun b hb => by
  by_cases hl : b < w.heap.size
  · rw [hf.role b hl] at hb
    exact h b hb
  · exact hQ.fresh (by omega)
theorem apart_new (h : Mem w base p R M) (hn : ∀ b, Q b ≠ none → w.heap.size ≤ b) : Apart R Q := fun b hb => by
  cases hQ : Q b with
  | none => rfl
  | some r => have := hn b (by rw [hQ]; simp); have := (h.rng b hb).2; omega
theorem Mem.beside (h : Mem w base p Q N) (hf : MFr R R' w w') (ha : Apart R Q) : Mem w' base p Q N :=
  h.other (base' := base) (p' := p) hf fun b hb => by
    have := ha.symm b hb
    exact this
theorem SameM.refl (M : List AB) : SameM M M := ⟨rfl, fun k a b ha hb => by rw [ha] at hb; cases hb; exact ⟨rfl, rfl, fun _ _ _ _ => rfl⟩⟩
theorem own : ownKnob Try.prog.godebug = none := by kernel_rfl
end Go.Proofs.Ytnklpccggbkknaa
