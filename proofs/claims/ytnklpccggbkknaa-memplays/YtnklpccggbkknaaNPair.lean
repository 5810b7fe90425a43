/- Two memories, the program's and the document's, beside one another, and a box of nine ints: the calls keep them. -/
import Derived.Test.YtnklpccggbkknaaNStore2
namespace Go.Proofs.Ytnklpccggbkknaa
open Go.ChangeShapes Go.WideShapes Go.ChangeAt Go.RowKit Pl
set_option linter.unusedSimpArgs false
set_option linter.unusedVariables false

/-- Two memories beside one another. -/
def PP (W0 w : World) (pm pr : Nat) (M : List AB) (N : RM) : Prop := ∃ R Q, Mem w W0.heap.size pm R M ∧ RMem w W0.heap.size pr Q N ∧ Apart R Q ∧ Below W0.heap.size W0 w
/-- .. and a box of nine ints that is neither's. -/
def PX (W0 w : World) (pm pr BX : Nat) (z : Nat → Int) (M : List AB) (N : RM) : Prop := ∃ R Q, Mem w W0.heap.size pm R M ∧ RMem w W0.heap.size pr Q N ∧ Apart R Q ∧ Below W0.heap.size W0 w ∧ R BX = none ∧ Q BX = none ∧ W0.heap.size ≤ BX ∧ ∀ j, j < 9 → w.cell? ⟨BX, j, none⟩ = some (.int .i64 (z j))
theorem PX.cell {W0 w : World} {pm pr BX : Nat} {z : Nat → Int} {M : List AB} {N : RM} (h : PX W0 w pm pr BX z M N) {j : Nat} (hj : j < 9) : w.cell? ⟨BX, j, none⟩ = some (.int .i64 (z j)) := by
  obtain ⟨_, _, _, _, _, _, _, _, _, h⟩ := h
  exact h j hj
theorem PX.pp {W0 w : World} {pm pr BX : Nat} {z : Nat → Int} {M : List AB} {N : RM} (h : PX W0 w pm pr BX z M N) : PP W0 w pm pr M N := by
  obtain ⟨R, Q, h1, h2, h3, h4, _⟩ := h
  exact ⟨R, Q, h1, h2, h3, h4⟩
theorem RMem.fresh {w : World} {base p : Nat} {R : Nat → Option Role} {N : RM} (h : RMem w base p R N) {b : Nat} (hb : w.heap.size ≤ b) : R b = none := by
  obtain ⟨a, cap, g, cur, a2, cap2, g2, cur2, h⟩ := h
  cases hR : R b with
  | none => rfl
  | some r => have := (h.rng b (by rw [hR]; simp)).2; omega
theorem RMem.rng {w : World} {base p : Nat} {R : Nat → Option Role} {N : RM} (h : RMem w base p R N) : ∀ b, R b ≠ none → base ≤ b ∧ b < w.heap.size := by
  obtain ⟨a, cap, g, cur, a2, cap2, g2, cur2, h⟩ := h
  exact h.rng
theorem RMem.lower {w : World} {base base' p : Nat} {R : Nat → Option Role} {N : RM} (h : RMem w base p R N) (hb : base' ≤ base) : RMem w base' p R N := by
  obtain ⟨a, cap, g, cur, a2, cap2, g2, cur2, h⟩ := h
  exact ⟨a, cap, g, cur, a2, cap2, g2, cur2, h.hp, h.rp, h.rows, h.pts, h.blk, h.ptr, fun b hR => ⟨Nat.le_trans hb (h.rng b hR).1, (h.rng b hR).2⟩, h.sz, h.len⟩
theorem PP.box {W0 w wb : World} {pm pr BX : Nat} {z : Nat → Int} {M : List AB} {N : RM} (h : PP W0 w pm pr M N) (hb : Below w.heap.size w wb) (hB : w.heap.size ≤ BX) (hz : ∀ j, j < 9 → wb.cell? ⟨BX, j, none⟩ = some (.int .i64 (z j))) : PX W0 wb pm pr BX z M N := by
  obtain ⟨R, Q, h1, h2, h3, h4⟩ := h
  exact ⟨R, Q, h1.below hb, h2.below hb, h3, bel_trans h4 hb, h1.fresh hB, h2.fresh hB, Nat.le_trans h4.size hB, hz⟩
theorem PX.below {W0 w wb : World} {pm pr BX : Nat} {z : Nat → Int} {M : List AB} {N : RM} (h : PX W0 w pm pr BX z M N) (hb : Below w.heap.size w wb) : PX W0 wb pm pr BX z M N := by
  obtain ⟨R, Q, h1, h2, h3, h4, h5, h6, h7, h8⟩ := h
  exact ⟨R, Q, h1.below hb, h2.below hb, h3, bel_trans h4 hb, h5, h6, h7, fun j hj => keep_cell hb (h8 j hj)⟩
/-- A call that writes the program's memory. -/
theorem PX.left {W0 w : World} {pm pr BX : Nat} {z : Nat → Int} {M M' : List AB} {N : RM} {v : Value} {f : FuncId} {args : Array Value} (h : PX W0 w pm pr BX z M N)
    (hc : ∀ R, Mem w W0.heap.size pm R M → Calls Try.prog f args w (Wrote W0.heap.size pm R M' v w)) : Calls Try.prog f args w fun e w' => e = .returned v ∧ PX W0 w' pm pr BX z M' N := by
  obtain ⟨R, Q, h1, h2, h3, h4, h5, h6, h7, h8⟩ := h
  refine (hc R h1).mono ?_
  rintro e w' ⟨rfl, R', k1, kf⟩
  refine ⟨rfl, R', Q, k1, h2.beside kf h3, fun b hb => ?_, h4.trans (kf.toBelow h4.size fun b hb => (h1.rng b hb).1), kf.keepR h5 (h8 0 (by omega)), h6, h7, fun j hj => kf.keep h5 (h8 j hj)⟩
  by_cases hl : b < w.heap.size
  · rw [kf.role b hl] at hb
    exact h3 b hb
  · exact h2.fresh (by omega)
/-- A call that writes the document's memory. -/
theorem PX.right {W0 w : World} {pm pr BX : Nat} {z : Nat → Int} {M : List AB} {N N' : RM} {v : Value} {f : FuncId} {args : Array Value} (h : PX W0 w pm pr BX z M N)
    (hc : ∀ Q, RMem w W0.heap.size pr Q N → Calls Try.prog f args w (RWrote W0.heap.size pr Q N' v w)) : Calls Try.prog f args w fun e w' => e = .returned v ∧ PX W0 w' pm pr BX z M N' := by
  obtain ⟨R, Q, h1, h2, h3, h4, h5, h6, h7, h8⟩ := h
  refine (hc Q h2).mono ?_
  rintro e w' ⟨rfl, Q', k1, kf⟩
  refine ⟨rfl, R, Q', h1.beside kf h3.symm, k1, ?_, h4.trans (kf.toBelow h4.size fun b hb => (h2.rng b hb).1), h5, kf.keepR h6 (h8 0 (by omega)), h7, fun j hj => kf.keep h6 (h8 j hj)⟩
  have : Apart Q' R := fun b hb => by
    by_cases hl : b < w.heap.size
    · rw [kf.role b hl] at hb
      exact h3.symm b hb
    · exact h1.fresh (by omega)
  exact this.symm
/-- A call that reads alone. -/
theorem PX.reads {W0 w : World} {pm pr BX : Nat} {z : Nat → Int} {M : List AB} {N : RM} {v : Value} {f : FuncId} {args : Array Value} (h : PX W0 w pm pr BX z M N) (hc : Calls Try.prog f args w (retP v w)) : Calls Try.prog f args w fun e w' => e = .returned v ∧ PX W0 w' pm pr BX z M N :=
  hc.mono fun e w' ⟨h1, h2⟩ => ⟨h1, h.below h2⟩
variable {W0 w : World} {pm pr BX : Nat} {z : Nat → Int} {M M' : List AB} {N N' : RM}
theorem px_alloc (h : PX W0 w pm pr BX z M N) (x : Int) {n e : Int} (he : allocM M x = (M', n, e)) : Calls Try.prog 9 #[.pointer (some ⟨pm, 0, none⟩), .int .i64 x] w fun en w' => en = .returned (.tuple #[.int .i64 n, .int .i64 e]) ∧ PX W0 w' pm pr BX z M' N :=
  h.left fun R hm => alloc_to hm x he
theorem px_free (h : PX W0 w pm pr BX z M N) (x : Int) {r : Bool} (he : freeM M x = (M', r)) : Calls Try.prog 11 #[.pointer (some ⟨pm, 0, none⟩), .int .i64 x] w fun en w' => en = .returned (.bool r) ∧ PX W0 w' pm pr BX z M' N :=
  h.left fun R hm => free_to hm x he
theorem px_zero (h : PX W0 w pm pr BX z M N) (x : Int) {r : Bool} (he : zeroM M x = (M', r)) : Calls Try.prog 17 #[.pointer (some ⟨pm, 0, none⟩), .int .i64 x] w fun en w' => en = .returned (.bool r) ∧ PX W0 w' pm pr BX z M' N :=
  h.left fun R hm => zero_to hm x he
theorem px_store (h : PX W0 w pm pr BX z M N) (c uk un ub vk vn vb : Int) {r : Bool} (he : storeM M c ⟨uk, un, ub⟩ ⟨vk, vn, vb⟩ = (M', r)) : Calls Try.prog 15 #[.pointer (some ⟨pm, 0, none⟩), .int .i64 c, .agg #[.int .i64 uk, .int .i64 un, .int .i64 ub], .agg #[.int .i64 vk, .int .i64 vn, .int .i64 vb]] w fun en w' => en = .returned (.bool r) ∧ PX W0 w' pm pr BX z M' N :=
  h.left fun R hm => store_to hm c uk un ub vk vn vb he
theorem rx_alloc (h : PX W0 w pm pr BX z M N) (x : Int) {n e : Int} (he : allocN N x = (N', n, e)) : Calls Try.prog 10 #[.pointer (some ⟨pr, 0, none⟩), .int .i64 x] w fun en w' => en = .returned (.tuple #[.int .i64 n, .int .i64 e]) ∧ PX W0 w' pm pr BX z M N' :=
  h.right fun R hm => by have := ralloc_any hm x; rw [he] at this; exact this
theorem rx_free (h : PX W0 w pm pr BX z M N) (x : Int) {r : Bool} (he : freeN N x = (N', r)) : Calls Try.prog 12 #[.pointer (some ⟨pr, 0, none⟩), .int .i64 x] w fun en w' => en = .returned (.bool r) ∧ PX W0 w' pm pr BX z M N' :=
  h.right fun R hm => by have := rfree_any hm x; rw [he] at this; exact this
theorem rx_zero (h : PX W0 w pm pr BX z M N) (x : Int) {r : Bool} (he : zeroN N x = (N', r)) : Calls Try.prog 18 #[.pointer (some ⟨pr, 0, none⟩), .int .i64 x] w fun en w' => en = .returned (.bool r) ∧ PX W0 w' pm pr BX z M N' :=
  h.right fun R hm => by have := rzero_any hm x; rw [he] at this; exact this
theorem rx_store (h : PX W0 w pm pr BX z M N) (hp : N.ptrs.length < 100000) (c uk un ub vk vn vb : Int) {r : Bool} (he : storeN N c ⟨uk, un, ub⟩ ⟨vk, vn, vb⟩ = (N', r)) : Calls Try.prog 16 #[.pointer (some ⟨pr, 0, none⟩), .int .i64 c, .agg #[.int .i64 uk, .int .i64 un, .int .i64 ub], .agg #[.int .i64 vk, .int .i64 vn, .int .i64 vb]] w fun en w' => en = .returned (.bool r) ∧ PX W0 w' pm pr BX z M N' :=
  h.right fun R hm => by have := rstore_any hm hp c uk un ub vk vn vb; rw [he] at this; exact this
/-- What an Act makes of a memory. -/
def stepM (M : List AB) (z : Nat → Int) : List AB :=
  if z 0 = 0 then (if z 1 ≤ 4096 then (allocM M (z 1)).1 else M) else if z 0 = 1 then (freeM M (z 1)).1 else if z 0 = 3 then (storeM M (z 2) ⟨z 3, z 4, z 5⟩ ⟨z 6, z 7, z 8⟩).1 else if z 0 = 4 then (zeroM M (z 1)).1 else M
def stepN (N : RM) (z : Nat → Int) : RM :=
  if z 0 = 0 then (if z 1 ≤ 4096 then (allocN N (z 1)).1 else N) else if z 0 = 1 then (freeN N (z 1)).1 else if z 0 = 3 then (storeN N (z 2) ⟨z 3, z 4, z 5⟩ ⟨z 6, z 7, z 8⟩).1 else if z 0 = 4 then (zeroN N (z 1)).1 else N
def playM (Z : Nat → Nat → Int) : Nat → List AB
  | 0 => []
  | i + 1 => stepM (playM Z i) (Z i)
def playN (Z : Nat → Nat → Int) : Nat → RM
  | 0 => ⟨[], []⟩
  | i + 1 => stepN (playN Z i) (Z i)
theorem ptrs_alloc (N : RM) (x : Int) : (allocN N x).1.ptrs = N.ptrs := by unfold allocN; split; rfl; split <;> rfl
theorem ptrs_free (N : RM) (x : Int) : (freeN N x).1.ptrs = N.ptrs := by unfold freeN; split; split <;> rfl; rfl
theorem ptrs_zero (N : RM) (x : Int) : (zeroN N x).1.ptrs = N.ptrs := by unfold zeroN; split; split <;> rfl; rfl
theorem ptrs_store (N : RM) (c : Int) (u v : V) : (storeN N c u v).1.ptrs.length ≤ N.ptrs.length + 1 := by
  unfold storeN
  split
  · split
    · simp
    · simp only []
      split <;> simp
  · simp
theorem ptrs_step (N : RM) (z : Nat → Int) : (stepN N z).ptrs.length ≤ N.ptrs.length + 1 := by
  unfold stepN
  split
  · split
    · rw [ptrs_alloc]; omega
    · omega
  · split
    · rw [ptrs_free]; omega
    · split
      · exact ptrs_store _ _ _ _
      · split
        · rw [ptrs_zero]; omega
        · omega
theorem ptrs_play (Z : Nat → Nat → Int) : ∀ n, (playN Z n).ptrs.length ≤ n
  | 0 => by simp [playN]
  | n + 1 => by have := ptrs_step (playN Z n) (Z n); have := ptrs_play Z n; simp only [playN]; omega
end Go.Proofs.Ytnklpccggbkknaa
