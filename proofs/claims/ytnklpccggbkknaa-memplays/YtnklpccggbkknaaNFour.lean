/- A memory, the document's, and two copies, beside one another: the calls of MemPlays keep them. -/
import Derived.Test.YtnklpccggbkknaaNRel3
import Derived.Test.YtnklpccggbkknaaMAwake
import Derived.Test.YtnklpccggbkknaaMActs
namespace Go.Proofs.Ytnklpccggbkknaa
open Go.ChangeShapes Go.WideShapes Go.ChangeAt Go.RowKit Pl
set_option linter.unusedSimpArgs false
set_option linter.unusedVariables false

/-- The four of them. -/
def PK (W0 w : World) (pm pr pc ph : Nat) (M : List AB) (N : RM) (C D : List AB) : Prop := ∃ R Q S T, Mem w W0.heap.size pm R M ∧ RMem w W0.heap.size pr Q N ∧ Mem w W0.heap.size pc S C ∧ Mem w W0.heap.size ph T D ∧
  (Apart R Q ∧ Apart R S ∧ Apart R T ∧ Apart Q S ∧ Apart Q T) ∧ Below W0.heap.size W0 w
/-- .. and a box of nine ints. -/
def PY (W0 w : World) (pm pr pc ph BX : Nat) (z : Nat → Int) (M : List AB) (N : RM) (C D : List AB) : Prop := ∃ R Q S T, Mem w W0.heap.size pm R M ∧ RMem w W0.heap.size pr Q N ∧ Mem w W0.heap.size pc S C ∧ Mem w W0.heap.size ph T D ∧
  (Apart R Q ∧ Apart R S ∧ Apart R T ∧ Apart Q S ∧ Apart Q T) ∧ Below W0.heap.size W0 w ∧ R BX = none ∧ Q BX = none ∧ ∀ j, j < 9 → w.cell? ⟨BX, j, none⟩ = some (.int .i64 (z j))
theorem PY.pk {W0 w : World} {pm pr pc ph BX : Nat} {z : Nat → Int} {M : List AB} {N : RM} {C D : List AB} (h : PY W0 w pm pr pc ph BX z M N C D) : PK W0 w pm pr pc ph M N C D := by
  obtain ⟨R, Q, S, T, h1, h2, h3, h4, h5, h6, _⟩ := h
  exact ⟨R, Q, S, T, h1, h2, h3, h4, h5, h6⟩
theorem PY.cell {W0 w : World} {pm pr pc ph BX : Nat} {z : Nat → Int} {M : List AB} {N : RM} {C D : List AB} (h : PY W0 w pm pr pc ph BX z M N C D) {j : Nat} (hj : j < 9) : w.cell? ⟨BX, j, none⟩ = some (.int .i64 (z j)) := by
  obtain ⟨R, Q, S, T, h1, h2, h3, h4, h5, h6, _, _, h7⟩ := h
  exact h7 j hj
theorem PY.cells {W0 w : World} {pm pr pc ph BX : Nat} {z : Nat → Int} {M : List AB} {N : RM} {C D : List AB} (h : PY W0 w pm pr pc ph BX z M N C D) : ∀ j, j < 9 → w.cell? ⟨BX, j, none⟩ = some (.int .i64 (z j)) := fun j hj => h.cell hj
theorem PK.bel {W0 w : World} {pm pr pc ph : Nat} {M : List AB} {N : RM} {C D : List AB} (h : PK W0 w pm pr pc ph M N C D) : Below W0.heap.size W0 w := by
  obtain ⟨R, Q, S, T, h1, h2, h3, h4, h5, h6⟩ := h
  exact h6
theorem PK.box {W0 w wb : World} {pm pr pc ph BX : Nat} {z : Nat → Int} {M : List AB} {N : RM} {C D : List AB} (h : PK W0 w pm pr pc ph M N C D) (hb : Below w.heap.size w wb) (hB : w.heap.size ≤ BX) (hz : ∀ j, j < 9 → wb.cell? ⟨BX, j, none⟩ = some (.int .i64 (z j))) : PY W0 wb pm pr pc ph BX z M N C D := by
  obtain ⟨R, Q, S, T, h1, h2, h3, h4, h5, h6⟩ := h
  exact ⟨R, Q, S, T, h1.below hb, h2.below hb, h3.below hb, h4.below hb, h5, bel_trans h6 hb, h1.fresh hB, h2.fresh hB, hz⟩
theorem PY.below {W0 w wb : World} {pm pr pc ph BX : Nat} {z : Nat → Int} {M : List AB} {N : RM} {C D : List AB} (h : PY W0 w pm pr pc ph BX z M N C D) (hb : Below w.heap.size w wb) : PY W0 wb pm pr pc ph BX z M N C D := by
  obtain ⟨R, Q, S, T, h1, h2, h3, h4, h5, h6, h7, h8, h9⟩ := h
  exact ⟨R, Q, S, T, h1.below hb, h2.below hb, h3.below hb, h4.below hb, h5, bel_trans h6 hb, h7, h8, fun j hj => keep_cell hb (h9 j hj)⟩
theorem apartR {w : World} {base p : Nat} {R R' Q : Nat → Option Role} {w' : World} (h : Apart R Q) (hf : MFr R R' w w') (hQ : ∀ b, w.heap.size ≤ b → Q b = none) : Apart R' Q := fun b hb => by
  by_cases hl : b < w.heap.size
  · rw [hf.role b hl] at hb
    exact h b hb
  · exact hQ b (by omega)
/-- A call that writes the program's memory. -/
theorem PY.left {W0 w : World} {pm pr pc ph BX : Nat} {z : Nat → Int} {M M' : List AB} {N : RM} {C D : List AB} {v : Value} {f : FuncId} {args : Array Value} (h : PY W0 w pm pr pc ph BX z M N C D)
    (hc : ∀ R, Mem w W0.heap.size pm R M → Calls Try.prog f args w (Wrote W0.heap.size pm R M' v w)) : Calls Try.prog f args w fun e w' => e = .returned v ∧ PY W0 w' pm pr pc ph BX z M' N C D := by
  obtain ⟨R, Q, S, T, h1, h2, h3, h4, ⟨a1, a2, a3, a4, a5⟩, h6, h7, h8, h9⟩ := h
  refine (hc R h1).mono ?_
  rintro e w' ⟨rfl, R', k1, kf⟩
  exact ⟨rfl, R', Q, S, T, k1, h2.beside kf a1, h3.beside kf a2, h4.beside kf a3, ⟨apartR (base := 0) (p := 0) a1 kf (fun b hb => h2.fresh hb), apartR (base := 0) (p := 0) a2 kf (fun b hb => h3.fresh hb), apartR (base := 0) (p := 0) a3 kf (fun b hb => h4.fresh hb), a4, a5⟩,
    h6.trans (kf.toBelow h6.size fun b hb => (h1.rng b hb).1), kf.keepR h7 (h9 0 (by omega)), h8, fun j hj => kf.keep h7 (h9 j hj)⟩
/-- A call that writes the document's memory. -/
theorem PY.right {W0 w : World} {pm pr pc ph BX : Nat} {z : Nat → Int} {M : List AB} {N N' : RM} {C D : List AB} {v : Value} {f : FuncId} {args : Array Value} (h : PY W0 w pm pr pc ph BX z M N C D)
    (hc : ∀ Q, RMem w W0.heap.size pr Q N → Calls Try.prog f args w (RWrote W0.heap.size pr Q N' v w)) : Calls Try.prog f args w fun e w' => e = .returned v ∧ PY W0 w' pm pr pc ph BX z M N' C D := by
  obtain ⟨R, Q, S, T, h1, h2, h3, h4, ⟨a1, a2, a3, a4, a5⟩, h6, h7, h8, h9⟩ := h
  refine (hc Q h2).mono ?_
  rintro e w' ⟨rfl, Q', k1, kf⟩
  exact ⟨rfl, R, Q', S, T, h1.beside kf a1.symm, k1, h3.beside kf a4, h4.beside kf a5, ⟨(apartR (base := 0) (p := 0) a1.symm kf (fun b hb => h1.fresh hb)).symm, a2, a3, apartR (base := 0) (p := 0) a4 kf (fun b hb => h3.fresh hb), apartR (base := 0) (p := 0) a5 kf (fun b hb => h4.fresh hb)⟩,
    h6.trans (kf.toBelow h6.size fun b hb => (h2.rng b hb).1), h7, kf.keepR h8 (h9 0 (by omega)), fun j hj => kf.keep h8 (h9 j hj)⟩
variable {W0 w : World} {pm pr pc ph BX : Nat} {z : Nat → Int} {M M' : List AB} {N N' : RM} {C D : List AB}
theorem PY.reads {v : Value} {f : FuncId} {args : Array Value} (h : PY W0 w pm pr pc ph BX z M N C D) (hc : ∀ R Q, Mem w W0.heap.size pm R M → RMem w W0.heap.size pr Q N → Calls Try.prog f args w (retP v w)) : Calls Try.prog f args w fun e w' => e = .returned v ∧ PY W0 w' pm pr pc ph BX z M N C D ∧ Below w.heap.size w w' := by
  have h' := h
  obtain ⟨R, Q, S, T, h1, h2, _⟩ := h'
  exact (hc R Q h1 h2).mono fun e w' ⟨k1, k2⟩ => ⟨k1, h.below k2, k2⟩
theorem retP_same {f : FuncId} {args : Array Value} {v : Value} (h : Calls Try.prog f args w fun e w' => e = .returned v ∧ w' = w) : Calls Try.prog f args w (retP v w) := h.mono fun e w' ⟨h1, h2⟩ => ⟨h1, h2 ▸ Below.refl _ _⟩
theorem py_alloc (h : PY W0 w pm pr pc ph BX z M N C D) (x : Int) {n e : Int} (he : allocM M x = (M', n, e)) : Calls Try.prog 9 #[.pointer (some ⟨pm, 0, none⟩), .int .i64 x] w fun en w' => en = .returned (.tuple #[.int .i64 n, .int .i64 e]) ∧ PY W0 w' pm pr pc ph BX z M' N C D :=
  h.left fun R hm => alloc_to hm x he
theorem py_free (h : PY W0 w pm pr pc ph BX z M N C D) (x : Int) {r : Bool} (he : freeM M x = (M', r)) : Calls Try.prog 11 #[.pointer (some ⟨pm, 0, none⟩), .int .i64 x] w fun en w' => en = .returned (.bool r) ∧ PY W0 w' pm pr pc ph BX z M' N C D :=
  h.left fun R hm => free_to hm x he
theorem py_zero (h : PY W0 w pm pr pc ph BX z M N C D) (x : Int) {r : Bool} (he : zeroM M x = (M', r)) : Calls Try.prog 17 #[.pointer (some ⟨pm, 0, none⟩), .int .i64 x] w fun en w' => en = .returned (.bool r) ∧ PY W0 w' pm pr pc ph BX z M' N C D :=
  h.left fun R hm => zero_to hm x he
theorem py_store (h : PY W0 w pm pr pc ph BX z M N C D) (c uk un ub vk vn vb : Int) {r : Bool} (he : storeM M c ⟨uk, un, ub⟩ ⟨vk, vn, vb⟩ = (M', r)) : Calls Try.prog 15 #[.pointer (some ⟨pm, 0, none⟩), .int .i64 c, .agg #[.int .i64 uk, .int .i64 un, .int .i64 ub], .agg #[.int .i64 vk, .int .i64 vn, .int .i64 vb]] w fun en w' => en = .returned (.bool r) ∧ PY W0 w' pm pr pc ph BX z M' N C D :=
  h.left fun R hm => store_to hm c uk un ub vk vn vb he
theorem ry_alloc (h : PY W0 w pm pr pc ph BX z M N C D) (x : Int) {n e : Int} (he : allocN N x = (N', n, e)) : Calls Try.prog 10 #[.pointer (some ⟨pr, 0, none⟩), .int .i64 x] w fun en w' => en = .returned (.tuple #[.int .i64 n, .int .i64 e]) ∧ PY W0 w' pm pr pc ph BX z M N' C D :=
  h.right fun R hm => by have := ralloc_any hm x; rw [he] at this; exact this
theorem ry_free (h : PY W0 w pm pr pc ph BX z M N C D) (x : Int) {r : Bool} (he : freeN N x = (N', r)) : Calls Try.prog 12 #[.pointer (some ⟨pr, 0, none⟩), .int .i64 x] w fun en w' => en = .returned (.bool r) ∧ PY W0 w' pm pr pc ph BX z M N' C D :=
  h.right fun R hm => by have := rfree_any hm x; rw [he] at this; exact this
theorem ry_zero (h : PY W0 w pm pr pc ph BX z M N C D) (x : Int) {r : Bool} (he : zeroN N x = (N', r)) : Calls Try.prog 18 #[.pointer (some ⟨pr, 0, none⟩), .int .i64 x] w fun en w' => en = .returned (.bool r) ∧ PY W0 w' pm pr pc ph BX z M N' C D :=
  h.right fun R hm => by have := rzero_any hm x; rw [he] at this; exact this
theorem ry_store (h : PY W0 w pm pr pc ph BX z M N C D) (hp : N.ptrs.length < 100000) (c uk un ub vk vn vb : Int) {r : Bool} (he : storeN N c ⟨uk, un, ub⟩ ⟨vk, vn, vb⟩ = (N', r)) : Calls Try.prog 16 #[.pointer (some ⟨pr, 0, none⟩), .int .i64 c, .agg #[.int .i64 uk, .int .i64 un, .int .i64 ub], .agg #[.int .i64 vk, .int .i64 vn, .int .i64 vb]] w fun en w' => en = .returned (.bool r) ∧ PY W0 w' pm pr pc ph BX z M N' C D :=
  h.right fun R hm => by have := rstore_any hm hp c uk un ub vk vn vb; rw [he] at this; exact this
theorem py_load (h : PY W0 w pm pr pc ph BX z M N C D) (c uk un ub : Int) {k n b : Int} {r : Bool} (he : loadM M c ⟨uk, un, ub⟩ = (⟨k, n, b⟩, r)) : Calls Try.prog 13 #[.pointer (some ⟨pm, 0, none⟩), .int .i64 c, .agg #[.int .i64 uk, .int .i64 un, .int .i64 ub]] w fun en w' => en = .returned (.tuple #[.agg #[.int .i64 k, .int .i64 n, .int .i64 b], .bool r]) ∧ PY W0 w' pm pr pc ph BX z M N C D ∧ Below w.heap.size w w' :=
  h.reads fun R Q hm _ => load_to hm c uk un ub he
theorem ry_load (h : PY W0 w pm pr pc ph BX z M N C D) (hrel : MRel M N) (hp : N.ptrs.length < 100000) (c uk un ub : Int) {k n b : Int} {r : Bool} (he : loadM M c ⟨uk, un, ub⟩ = (⟨k, n, b⟩, r)) : Calls Try.prog 14 #[.pointer (some ⟨pr, 0, none⟩), .int .i64 c, .agg #[.int .i64 uk, .int .i64 un, .int .i64 ub]] w fun en w' => en = .returned (.tuple #[.agg #[.int .i64 k, .int .i64 n, .int .i64 b], .bool r]) ∧ PY W0 w' pm pr pc ph BX z M N C D ∧ Below w.heap.size w w' :=
  h.reads fun R Q _ hq => by have := rload_any hq hrel hp c uk un ub; rw [← rel_load hrel, he] at this; exact this
theorem py_size (h : PY W0 w pm pr pc ph BX z M N C D) (x : Int) {n : Int} {r : Bool} (he : sizeM M x = (n, r)) : Calls Try.prog 19 #[.pointer (some ⟨pm, 0, none⟩), .int .i64 x] w fun en w' => en = .returned (.tuple #[.int .i64 n, .bool r]) ∧ PY W0 w' pm pr pc ph BX z M N C D ∧ Below w.heap.size w w' :=
  h.reads fun R Q hm _ => retP_same (size_to hm x he)
theorem ry_is (h : PY W0 w pm pr pc ph BX z M N C D) (x : Int) {r : Bool} (he : isN N x = r) : Calls Try.prog 20 #[.pointer (some ⟨pr, 0, none⟩), .int .i64 x] w fun en w' => en = .returned (.bool r) ∧ PY W0 w' pm pr pc ph BX z M N C D ∧ Below w.heap.size w w' :=
  h.reads fun R Q _ hq => is_to hq x r he
theorem py_blocks (h : PY W0 w pm pr pc ph BX z M N C D) {n : Nat} (he : M.length = n) : Calls Try.prog 21 #[.pointer (some ⟨pm, 0, none⟩)] w fun en w' => en = .returned (.int .i64 n) ∧ PY W0 w' pm pr pc ph BX z M N C D ∧ Below w.heap.size w w' :=
  h.reads fun R Q hm _ => retP_same (blocks_to hm he)
theorem py_live (h : PY W0 w pm pr pc ph BX z M N C D) {n : Int} (he : live M = n) : Calls Try.prog 22 #[.pointer (some ⟨pm, 0, none⟩)] w fun en w' => en = .returned (.int .i64 n) ∧ PY W0 w' pm pr pc ph BX z M N C D ∧ Below w.heap.size w w' :=
  h.reads fun R Q hm _ => retP_same (live_to hm he)
theorem ry_live (h : PY W0 w pm pr pc ph BX z M N C D) {n : Int} (he : liveN N.L = n) : Calls Try.prog 23 #[.pointer (some ⟨pr, 0, none⟩)] w fun en w' => en = .returned (.int .i64 n) ∧ PY W0 w' pm pr pc ph BX z M N C D ∧ Below w.heap.size w w' :=
  h.reads fun R Q _ hq => retP_same (by have := rlive_any hq; rw [he] at this; exact this)
/-- Where the document's rows lie. -/
theorem PY.rows (h : PY W0 w pm pr pc ph BX z M N C D) : ∃ a cap, w.cell? ⟨pr, 0, none⟩ = some (.slice a N.L.length cap) := by
  obtain ⟨R, Q, S, T, h1, h2, _⟩ := h
  obtain ⟨a, cap, g, cur, a2, cap2, g2, cur2, hm⟩ := h2
  exact ⟨a, cap, hm.c0⟩
theorem PY.row (h : PY W0 w pm pr pc ph BX z M N C D) {k : Nat} {rb : RB} (hk : N.L[k]? = some rb) : ∃ g cap bb, w.cell? ⟨pr, 0, none⟩ = some (.slice (some ⟨g, 0, none⟩) N.L.length cap) ∧ w.cell? ⟨g, k * 2, none⟩ = some (.slice (some ⟨bb, 0, none⟩) rb.bytes.length rb.bytes.length) := by
  obtain ⟨R, Q, S, T, h1, h2, _⟩ := h
  obtain ⟨a, cap, g, cur, a2, cap2, g2, cur2, hm⟩ := h2
  obtain ⟨ha, _, hh, _⟩ := hm.has hk
  obtain ⟨bb, b1, _⟩ := hm.blk k rb hk
  have c0 := hm.c0
  rw [ha] at c0
  exact ⟨g, cap, bb, c0, heap_cell hh b1⟩
theorem PY.len (h : PY W0 w pm pr pc ph BX z M N C D) : N.L.length ≤ 100000 := by
  obtain ⟨R, Q, S, T, h1, h2, _⟩ := h
  obtain ⟨a, cap, g, cur, a2, cap2, g2, cur2, hm⟩ := h2
  exact hm.len
/-- A copy takes the first copy's place; then the second one's. -/
theorem py_copy1 (h : PY W0 w pm pr pc ph BX z M N C D) : Calls Try.prog 8 #[.pointer (some ⟨pm, 0, none⟩)] w fun en w' => ∃ P, en = .returned (.pointer (some ⟨P, 0, none⟩)) ∧ PY W0 w' pm pr P ph BX z M N M D := by
  obtain ⟨R, Q, S, T, h1, h2, h3, h4, ⟨a1, a2, a3, a4, a5⟩, h6, h7, h8, h9⟩ := h
  refine (copy_to (base' := W0.heap.size) h1 h6.size).mono ?_
  rintro e w' ⟨P, R2, rfl, k1, k2, k3⟩
  refine ⟨P, rfl, R, Q, R2, T, h1.below k2, h2.below k2, k1, h4.below k2, ⟨a1, apart_new h1 k3, a3, fun b hb => ?_, a5⟩, bel_trans h6 k2, h7, h8, fun j hj => keep_cell k2 (h9 j hj)⟩
  cases hR : R2 b with
  | none => rfl
  | some r => have := k3 b (by rw [hR]; simp); have := (h2.rng b hb).2; omega
theorem py_copy2 (h : PY W0 w pm pr pc ph BX z M N C D) : Calls Try.prog 8 #[.pointer (some ⟨pm, 0, none⟩)] w fun en w' => ∃ P, en = .returned (.pointer (some ⟨P, 0, none⟩)) ∧ PY W0 w' pm pr pc P BX z M N C M := by
  obtain ⟨R, Q, S, T, h1, h2, h3, h4, ⟨a1, a2, a3, a4, a5⟩, h6, h7, h8, h9⟩ := h
  refine (copy_to (base' := W0.heap.size) h1 h6.size).mono ?_
  rintro e w' ⟨P, R2, rfl, k1, k2, k3⟩
  refine ⟨P, rfl, R, Q, S, R2, h1.below k2, h2.below k2, h3.below k2, k1, ⟨a1, a2, apart_new h1 k3, a4, fun b hb => ?_⟩, bel_trans h6 k2, h7, h8, fun j hj => keep_cell k2 (h9 j hj)⟩
  cases hR : R2 b with
  | none => rfl
  | some r => have := k3 b (by rw [hR]; simp); have := (h2.rng b hb).2; omega
theorem live_cnt : ∀ (M : List AB) (L : List RB), M.map (·.freed) = L.map (·.freed) → live M = liveN L := by
  intro M L h
  have e : ∀ (M : List AB), (M.filter fun a => !a.freed).length = ((M.map (·.freed)).filter (fun b => !b)).length := fun M => by rw [List.filter_map, List.length_map]; rfl
  have e' : ∀ (L : List RB), (L.filter fun a => !a.freed).length = ((L.map (·.freed)).filter (fun b => !b)).length := fun L => by rw [List.filter_map, List.length_map]; rfl
  unfold live liveN
  rw [e, e', h]
theorem rel_live {M : List AB} {N : RM} (h : MRel M N) : live M = liveN N.L := by
  apply live_cnt
  apply List.ext_getElem?
  intro k
  simp only [List.getElem?_map]
  cases hk : M[k]? with
  | none => rw [h.none hk]; rfl
  | some ab =>
    obtain ⟨rb, hrb, hr⟩ := h.get hk
    rw [hrb]
    simp [hr.freed]
theorem rel_size {M : List AB} {N : RM} (h : MRel M N) (x : Int) : sizeM M x = if isN N x = true then (lenN N x, true) else (0, false) := by
  unfold sizeM
  rw [rel_find h]
  by_cases hi : isN N x = true
  · simp only [hi, if_true]
    obtain ⟨k, rb, hk, hrb, hf⟩ := isN_true hi
    have ek : (x - 1).toNat = k := by omega
    have hl := lt_of_get hrb
    rw [← h.len] at hl
    have hab := List.getElem?_eq_getElem hl
    have hr := h.blk k _ rb hab hrb
    simp only [ek, hab, hr.size]
    unfold lenN
    rw [ek, hrb]
  · simp [hi]
end Go.Proofs.Ytnklpccggbkknaa
