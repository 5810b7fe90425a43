/- The document's own memory as it lies in the heap: a list of blocks of small numbers, and the pointers that were stored; what leaves it as it is, and how one of its blocks is turned. -/
import Derived.Test.YtnklpccggbkknaaMKit
namespace Go.Proofs.Ytnklpccggbkknaa
open Go.ChangeShapes Go.WideShapes Go.ChangeAt Go.RowKit Pl
set_option linter.unusedSimpArgs false
set_option linter.unusedVariables false

/-- A block of the document's memory. -/
structure RB where
  bytes : List Int
  freed : Bool
/-- The document's memory. -/
structure RM where
  L : List RB
  ptrs : List V
def intCells (l : List Int) : Array Value := (l.map (Value.int .i64)).toArray
def RBlk (w : World) (R : Nat → Option Role) (cur : Array Value) (k : Nat) (rb : RB) : Prop :=
  ∃ bb, cur[k * 2]? = some (.slice (some ⟨bb, 0, none⟩) rb.bytes.length rb.bytes.length) ∧ cur[k * 2 + 1]? = some (.bool rb.freed) ∧ R bb = some (.pages k) ∧ w.heap[bb]? = some (.cells (intCells rb.bytes) 3 (0, 0))
structure RMemIs (w : World) (base p : Nat) (R : Nat → Option Role) (a : Option Addr) (cap g : Nat) (cur : Array Value) (a2 : Option Addr) (cap2 g2 : Nat) (cur2 : Array Value) (N : RM) : Prop where
  hp : w.heap[p]? = some (.cells #[.slice a N.L.length cap, .slice a2 N.ptrs.length cap2] 30 (0, 0))
  rp : R p = some .mem
  rows : (N.L = [] ∧ a = none ∧ cap = 0) ∨ (a = some ⟨g, 0, none⟩ ∧ R g = some .rows ∧ w.heap[g]? = some (.cells cur 51 (0, 0)) ∧ (0 < N.L.length ∧ N.L.length ≤ cap) ∧ cap ≤ maxLen ∧ cur.size = cap * 2)
  pts : (N.ptrs = [] ∧ a2 = none ∧ cap2 = 0) ∨ (a2 = some ⟨g2, 0, none⟩ ∧ R g2 = some (.page 0 0) ∧ w.heap[g2]? = some (.cells cur2 32 (0, 0)) ∧ (0 < N.ptrs.length ∧ N.ptrs.length ≤ cap2) ∧ cap2 ≤ maxLen ∧ cur2.size = cap2 * 3)
  blk : ∀ (k : Nat) (rb : RB), N.L[k]? = some rb → RBlk w R cur k rb
  ptr : ∀ (k : Nat) (v : V), N.ptrs[k]? = some v → cur2[k * 3]? = some (.int .i64 v.k) ∧ cur2[k * 3 + 1]? = some (.int .i64 v.n) ∧ cur2[k * 3 + 2]? = some (.int .i64 v.b)
  rng : ∀ b, R b ≠ none → base ≤ b ∧ b < w.heap.size
  sz : ∀ rb, rb ∈ N.L → rb.bytes.length ≤ 65536
  len : N.L.length ≤ 100000
def RMem (w : World) (base p : Nat) (R : Nat → Option Role) (N : RM) : Prop := ∃ a cap g cur a2 cap2 g2 cur2, RMemIs w base p R a cap g cur a2 cap2 g2 cur2 N
theorem RBlk.keep {w w' : World} {R R' : Nat → Option Role} {cur cur' : Array Value} {k : Nat} {rb : RB} (h : RBlk w R cur k rb) (hc : ∀ o, k * 2 ≤ o → o < k * 2 + 2 → cur'[o]? = cur[o]?)
    (hR : ∀ b, R b = some (.pages k) → R' b = some (.pages k) ∧ w'.heap[b]? = w.heap[b]?) : RBlk w' R' cur' k rb := by
  obtain ⟨bb, h1, h2, h3, h4⟩ := h
  exact ⟨bb, (hc _ (by omega) (by omega)).trans h1, (hc _ (by omega) (by omega)).trans h2, (hR bb h3).1, (hR bb h3).2.trans h4⟩
theorem RMemIs.keep {w w' : World} {base p : Nat} {R : Nat → Option Role} {a a2 : Option Addr} {cap g cap2 g2 : Nat} {cur cur2 : Array Value} {N : RM} (h : RMemIs w base p R a cap g cur a2 cap2 g2 cur2 N)
    (hs : w.heap.size ≤ w'.heap.size) (hk : ∀ b, R b ≠ none → w'.heap[b]? = w.heap[b]?) : RMemIs w' base p R a cap g cur a2 cap2 g2 cur2 N := by
  have hk' : ∀ b r, R b = some r → w'.heap[b]? = w.heap[b]? := fun b r hb => hk b (by simp [hb])
  refine ⟨(hk' p _ h.rp).trans h.hp, h.rp, ?_, ?_, fun k rb hrb => (h.blk k rb hrb).keep (fun _ _ _ => rfl) (fun b hb => ⟨hb, hk' b _ hb⟩), h.ptr, fun b hb => ⟨(h.rng b hb).1, Nat.lt_of_lt_of_le (h.rng b hb).2 hs⟩, h.sz, h.len⟩
  · rcases h.rows with h1 | ⟨h1, h2, h3, h4⟩
    · exact .inl h1
    · exact .inr ⟨h1, h2, (hk' g _ h2).trans h3, h4⟩
  · rcases h.pts with h1 | ⟨h1, h2, h3, h4⟩
    · exact .inl h1
    · exact .inr ⟨h1, h2, (hk' g2 _ h2).trans h3, h4⟩
theorem RMem.keep {w w' : World} {base p : Nat} {R : Nat → Option Role} {N : RM} (h : RMem w base p R N) (hs : w.heap.size ≤ w'.heap.size) (hk : ∀ b, R b ≠ none → w'.heap[b]? = w.heap[b]?) : RMem w' base p R N := by
  obtain ⟨a, cap, g, cur, a2, cap2, g2, cur2, h⟩ := h
  exact ⟨a, cap, g, cur, a2, cap2, g2, cur2, h.keep hs hk⟩
theorem RMem.below {w w' : World} {base p : Nat} {R : Nat → Option Role} {N : RM} (h : RMem w base p R N) (hb : Below w.heap.size w w') : RMem w' base p R N := by
  obtain ⟨a, cap, g, cur, a2, cap2, g2, cur2, h⟩ := h
  exact ⟨a, cap, g, cur, a2, cap2, g2, cur2, h.keep hb.size fun b hR => hb.block b (h.rng b hR).2⟩
/-- Another memory's call leaves the document's as it is. -/
theorem RMem.beside {w w' : World} {base p : Nat} {R R' Q : Nat → Option Role} {N : RM} (h : RMem w base p Q N) (hf : MFr R R' w w') (ha : Apart R Q) : RMem w' base p Q N := by
  obtain ⟨a, cap, g, cur, a2, cap2, g2, cur2, h⟩ := h
  exact ⟨a, cap, g, cur, a2, cap2, g2, cur2, h.keep hf.size fun b hR => hf.block b (h.rng b hR).2 (ha.symm b hR)⟩
/-- One block of the document's memory is turned. -/
theorem RMemIs.turn {w w' : World} {base p : Nat} {R : Nat → Option Role} {a a2 : Option Addr} {cap g cap2 g2 : Nat} {cur cur' cur2 : Array Value} {N : RM} {k : Nat} {rb rb' : RB} (h : RMemIs w base p R a cap g cur a2 cap2 g2 cur2 N) (hN : N.L[k]? = some rb)
    (hs : w'.heap.size = w.heap.size) (hg : w'.heap[g]? = some (.cells cur' 51 (0, 0))) (hsz : cur'.size = cur.size) (hout : ∀ o, o < k * 2 ∨ k * 2 + 2 ≤ o → cur'[o]? = cur[o]?) (hB : RBlk w' R cur' k rb')
    (hk : ∀ b r, R b = some r → r ≠ .pages k → r ≠ .rows → w'.heap[b]? = w.heap[b]?) (hl : rb'.bytes.length ≤ 65536) : RMemIs w' base p R a cap g cur' a2 cap2 g2 cur2 ⟨N.L.set k rb', N.ptrs⟩ := by
  have hlt := lt_of_get hN
  refine ⟨by simp only [List.length_set]; rw [hk p _ h.rp (by simp) (by simp)]; exact h.hp, h.rp, ?_, ?_, fun i bi hbi => ?_, h.ptr, fun b hb => by rw [hs]; exact h.rng b hb, fun b hb => ?_, by simp only [List.length_set]; exact h.len⟩
  · rcases h.rows with ⟨h1, _⟩ | ⟨h1, h2, h3, h4, h5, h6⟩
    · rw [h1] at hlt; simp at hlt
    · exact .inr ⟨h1, h2, hg, by simp only [List.length_set]; exact h4, h5, hsz.trans h6⟩
  · rcases h.pts with h1 | ⟨h1, h2, h3, h4⟩
    · exact .inl h1
    · exact .inr ⟨h1, h2, (hk g2 _ h2 (by simp) (by simp)).trans h3, h4⟩
  · simp only [List.getElem?_set] at hbi
    by_cases hik : k = i
    · subst hik
      rw [if_pos rfl, if_pos hlt] at hbi
      cases hbi
      exact hB
    · rw [if_neg hik] at hbi
      refine (h.blk i bi hbi).keep (fun o h1 h2 => hout o (by omega)) (fun b hb => ⟨hb, hk b _ hb (by simp; omega) (by simp)⟩)
  · rcases List.mem_or_eq_of_mem_set hb with h1 | rfl
    · exact h.sz _ h1
    · exact hl
theorem RMemIs.c0 {w : World} {base p : Nat} {R : Nat → Option Role} {a a2 : Option Addr} {cap g cap2 g2 : Nat} {cur cur2 : Array Value} {N : RM} (h : RMemIs w base p R a cap g cur a2 cap2 g2 cur2 N) :
    w.cell? ⟨p, 0, none⟩ = some (.slice a N.L.length cap) := heap_cell h.hp (by simp)
theorem RMemIs.c1 {w : World} {base p : Nat} {R : Nat → Option Role} {a a2 : Option Addr} {cap g cap2 g2 : Nat} {cur cur2 : Array Value} {N : RM} (h : RMemIs w base p R a cap g cur a2 cap2 g2 cur2 N) :
    w.cell? ⟨p, 1, none⟩ = some (.slice a2 N.ptrs.length cap2) := heap_cell h.hp (by simp)
theorem RMemIs.has {w : World} {base p : Nat} {R : Nat → Option Role} {a a2 : Option Addr} {cap g cap2 g2 : Nat} {cur cur2 : Array Value} {N : RM} (h : RMemIs w base p R a cap g cur a2 cap2 g2 cur2 N) {k : Nat} {rb : RB} (hN : N.L[k]? = some rb) :
    a = some ⟨g, 0, none⟩ ∧ R g = some .rows ∧ w.heap[g]? = some (.cells cur 51 (0, 0)) ∧ (0 < N.L.length ∧ N.L.length ≤ cap) ∧ cap ≤ maxLen ∧ cur.size = cap * 2 := by
  rcases h.rows with ⟨h1, _⟩ | h1
  · rw [h1] at hN; simp at hN
  · exact h1
/-- Is there such a block, not freed? -/
def isN (N : RM) (x : Int) : Bool := if x < 1 then false else match N.L[(x - 1).toNat]? with
  | none => false
  | some rb => !rb.freed
set_option maxHeartbeats 400000 in
theorem is_low (p n cap : Nat) (a : Option Addr) (x : Int) (w : World) (c0 : w.cell? ⟨p, 0, none⟩ = some (.slice a n cap)) (hx : x < 1) :
    Calls Try.prog 20 #[.pointer (some ⟨p, 0, none⟩), .int .i64 x] w fun e w' => e = .returned (.bool false) ∧ w' = w := by
  go_enter Try.func20, Try.ntmps20
  go_wp2
  go_ret
  exact ⟨rfl, rfl⟩
set_option maxHeartbeats 400000 in
theorem is_high (p n cap : Nat) (a : Option Addr) (x : Int) (w : World) (c0 : w.cell? ⟨p, 0, none⟩ = some (.slice a n cap)) (hx : 1 ≤ x) (hn : (n : Int) < x) :
    Calls Try.prog 20 #[.pointer (some ⟨p, 0, none⟩), .int .i64 x] w fun e w' => e = .returned (.bool false) ∧ w' = w := by
  go_enter Try.func20, Try.ntmps20
  go_wp2
  go_ret
  exact ⟨rfl, rfl⟩
set_option maxHeartbeats 400000 in
theorem is_in (p n cap g k : Nat) (x : Int) (fr : Bool) (w : World) (c0 : w.cell? ⟨p, 0, none⟩ = some (.slice (some ⟨g, 0, none⟩) n cap)) (hx : 1 ≤ x) (hn : x ≤ (n : Int)) (hk : x - 1 = k) (hw : wrap64 (k : Int) = k)
    (cf : w.cell? ⟨g, k * 2 + 1, none⟩ = some (.bool fr)) :
    Calls Try.prog 20 #[.pointer (some ⟨p, 0, none⟩), .int .i64 x] w fun e w' => e = .returned (.bool (!fr)) ∧ w' = w := by
  have k0 : (0 : Int) ≤ k := by omega
  have k1 : (k : Int) < n := by omega
  cases fr
  all_goals
    go_enter Try.func20, Try.ntmps20
    go_wp2
    go_ret
    exact ⟨by simp, rfl⟩
theorem is_any {w : World} {base p : Nat} {R : Nat → Option Role} {N : RM} (h : RMem w base p R N) (x : Int) :
    Calls Try.prog 20 #[.pointer (some ⟨p, 0, none⟩), .int .i64 x] w fun e w' => e = .returned (.bool (isN N x)) ∧ w' = w := by
  obtain ⟨a, cap, g, cur, a2, cap2, g2, cur2, h⟩ := h
  by_cases h1 : x < 1
  · have e : isN N x = false := by simp [isN, h1]
    rw [e]
    exact is_low p _ cap a x w h.c0 h1
  by_cases h2 : (N.L.length : Int) < x
  · have e : isN N x = false := by
      unfold isN
      rw [if_neg h1, List.getElem?_eq_none (by omega)]
    rw [e]
    exact is_high p _ cap a x w h.c0 (by omega) h2
  · obtain ⟨k, hk⟩ : ∃ k : Nat, x - 1 = k := ⟨(x - 1).toNat, by omega⟩
    have hkl : k < N.L.length := by omega
    have hab := List.getElem?_eq_getElem hkl
    obtain ⟨rfl, hg, hh, _⟩ := h.has hab
    obtain ⟨bb, _, hf, _, _⟩ := h.blk k _ hab
    have hl := h.len
    have e : isN N x = !(N.L[k]).freed := by
      unfold isN
      rw [if_neg h1, show (x - 1).toNat = k by omega, hab]
    rw [e]
    exact is_in p _ cap g k x _ w h.c0 (by omega) (by omega) hk (wrapN k (by omega)) (heap_cell hh hf)
end Go.Proofs.Ytnklpccggbkknaa
