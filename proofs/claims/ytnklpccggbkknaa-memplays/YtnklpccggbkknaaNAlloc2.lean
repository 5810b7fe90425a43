/- Contract of the document's own Alloc over its memory. -/
import Derived.Test.YtnklpccggbkknaaNAlloc
namespace Go.Proofs.Ytnklpccggbkknaa
open Go.ChangeShapes Go.WideShapes Go.ChangeAt Go.RowKit Pl
set_option linter.unusedSimpArgs false
set_option linter.unusedVariables false

def rnewB (x : Int) : RB := ⟨List.replicate x.toNat (-1), false⟩
def allocN (N : RM) (x : Int) : RM × Int × Int :=
  if x < 0 ∨ 65536 < x then (N, 0, 1) else if 100000 ≤ N.L.length then (N, 0, 2) else (⟨N.L ++ [rnewB x], N.ptrs⟩, (N.L.length : Int) + 1, 0)
theorem ralloc_any {w : World} {base p : Nat} {R : Nat → Option Role} {N : RM} (h : RMem w base p R N) (x : Int) :
    Calls Try.prog 10 #[.pointer (some ⟨p, 0, none⟩), .int .i64 x] w (RWrote base p R (allocN N x).1 (.tuple #[.int .i64 (allocN N x).2.1, .int .i64 (allocN N x).2.2]) w) := by
  have hM := h
  obtain ⟨a, cap, g, cur, a2, cap2, g2, cur2, h⟩ := h
  by_cases hx : x < 0 ∨ 65536 < x
  · have e : allocN N x = (N, 0, 1) := by simp [allocN, hx]
    rw [e]
    refine (ralloc_arg p x w hx).mono ?_
    rintro e w' ⟨rfl, rfl⟩
    exact ⟨rfl, R, hM, MFr.refl _ _⟩
  by_cases hl : 100000 ≤ N.L.length
  · have e : allocN N x = (N, 0, 2) := by unfold allocN; rw [if_neg hx, if_pos hl]
    rw [e]
    refine (ralloc_limit p _ cap a x w (by omega) (by omega) h.c0 (by omega)).mono ?_
    rintro e w' ⟨rfl, rfl⟩
    exact ⟨rfl, R, hM, MFr.refl _ _⟩
  have e : allocN N x = (⟨N.L ++ [rnewB x], N.ptrs⟩, (N.L.length : Int) + 1, 0) := by unfold allocN; rw [if_neg hx, if_neg hl]
  rw [e]
  obtain ⟨s, hs⟩ : ∃ s : Nat, x = s := ⟨x.toNat, by omega⟩
  subst hs
  have hlen := h.len
  have hpl := (h.rng p (by rw [h.rp]; simp)).2
  have hbp := (h.rng p (by rw [h.rp]; simp)).1
  obtain ⟨xs, hxs, hown⟩ : ∃ xs : List Value, (∀ o, o < N.L.length * 2 → xs[o]? = cur[o]?) ∧ w.ownsRow 0 51 2 (.slice a N.L.length cap) N.L.length xs := by
    rcases h.rows with ⟨h1, rfl, rfl⟩ | ⟨rfl, hgR, hh, h4, h5, h6⟩
    · rw [h1]
      exact ⟨[], fun o ho => by simp at ho, World.ownsRow_nil _ _ _ _⟩
    · refine ⟨cur.toList.take (N.L.length * 2), fun o ho => by rw [List.getElem?_take, if_pos ho]; simp, ?_, .inr ⟨g, cap, cur, rfl, Nat.zero_le _, hh, h4.2, h5, h6, rfl⟩⟩
      have : cur.toList.length = cap * 2 := h6
      rw [List.length_take, this]
      omega
  have hxl : xs.length = N.L.length * 2 := hown.1
  have hob : ∀ b, (Value.slice a N.L.length cap).ownBlock = some b → R b = some .rows := by
    intro b hb
    rcases h.rows with ⟨_, rfl, _⟩ | ⟨rfl, hgR, _⟩
    · simp [Value.ownBlock] at hb
    · simp [Value.ownBlock] at hb
      subst hb
      exact hgR
  refine (ralloc_new p _ cap s a xs w (by omega) h.c0 (heap_frozen h.hp) (by omega) hown (fun e => by have := hob p e; rw [h.rp] at this; cases this) (fun b hb => (h.rng b (by rw [hob b hb]; simp)).2)).mono ?_
  rintro e w' ⟨rfl, g', cap', wr, w1, hints, hgrow, hown', hat, hlt, rfl⟩
  refine ⟨rfl, ?_⟩
  have hwr : wr.heap.size = w.heap.size + 1 := by rw [hints.size, World.size_alloc]
  have hgs := hgrow.size
  rw [World.size_alloc, hwr] at hgs
  rw [hwr] at hat
  have hblk : ∀ b, b < w.heap.size → some b ≠ (Value.slice a N.L.length cap).ownBlock → w1.heap[b]? = w.heap[b]? := fun b hb hne =>
    (hgrow.block b (by rw [World.size_alloc]; omega) hne).trans ((Below.heap_alloc wr _ b (by omega)).trans ((hints.block b (by omega)).trans (Below.heap_alloc w _ b hb)))
  have hbytes : w1.heap[w.heap.size]? = some (.cells (intCells (List.replicate s (-1))) 3 (0, 0)) := by
    rw [hgrow.block w.heap.size (by rw [World.size_alloc]; omega) (fun e => by have := (h.rng _ (by rw [hob _ e.symm]; simp)).2; omega), Below.heap_alloc wr _ _ (by omega)]
    exact hints.row
  obtain ⟨_, ⟨e, _⟩ | ⟨g3, cp3, cur', e, _, hh', h4, h5, h6, h7⟩⟩ := hown'
  · cases e
  cases e
  have hg'R : ∀ b r, R b = some r → r ≠ .rows → b ≠ g' := fun b r hr hn e => by
    subst e
    rcases hat with h1 | h1
    · have := hob _ h1
      rw [hr] at this
      cases this
      exact hn rfl
    · have := (h.rng _ (by rw [hr]; simp)).2
      omega
  have hg's : g' ≠ w.heap.size := fun e => by
    rcases hat with h1 | h1
    · have := (h.rng _ (by rw [hob _ h1]; simp)).2
      omega
    · omega
  have hpg : p ≠ g' := hg'R p _ h.rp (by simp)
  have hps : p ≠ w.heap.size := by omega
  have hkeep : ∀ b r, R b = some r → r ≠ .rows → w1.heap[b]? = w.heap[b]? := fun b r hr hn => hblk b (h.rng b (by rw [hr]; simp)).2 (fun e => by have := hob b e.symm; rw [hr] at this; cases this; exact hn rfl)
  have hp1 : w1.heap[p]? = some (.cells #[.slice a N.L.length cap, .slice a2 N.ptrs.length cap2] 30 (0, 0)) := (hkeep p _ h.rp (by simp)).trans h.hp
  have hcur : ∀ o, o < (N.L.length + 1) * 2 → cur'[o]? = (xs ++ rnewCells w.heap.size s)[o]? := fun o ho => by
    have := take_get h7 ho
    rwa [Array.getElem?_toList] at this
  -- the roles: the new row, the new bytes
  have hR' : ∀ b r, R b = some r → r ≠ .rows → updR (updR R g' .rows) w.heap.size (.pages N.L.length) b = some r := fun b r hr hn => by
    rw [updR_ne (by have := (h.rng b (by rw [hr]; simp)).2; omega), updR_ne (hg'R b r hr hn)]
    exact hr
  refine ⟨updR (updR R g' .rows) w.heap.size (.pages N.L.length), ⟨some ⟨g', 0, none⟩, cap', g', cur', a2, cap2, g2, cur2, ?_, hR' p _ h.rp (by simp), .inr ⟨rfl, by rw [updR_ne hg's, updR_same], ?_, ⟨by simp, by simpa using h4⟩, h5, h6⟩, ?_, ?_, h.ptr, ?_, ?_, by simp; omega⟩, ?_⟩
  · rw [heap_set_same hp1]
    simp
  · rw [heap_set_other hpg.symm]; exact hh'
  · rcases h.pts with h1 | ⟨h1, h2, h3, h4⟩
    · exact .inl h1
    · exact .inr ⟨h1, hR' g2 _ h2 (by simp), by rw [heap_set_other (Role.ne_of h2 h.rp (by simp)), hkeep g2 _ h2 (by simp)]; exact h3, h4⟩
  · intro k rb hk
    by_cases hkl : k < N.L.length
    · simp only [List.getElem?_append_left hkl] at hk
      refine (h.blk k rb hk).keep (fun o h1 h2 => ?_) (fun b hr => ?_)
      · rw [hcur o (by omega), List.getElem?_append_left (by omega)]
        exact hxs o (by omega)
      · exact ⟨hR' b _ hr (by simp), by rw [heap_set_other (Role.ne_of hr h.rp (by simp))]; exact hkeep b _ hr (by simp)⟩
    · have hkl' : k = N.L.length := by
        have := lt_of_get hk
        simp at this
        omega
      subst hkl'
      simp only [List.getElem?_append_right (Nat.le_refl _), Nat.sub_self, List.getElem?_cons_zero, Option.some.injEq] at hk
      subst hk
      have hr : ∀ r, r < 2 → cur'[N.L.length * 2 + r]? = (rnewCells w.heap.size s)[r]? := fun r hr => by
        rw [hcur _ (by omega), List.getElem?_append_right (by omega), hxl]
        congr 1
        omega
      refine ⟨w.heap.size, by simpa [rnewB, rnewCells] using hr 0 (by omega), by simpa [rnewB, rnewCells] using hr 1 (by omega), updR_same _ _ _, ?_⟩
      rw [heap_set_other hps.symm, hbytes]
      simp [rnewB]
  · intro b hb
    simp only [size_set]
    by_cases e : b = w.heap.size
    · subst e
      exact ⟨by omega, by omega⟩
    · rw [updR_ne e] at hb
      by_cases e : b = g'
      · subst e
        refine ⟨?_, hlt⟩
        rcases hat with h1 | h1
        · exact (h.rng _ (by rw [hob _ h1]; simp)).1
        · omega
      · rw [updR_ne e] at hb
        have := h.rng b hb
        exact ⟨this.1, by omega⟩
  · intro rb hrb
    simp only [List.mem_append, List.mem_singleton] at hrb
    rcases hrb with h1 | h1
    · exact h.sz rb h1
    · subst h1
      simp [rnewB]
      omega
  · refine ⟨hgrow.os.trans hints.os, hgrow.tape.trans hints.tape, hgrow.output.trans hints.output, by simp only [size_set]; omega, fun b hb hr => ?_, fun b hb => ?_⟩
    · have hbp : b ≠ p := fun e => by subst e; rw [h.rp] at hr; cases hr
      rw [heap_set_other hbp]
      exact hblk b hb (fun e => by have := hob b e.symm; rw [hr] at this; cases this)
    · rw [updR_ne (by omega)]
      by_cases e : b = g'
      · subst e
        rw [updR_same]
        rcases hat with h1 | h1
        · exact (hob _ h1).symm
        · omega
      · rw [updR_ne e]
end Go.Proofs.Ytnklpccggbkknaa
