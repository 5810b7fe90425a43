/- Contract of Alloc. -/
import Derived.Test.YtnklpccggbkknaaMStore2
namespace Go.Proofs.Ytnklpccggbkknaa
open Go.ChangeShapes Go.WideShapes Go.ChangeAt Go.RowKit Pl
set_option linter.unusedSimpArgs false
set_option linter.unusedVariables false

theorem info73 : (Try.prog.info? 68).map (fun i => (i.zero, i.size, i.bytes)) = some (some (.agg #[.int .i64 0, .bool false, .bool false, .slice none 0 0]), 4, 40) := by kernel_rfl
set_option maxHeartbeats 1000000 in
theorem alloc_arg (p : Nat) (x : Int) (w : World) (hx : x < 0 ∨ 65536 < x) :
    Calls Try.prog 9 #[.pointer (some ⟨p, 0, none⟩), .int .i64 x] w fun e w' => e = .returned (.tuple #[.int .i64 0, .int .i64 1]) ∧ w' = w := by
  by_cases h0 : x < 0
  · go_enter Try.func9, Try.ntmps9
    go_wp2
    go_ret2
    exact ⟨rfl, rfl⟩
  · have h1 : 65536 < x := by omega
    go_enter Try.func9, Try.ntmps9
    go_wp2
    go_ret2
    exact ⟨rfl, rfl⟩
set_option maxHeartbeats 1000000 in
theorem alloc_limit (p n cap : Nat) (a : Option Addr) (x : Int) (w : World) (h0 : 0 ≤ x) (h1 : x ≤ 65536) (c0 : w.cell? ⟨p, 0, none⟩ = some (.slice a n cap)) (hn : (100000 : Int) ≤ (n : Int)) :
    Calls Try.prog 9 #[.pointer (some ⟨p, 0, none⟩), .int .i64 x] w fun e w' => e = .returned (.tuple #[.int .i64 0, .int .i64 2]) ∧ w' = w := by
  go_enter Try.func9, Try.ntmps9
  go_wp2
  go_ret2
  exact ⟨rfl, rfl⟩
def newCells (x : Int) : List Value := [.int .i64 x, .bool false, .bool false, .slice none 0 0]
set_option maxHeartbeats 1000000 in
theorem alloc_new (p n cap : Nat) (a : Option Addr) (x L : Int) (xs : List Value) (w : World) (h0 : 0 ≤ x) (h1 : x ≤ 65536) (c0 : w.cell? ⟨p, 0, none⟩ = some (.slice a n cap)) (c1 : w.cell? ⟨p, 1, none⟩ = some (.int .i64 L)) (z0 : w.frozen? ⟨p, 0, none⟩ = false) (z1 : w.frozen? ⟨p, 1, none⟩ = false)
    (L0 : 0 ≤ L) (L1 : L ≤ 100000) (hn : (n : Int) < 100000) (HO : Hid (w.ownsRow 0 68 4 (.slice a n cap) n xs)) (hne : (Value.slice a n cap).ownBlock ≠ some p) :
    Calls Try.prog 9 #[.pointer (some ⟨p, 0, none⟩), .int .i64 x] w fun e w' => e = .returned (.tuple #[.int .i64 ((n : Int) + 1), .int .i64 0]) ∧
      ∃ g cap' w1, (w.alloc (.cells (newCells x).toArray 68)).grownBy w1 (Value.slice a n cap).ownBlock ∧ w1.ownsRow 0 68 4 (.slice (some ⟨g, 0, none⟩) (n + 1) cap') (n + 1) (xs ++ newCells x) ∧
        ((Value.slice a n cap).ownBlock = some g ∨ g = w.heap.size + 1) ∧ g < w1.heap.size ∧ w' = (w1.setCell ⟨p, 0, none⟩ (.slice (some ⟨g, 0, none⟩) (n + 1) cap')).setCell ⟨p, 1, none⟩ (.int .i64 (L + 1)) := by
  obtain ⟨i0, hi, hz0, hz1, hz2⟩ := info_parts info73
  have pl : p < w.heap.size := block_lt_of_cell c0
  have HI : Hid (Try.prog.info? 68 = some i0 ∧ i0.zero = some (.agg #[.int .i64 0, .bool false, .bool false, .slice none 0 0]) ∧ i0.size = 4 ∧ i0.bytes = 40) := ⟨hi, hz0, hz1, hz2⟩
  have HN : Hid ((Value.slice a n cap).ownBlock ≠ some p) := hne
  have HB : Hid (n < 100000) := by show n < 100000; omega
  have hdec : decide ((100000 : Int) ≤ (n : Int)) = false := by simp; omega
  clear hi hz0 hz1 hz2 hne hn
  go_enter Try.func9, Try.ntmps9
  go_wp2_with (at_builtin; refine wpList_append_lies _ (by rfl) _ _ 62 (by rfl) 0 68 i0 (.agg #[.int .i64 0, .bool false, .bool false, .slice none 0 0]) 4 40 Try.underlying62 HI.out.1 HI.out.2.1 HI.out.2.2.1 HI.out.2.2.2 rfl (by omega) (.slice a n cap) n xs (by rfl) (HO.out.alloc _) ⟨w.heap.size, 0, none⟩ 1 1 (newCells x) (by rfl) (by rfl) ?c1 ?c2 (by omega) ?c3 ?c4 (Nat.zero_le _) (w.heap.size + 1) (by simp) ?_)
  case c1 => exact World.news_of_block (heap_alloc_new w (.cells (newCells x).toArray 68))
  case c2 => intro u hu; simp [newCells] at hu; rcases hu with rfl | rfl | rfl | rfl <;> rfl
  case c3 => have := HB.out; unfold maxLen; omega
  case c4 => have := HB.out; omega
  intro g cap' w1 hown hgrow hat hlt
  have d0 : w1.cell? ⟨p, 0, none⟩ = some (.slice a n cap) := (hgrow.cell_far ⟨p, 0, none⟩ (by simp; omega) (Ne.symm HN.out)).trans (keep_alloc c0 _)
  have d1 : w1.cell? ⟨p, 1, none⟩ = some (.int .i64 L) := (hgrow.cell_far ⟨p, 1, none⟩ (by simp; omega) (Ne.symm HN.out)).trans (keep_alloc c1 _)
  have y0 : w1.frozen? ⟨p, 0, none⟩ = false := (hgrow.frozen_far ⟨p, 0, none⟩ (by simp; omega) (Ne.symm HN.out)).trans (by rw [((Below.refl _ w).alloc (Nat.le_refl _) _).frozen (p := ⟨p, 0, none⟩) pl]; exact z0)
  have y1 : w1.frozen? ⟨p, 1, none⟩ = false := (hgrow.frozen_far ⟨p, 1, none⟩ (by simp; omega) (Ne.symm HN.out)).trans (by rw [((Below.refl _ w).alloc (Nat.le_refl _) _).frozen (p := ⟨p, 1, none⟩) pl]; exact z1)
  have HG : Hid ((w.alloc (.cells (newCells x).toArray 68)).grownBy w1 (Value.slice a n cap).ownBlock ∧ w1.ownsRow 0 68 4 (.slice (some ⟨g, 0, none⟩) (n + 1) cap') (n + 1) (xs ++ newCells x) ∧ ((Value.slice a n cap).ownBlock = some g ∨ g = w.heap.size + 1) ∧ g < w1.heap.size) := ⟨hgrow, hown, hat, hlt⟩
  clear hown hgrow hat hlt
  go_wp2
  go_ret2
  exact ⟨by simp, g, cap', w1, HG.out.1, HG.out.2.1, HG.out.2.2.1, HG.out.2.2.2, rfl⟩
def newB (x : Int) : AB := ⟨x.toNat, false, false, fun _ => noW⟩
def allocM (M : List AB) (x : Int) : List AB × Int × Int :=
  if x < 0 ∨ 65536 < x then (M, 0, 1) else if 100000 ≤ M.length then (M, 0, 2) else (M ++ [newB x], (M.length : Int) + 1, 0)
theorem take_get {l l' : List Value} {n o : Nat} (h : l.take n = l') (ho : o < n) : l[o]? = l'[o]? := by
  rw [← h, List.getElem?_take, if_pos ho]
theorem alloc_mem {w : World} {base p : Nat} {R : Nat → Option Role} {M : List AB} (h : Mem w base p R M) (x : Int) :
    Calls Try.prog 9 #[.pointer (some ⟨p, 0, none⟩), .int .i64 x] w fun e w' => e = .returned (.tuple #[.int .i64 (allocM M x).2.1, .int .i64 (allocM M x).2.2]) ∧
      ∃ R', Mem w' base p R' (allocM M x).1 ∧ MFr R R' w w' := by
  have hM := h
  obtain ⟨a, cap, g, cur, h⟩ := h
  by_cases hx : x < 0 ∨ 65536 < x
  · have e : allocM M x = (M, 0, 1) := by simp [allocM, hx]
    rw [e]
    refine (alloc_arg p x w hx).mono ?_
    rintro e w' ⟨rfl, rfl⟩
    exact ⟨rfl, R, hM, MFr.refl _ _⟩
  by_cases hl : 100000 ≤ M.length
  · have e : allocM M x = (M, 0, 2) := by unfold allocM; rw [if_neg hx, if_pos hl]
    rw [e]
    refine (alloc_limit p _ cap a x w (by omega) (by omega) h.c0 (by omega)).mono ?_
    rintro e w' ⟨rfl, rfl⟩
    exact ⟨rfl, R, hM, MFr.refl _ _⟩
  have e : allocM M x = (M ++ [newB x], (M.length : Int) + 1, 0) := by unfold allocM; rw [if_neg hx, if_neg hl]
  rw [e]
  have hlb := live_bounds M
  have hlen := h.len
  have hpl := (h.rng p (by rw [h.rp]; simp)).2
  have hbp := (h.rng p (by rw [h.rp]; simp)).1
  -- the row as it is
  obtain ⟨xs, hxs, hown⟩ : ∃ xs : List Value, (∀ o, o < M.length * 4 → xs[o]? = cur[o]?) ∧ w.ownsRow 0 68 4 (.slice a M.length cap) M.length xs := by
    rcases h.rows with ⟨rfl, rfl, rfl⟩ | ⟨rfl, hgR, hh, h4, h5, h6⟩
    · exact ⟨[], fun o ho => by simp at ho, World.ownsRow_nil _ _ _ _⟩
    · refine ⟨cur.toList.take (M.length * 4), fun o ho => by rw [List.getElem?_take, if_pos ho]; simp, ?_, .inr ⟨g, cap, cur, rfl, Nat.zero_le _, hh, h4.2, h5, h6, rfl⟩⟩
      have : cur.toList.length = cap * 4 := h6
      rw [List.length_take, this]
      omega
  have hxl : xs.length = M.length * 4 := hown.1
  have hob : ∀ b, (Value.slice a M.length cap).ownBlock = some b → R b = some .rows := by
    intro b hb
    rcases h.rows with ⟨_, rfl, _⟩ | ⟨rfl, hgR, _⟩
    · simp [Value.ownBlock] at hb
    · simp [Value.ownBlock] at hb
      subst hb
      exact hgR
  refine (alloc_new p _ cap a x (live M) xs w (by omega) (by omega) h.c0 h.c1 (heap_frozen h.hp) (heap_frozen h.hp) hlb.1 (by omega) (by omega) hown (fun e => by have := hob p e; rw [h.rp] at this; cases this)).mono ?_
  rintro e w' ⟨rfl, g', cap', w1, hgrow, hown', hat, hlt, rfl⟩
  refine ⟨rfl, ?_⟩
  have hgs := hgrow.size
  rw [World.size_alloc] at hgs
  have hblk : ∀ b, b < w.heap.size → some b ≠ (Value.slice a M.length cap).ownBlock → w1.heap[b]? = w.heap[b]? := fun b hb hne =>
    (hgrow.block b (by rw [World.size_alloc]; omega) hne).trans (Below.heap_alloc w _ b hb)
  obtain ⟨_, ⟨e, _⟩ | ⟨g2, cp2, cur', e, _, hh', h4, h5, h6, h7⟩⟩ := hown'
  · cases e
  cases e
  have hg'R : ∀ b r, R b = some r → r ≠ .rows → b ≠ g' := fun b r hr hn e => by
    subst e
    rcases hat with h1 | h1
    · have := hob _ h1
      rw [hr] at this
      cases this
      exact hn rfl
    · have := (h.rng _ (by rw [hr]; simp)).2
      omega
  have hpg : p ≠ g' := hg'R p _ h.rp (by simp)
  have hkeep : ∀ b r, R b = some r → r ≠ .rows → w1.heap[b]? = w.heap[b]? := fun b r hr hn => hblk b (h.rng b (by rw [hr]; simp)).2 (fun e => by have := hob b e.symm; rw [hr] at this; cases this; exact hn rfl)
  have hp1 : w1.heap[p]? = some (.cells #[.slice a M.length cap, .int .i64 (live M)] 64 (0, 0)) := (hkeep p _ h.rp (by simp)).trans h.hp
  have hcur : ∀ o, o < (M.length + 1) * 4 → cur'[o]? = (xs ++ newCells x)[o]? := fun o ho => by
    have := take_get h7 ho
    rwa [Array.getElem?_toList] at this
  refine ⟨updR R g' .rows, ⟨some ⟨g', 0, none⟩, cap', g', cur', ?_, ?_, .inr ⟨rfl, updR_same _ _ _, ?_, ⟨by simp, by simpa using h4⟩, h5, h6⟩, ?_, ?_, ?_, by simp; omega⟩, ?_⟩
  · have := heap_set_same (o := 1) (v := .int .i64 (live M + 1)) (heap_set_same (o := 0) (v := .slice (some ⟨g', 0, none⟩) (M.length + 1) cap') hp1)
    rw [this]
    have hlv : live (M ++ [newB x]) = live M + 1 := by simp [live, newB]
    rw [hlv]
    simp
  · rw [updR_ne hpg]; exact h.rp
  · rw [heap_set_other hpg.symm, heap_set_other hpg.symm]; exact hh'
  · intro k ab hk
    by_cases hkl : k < M.length
    · rw [List.getElem?_append_left hkl] at hk
      refine (h.blk k ab hk).keep (fun o h1 h2 => ?_) (fun b r hr hat2 => ?_)
      · rw [hcur o (by omega), List.getElem?_append_left (by omega)]
        exact hxs o (by omega)
      · have hn : r ≠ .rows := fun e => by subst e; exact hat2
        have hnm : r ≠ .mem := fun e => by subst e; exact hat2
        have hbp : b ≠ p := Role.ne_of hr h.rp hnm
        exact ⟨by rw [updR_ne (hg'R b r hr hn)]; exact hr, by rw [heap_set_other hbp, heap_set_other hbp]; exact hkeep b r hr hn⟩
    · have hkl' : k = M.length := by
        have := lt_of_get hk
        simp at this
        omega
      subst hkl'
      rw [List.getElem?_append_right (Nat.le_refl _)] at hk
      simp at hk
      subst hk
      have hr : ∀ r, r < 4 → cur'[M.length * 4 + r]? = (newCells x)[r]? := fun r hr => by
        rw [hcur _ (by omega), List.getElem?_append_right (by omega), hxl]
        congr 1
        omega
      have e0 : ((newB x).size : Int) = x := by simp only [newB]; omega
      exact ⟨by rw [e0]; exact hr 0 (by omega), hr 1 (by omega), hr 2 (by omega), _, hr 3 (by omega), .inl ⟨rfl, fun i => by simp [newB, blankF]⟩⟩
  · intro b hb
    simp only [size_set]
    by_cases e : b = g'
    · subst e
      refine ⟨?_, hlt⟩
      rcases hat with h1 | h1
      · exact (h.rng _ (by rw [hob _ h1]; simp)).1
      · omega
    · rw [updR_ne e] at hb
      have := h.rng b hb
      exact ⟨this.1, by omega⟩
  · intro ab hab
    rw [List.mem_append] at hab
    rcases hab with h1 | h1
    · exact h.sz ab h1
    · simp at h1
      subst h1
      simp only [newB]
      omega
  · refine ⟨hgrow.os, hgrow.tape, hgrow.output, by simp only [size_set]; omega, fun b hb hr => ?_, fun b hb => ?_⟩
    · have hbp : b ≠ p := fun e => by subst e; rw [h.rp] at hr; cases hr
      rw [heap_set_other hbp, heap_set_other hbp]
      exact hblk b hb (fun e => by have := hob b e.symm; rw [hr] at this; cases this)
    · by_cases e : b = g'
      · subst e
        rw [updR_same]
        rcases hat with h1 | h1
        · exact (hob _ h1).symm
        · omega
      · rw [updR_ne e]
end Go.Proofs.Ytnklpccggbkknaa
