/- Each: its contract: the iterator that it answers. -/
import Derived.Test.YtkbihcicnffjdaaDoorLEach1
namespace Go.Proofs.YtkbihcicnffjdaaDoor
open Go.ChangeShapes Go.WideShapes Go.ChangeAt Go.RowKit Go.Shelf
set_option linter.unusedSimpArgs false
set_option linter.unusedVariables false

theorem chain3 (w : World) (o0 o1 o2 : Obj) : (((w.alloc o0).alloc o1).alloc o2).heap.size = w.heap.size + 3 ∧ (∀ k, k < w.heap.size → (((w.alloc o0).alloc o1).alloc o2).heap[k]? = w.heap[k]?) ∧
    (((w.alloc o0).alloc o1).alloc o2).heap[w.heap.size]? = some o0 ∧ (((w.alloc o0).alloc o1).alloc o2).heap[w.heap.size + 1]? = some o1 ∧ (((w.alloc o0).alloc o1).alloc o2).heap[w.heap.size + 2]? = some o2 := by
  refine ⟨by simp, fun k hk => ?_, ?_, ?_, ?_⟩
  · rw [Below.heap_alloc _ _ k (by simp; omega), Below.heap_alloc _ _ k (by simp; omega), Below.heap_alloc _ _ k hk]
  · rw [Below.heap_alloc _ _ _ (by simp; omega), Below.heap_alloc _ _ _ (by simp)]
    exact World.alloc_heap_new w o0
  · rw [Below.heap_alloc _ _ _ (by simp)]
    have := World.alloc_heap_new (w.alloc o0) o1
    simpa using this
  · have := World.alloc_heap_new ((w.alloc o0).alloc o1) o2
    simpa using this
/-- Where the loop of Each's iterator is. -/
structure EJ (H l0 : Nat) (r : Loop) (J : World → Prop) (W : World) : Prop where
  j : J W
  size : H + 5 ≤ W.heap.size
  yb : W.heap[H]? = some (.cells #[.func (.yield l0) #[] #[]] 51 (0, 0))
  box : W.heap[H + 2]? = some (.cells #[.pointer (some ⟨H + 1, 0, none⟩)] 42 (0, 0))
  dfr : W.heap[H + 3]? = some (.deferred (some []))
  lp : W.heap[H + 4]? = some (.loop r)
theorem Moved.belowH {cb H : Nat} {W W' : World} (h : Moved cb W W') (h1 : H ≤ cb) (h2 : H ≤ W.heap.size) : Below H W W' :=
  { os := h.os, tape := h.tape, output := h.output, size := h.size, block := fun k hk => h.block k (by omega) (by omega) }
theorem below_put {H l : Nat} {W : World} {o : Obj} (h : H ≤ l) : Below H W (W.putObj l o) :=
  { os := rfl, tape := rfl, output := rfl, size := by rw [World.putObj_size]; exact Nat.le_refl _, block := fun k hk => World.putObj_heap_other (by omega) }
theorem EJ.moved {H l0 : Nat} {r : Loop} {J : World → Prop} {W W' : World} (h : EJ H l0 r J W) (hJ : ∀ W W', J W → Below H W W' → J W') (hm : Moved (H + 1) W W') : EJ H l0 r J W' := by
  have hs := h.size
  exact ⟨hJ W W' h.j (hm.belowH (by omega) (by omega)), by have := hm.size; omega, (hm.block _ (by omega) (by omega)).trans h.yb, (hm.block _ (by omega) (by omega)).trans h.box, (hm.block _ (by omega) (by omega)).trans h.dfr, (hm.block _ (by omega) (by omega)).trans h.lp⟩
structure E0Is (w : World) (t : ByteArray) (l0 : Nat) (W : World) : Prop where
  bel : Below w.heap.size w W
  size : W.heap.size = w.heap.size + 3
  yb : W.heap[w.heap.size]? = some (.cells #[.func (.yield l0) #[] #[]] 51 (0, 0))
  cut : CutIs W (w.heap.size + 1) t 0
  box : W.heap[w.heap.size + 2]? = some (.cells #[.pointer (some ⟨w.heap.size + 1, 0, none⟩)] 42 (0, 0))
theorem E0Is.enter {w W : World} {t : ByteArray} {l0 : Nat} {J : World → Prop} (h : E0Is w t l0 W) (hJ : ∀ W W', J W → Below w.heap.size W W' → J W') (h0 : J w) (r : Loop) : EJ w.heap.size l0 r J (loopW W r) ∧ CutIs (loopW W r) (w.heap.size + 1) t 0 := by
  obtain ⟨h1, h2, h3, h4⟩ := chain2 W r
  have hs := h.size
  rw [hs] at h1 h2 h3 h4
  have hb : Below w.heap.size W (loopW W r) := { os := rfl, tape := rfl, output := rfl, size := by omega, block := fun k hk => h2 k (by omega) }
  exact ⟨⟨hJ _ _ h0 (h.bel.trans hb), by omega, (h2 _ (by omega)).trans h.yb, (h2 _ (by omega)).trans h.box, h3, h4⟩, (h2 _ (by omega)).trans h.cut⟩
/-- What a word of the outer loop is answered, with what that loop keeps. -/
def outerEnd (H : Nat) (W : World) (J Jx : World → Prop) : Ending → World → Prop := fun e W' => yieldEnd J Jx e W' ∧ KeepsUp H W W'
def eachList (t : ByteArray) : List (WW × Nat) := if 65536 < t.size then [] else (lexAll t).1
set_option maxRecDepth 100000 in
set_option maxHeartbeats 8000000 in
theorem each1_any (l0 tb : Nat) (t : ByteArray) (w : World) (J : List (WW × Nat) → World → Prop) (Jx : World → Prop) (htb : w.cell? ⟨tb, 0, none⟩ = some (.string t)) (h0 : J [] w)
    (HT : Hid (∀ pre W, J pre W → LexTab W ∧ ErrTab W))
    (HM : Hid (∀ pre W W', J pre W → Below w.heap.size W W' → J pre W'))
    (HX : Hid (∀ W W', Jx W → Below w.heap.size W W' → Jx W'))
    (HY : Hid (∀ pre x j rest W, (lexAll t).1 = pre ++ (x, j) :: rest → t.size ≤ 65536 → J pre W → w.heap.size ≤ W.heap.size → YieldAt Fence.wide 0 Tryd.prog l0 #[.int .i64 pre.length, wordAt x (posOf t j)] W (outerEnd w.heap.size W (J (pre ++ [(x, j)])) Jx))) :
    Calls Tryd.prog 20 #[.func (.yield l0) #[] #[], .pointer (some ⟨tb, 0, none⟩)] w fun e W => e = .returned (.tuple #[]) ∧ (J (eachList t) W ∨ Jx W) := by
  have H0 : Hid (J [] w) := h0
  clear h0
  refine callsIn_wide.1 (callsIn_of_wp_marks (n := 3) Tryd.func20 rfl trivial ?_)
  simp only [Tryd.ntmps20, List.size_toArray, List.length_cons, List.length_nil, Nat.reduceAdd, Nat.reduceSub, Array.replicate_succ, Array.replicate_zero, List.push_toArray, List.append_toArray, List.nil_append, List.cons_append]
  refine wpIn_wide.2 ?_
  have tl : tb < w.heap.size := block_lt_of_cell htb
  by_cases hts : 65536 < t.size
  · have h1 : (65536 : Int) < (t.size : Int) := by omega
    go_wp2
    refine ⟨_, results_none rfl _ _ _, rfl, .inl ?_⟩
    rw [eachList, if_pos hts]
    exact HM.out _ _ _ H0.out ((Below.refl _ _).alloc (Nat.le_refl _) _)
  · have h1 : (t.size : Int) ≤ 65536 := by omega
    go_wp2_with (first | (go_at_call 12; refine (begin_any t _).mono ?_; rintro e w2 ⟨rfl, rfl⟩) | (go_at_call 13; refine (lwords_any _ _).mono ?_; rintro e w3 ⟨rfl, rfl⟩))
    refine wp_named (E0Is w t l0) ?_ ?_
    · obtain ⟨c1, c2, c3, c4, c5⟩ := chain3 w (.cells #[.func (.yield l0) #[] #[]] 51) (.cells (cutCells t 0) 46) (.cells #[.pointer (some ⟨w.heap.size + 1, 0, none⟩)] 42)
      first | exact ⟨⟨rfl, rfl, rfl, by rw [c1]; omega, c2⟩, c1, c3, c4, c5⟩ | (simp only [World.size_alloc]; exact ⟨⟨rfl, rfl, rfl, by rw [c1]; omega, c2⟩, c1, c3, c4, c5⟩)
    · intro W0 hW0
      refine (wpIn_wide (n := 3)).1 ?_
      refine range_outer (F := Fence.wide) rfl (by omega) (gf := 21) (lb := #[.pointer (some ⟨w.heap.size + 2, 0, none⟩)]) (by simp [Act.eval]) trivial (enters_of Tryd.func21 (by kernel_rfl) rfl) ?_
      intro fn _
      refine callsIn_wide.2 ?_
      have hsz := hW0.size
      rw [hsz]
      obtain ⟨e1, e2⟩ := hW0.enter (fun W W' => HM.out [] W W') H0.out (loopRec fn #[.func (.yield l0) #[] #[], .pointer (some ⟨tb, 0, none⟩), .pointer (some ⟨w.heap.size, 0, none⟩), undef, undef, .string t, .int .i64 t.size, .bool (decide ((65536 : Int) < (t.size : Int))), .string t, .pointer (some ⟨w.heap.size + 1, 0, none⟩), .func (.func 21) #[] #[.pointer (some ⟨w.heap.size + 1 + 1, 0, none⟩)], undef, undef, undef, undef, undef, undef, undef] #[11, 12] eAssign eBody (w.heap.size + 3))
      refine (words1_any (w.heap.size + 4) (w.heap.size + 2) (w.heap.size + 1) t _ (fun pre => EJ w.heap.size l0 (loopRec fn #[.func (.yield l0) #[] #[], .pointer (some ⟨tb, 0, none⟩), .pointer (some ⟨w.heap.size, 0, none⟩), undef, undef, .string t, .int .i64 t.size, .bool (decide ((65536 : Int) < (t.size : Int))), .string t, .pointer (some ⟨w.heap.size + 1, 0, none⟩), .func (.func 21) #[] #[.pointer (some ⟨w.heap.size + 1 + 1, 0, none⟩)], undef, undef, undef, undef, undef, undef, undef] #[11, 12] eAssign eBody (w.heap.size + 3)) (J pre)) (EJ w.heap.size l0 { state := .done, pending := some .ret, fn := fn, tmps := #[.func (.yield l0) #[] #[], .pointer (some ⟨tb, 0, none⟩), .pointer (some ⟨w.heap.size, 0, none⟩), undef, undef, .string t, .int .i64 t.size, .bool (decide ((65536 : Int) < (t.size : Int))), .string t, .pointer (some ⟨w.heap.size + 1, 0, none⟩), .func (.func 21) #[] #[.pointer (some ⟨w.heap.size + 1 + 1, 0, none⟩)], undef, undef, undef, undef, undef, undef, undef], params := #[11, 12], assign := eAssign, body := eBody, defers := w.heap.size + 3 } Jx) e2 e1 (by omega) ?_ ?_ ?_).mono ?_
      · intro pre W hJ
        have := HT.out pre W hJ.j
        exact ⟨this.1, this.2, heap_cell hJ.box (by simp), by omega⟩
      · intro pre W W' hJ hm
        exact hJ.moved (fun W W' => HM.out pre W W') hm
      · intro pre x j rest W hpre hJ hcut
        have hs := hJ.size
        refine each_round l0 (w.heap.size + 4) w.heap.size (w.heap.size + 3) pre.length fn x.k x.n _ _ x.s _ _ _ _ _ _ _ _ _ _ _ _ _ _ _ _ _  W _ (fun e W' => yieldEnd (J (pre ++ [(x, j)])) Jx e W' ∧ W'.heap[w.heap.size + 4]? = some (.loop { state := .busy, pending := none, fn := fn, tmps := #[.func (.yield l0) #[] #[], .pointer (some ⟨tb, 0, none⟩), .pointer (some ⟨w.heap.size, 0, none⟩), undef, undef, .string t, .int .i64 t.size, .bool (decide ((65536 : Int) < (t.size : Int))), .string t, .pointer (some ⟨w.heap.size + 1, 0, none⟩), .func (.func 21) #[] #[.pointer (some ⟨w.heap.size + 1 + 1, 0, none⟩)], undef, undef, undef, undef, undef, undef, undef], params := #[11, 12], assign := eAssign, body := eBody, defers := w.heap.size + 3 }) ∧ W.heap.size ≤ W'.heap.size ∧ ∀ k, w.heap.size ≤ k → k < W.heap.size → k ≠ w.heap.size + 4 → W'.heap[k]? = W.heap[k]?) hJ.lp (heap_cell hJ.yb (by simp)) (by omega) ?_ ?_ ?_ ?_
        · intro W1 b1 b2 b3 b4 b5 b6
          have hJ1 : J pre W1 := HM.out _ _ _ hJ.j { os := b4, tape := b5, output := b6, size := b3, block := fun k hk => b1 k (by omega) (by omega) }
          obtain ⟨fn', tmps', as', bo', hy, hR⟩ := HY.out pre x j rest W1 hpre (by omega) hJ1 (by omega)
          refine ⟨fn', tmps', as', bo', hy, hR.mono ?_⟩
          rintro e W' ⟨h1, h2⟩
          exact ⟨h1, (h2.block _ (by omega) (by omega)).trans b2, by have := h2.size; omega, fun k k1 k2 k3 => (h2.block k k1 (by omega)).trans (b1 k k2 k3)⟩
        · rintro e W' ⟨⟨b, hb, _⟩, h2, _⟩
          exact ⟨b, hb, h2⟩
        · rintro W' ⟨⟨b, hb, ht, hf⟩, h2, h3, h4⟩
          injection hb with hb
          injection hb with hb
          subst hb
          have o : ∀ k, k ≠ w.heap.size + 4 → (W'.putObj (w.heap.size + 4) (.loop (loopRec fn #[.func (.yield l0) #[] #[], .pointer (some ⟨tb, 0, none⟩), .pointer (some ⟨w.heap.size, 0, none⟩), undef, undef, .string t, .int .i64 t.size, .bool (decide ((65536 : Int) < (t.size : Int))), .string t, .pointer (some ⟨w.heap.size + 1, 0, none⟩), .func (.func 21) #[] #[.pointer (some ⟨w.heap.size + 1 + 1, 0, none⟩)], undef, undef, undef, undef, undef, undef, undef] #[11, 12] eAssign eBody (w.heap.size + 3)))).heap[k]? = W'.heap[k]? := fun k hk => World.putObj_heap_other hk
          exact ⟨true, rfl, fun _ => ⟨⟨HM.out _ _ _ (ht rfl) (below_put (by omega)), by rw [World.putObj_size]; omega, (o _ (by omega)).trans ((h4 _ (by omega) (by omega) (by omega)).trans hJ.yb), (o _ (by omega)).trans ((h4 _ (by omega) (by omega) (by omega)).trans hJ.box), (o _ (by omega)).trans ((h4 _ (by omega) (by omega) (by omega)).trans hJ.dfr), World.putObj_heap_same (by omega)⟩, (o _ (by omega)).trans ((h4 _ (by omega) (by omega) (by omega)).trans hcut)⟩, fun h => by cases h⟩
        · rintro W' ⟨⟨b, hb, ht, hf⟩, h2, h3, h4⟩
          injection hb with hb
          injection hb with hb
          subst hb
          have o : ∀ (ob : Obj) k, k ≠ w.heap.size + 4 → (W'.putObj (w.heap.size + 4) ob).heap[k]? = W'.heap[k]? := fun ob k hk => World.putObj_heap_other hk
          exact ⟨false, rfl, (fun h => by cases h), fun _ => ⟨HX.out _ _ (hf rfl) (below_put (by omega)), by rw [World.putObj_size]; omega, (o _ _ (by omega)).trans ((h4 _ (by omega) (by omega) (by omega)).trans hJ.yb), (o _ _ (by omega)).trans ((h4 _ (by omega) (by omega) (by omega)).trans hJ.box), (o _ _ (by omega)).trans ((h4 _ (by omega) (by omega) (by omega)).trans hJ.dfr), World.putObj_heap_same (by omega)⟩⟩
      · rintro e W2 ⟨rfl, ⟨hJ, hcut⟩ | h⟩
        · refine ⟨⟨_, rfl⟩, _, hJ.lp, by simp [loopRec], .inl ⟨rfl, ?_⟩⟩
          refine q_named (fun W => J (lexAll t).1 W ∧ W.heap[w.heap.size + 3]? = some (.deferred (some []))) ⟨HM.out _ _ _ hJ.j (below_put (by omega)), (World.putObj_heap_other (by omega)).trans hJ.dfr⟩ ?_
          rintro W3 ⟨hj3, hd3⟩
          have H3 : Hid (J (lexAll t).1 W3 ∧ W3.heap[w.heap.size + 3]? = some (.deferred (some []))) := ⟨hj3, hd3⟩
          clear hj3 hd3
          go_wp2
          refine ⟨by simp, .inl ⟨_, _, rfl, run_takeDeferred H3.out.2, ?_⟩⟩
          exact ⟨_, results_none rfl _ _ _, rfl, .inl (by rw [eachList, if_neg hts]; exact HM.out _ _ _ H3.out.1 (below_put (by omega)))⟩
        · refine ⟨⟨_, rfl⟩, _, h.lp, by simp, .inr ⟨_, rfl, ?_⟩⟩
          refine wpIn_wide.2 ?_
          refine wp_named (fun W => Jx W ∧ W.heap[w.heap.size + 3]? = some (.deferred (some []))) ⟨HX.out _ _ h.j (below_put (by omega)), (World.putObj_heap_other (by omega)).trans h.dfr⟩ ?_
          rintro W3 ⟨hj3, hd3⟩
          have H3 : Hid (Jx W3 ∧ W3.heap[w.heap.size + 3]? = some (.deferred (some []))) := ⟨hj3, hd3⟩
          clear hj3 hd3
          go_wp2
          refine ⟨by simp, .inl ⟨_, _, rfl, run_takeDeferred H3.out.2, ?_⟩⟩
          exact ⟨_, results_none rfl _ _ _, rfl, .inr (HX.out _ _ H3.out.1 (below_put (by omega)))⟩
end Go.Proofs.YtkbihcicnffjdaaDoor

