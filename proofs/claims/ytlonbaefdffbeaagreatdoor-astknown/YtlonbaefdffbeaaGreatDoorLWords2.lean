import Derived.Test.YtlonbaefdffbeaaGreatDoorLWords1
namespace Go.Proofs.YtlonbaefdffbeaaGreatDoor
open Go.ChangeShapes Go.WideShapes Go.ChangeAt Go.RowKit Go.Shelf Go.Proofs.Tryz
set_option linter.unusedSimpArgs false
set_option linter.unusedVariables false
set_option maxRecDepth 100000
set_option maxHeartbeats 8000000

theorem lexF_len (t : ByteArray) : ∀ f i, i ≤ t.size → (lexF t f i).1.length + i ≤ t.size
 | 0, i, h => by simp [lexF]; omega
 | f + 1, i, h => by
  cases e : nextW t i with
  | mk j o =>
   cases o with
   | none => rw [lexF_none t f i j e]; simp; omega
   | some x =>
    have hw := nextW_word t i j x h e;have := lexF_len t f (j + x.s.size) hw.2.2;rw [lexF_some t f i j x e];simp only [List.length_cons]
    omega
theorem lexAll_len (t : ByteArray) : (lexAll t).1.length ≤ t.size := by have := lexF_len t (t.size + 1) 0 (Nat.zero_le _); exact this
def wordsCells (t : ByteArray) (l : List (WW × Nat)) : List Value := l.flatMap fun xj => wcells xj.1.k xj.1.s xj.1.n (posOf t xj.2).1 (posOf t xj.2).2
theorem wordsCells_snoc (t : ByteArray) (l : List (WW × Nat)) (x : WW) (j : Nat) : wordsCells t (l ++ [(x, j)]) = wordsCells t l ++ wcells x.k x.s x.n (posOf t j).1 (posOf t j).2 := by simp [wordsCells]
structure WJ (w : World) (t : ByteArray) (r : Loop) (pre : List (WW × Nat)) (W : World) : Prop where
 os : W.os = w.os
 tape : W.tape = w.tape
 output : W.output = w.output
 size : w.heap.size + 6 ≤ W.heap.size
 bel : ∀ k, k < w.heap.size → W.heap[k]? = w.heap[k]?
 res : W.heap[w.heap.size]? = some (.cells #[.int .i64 0, .int .i64 0] 25 (0, 0))
 box : W.heap[w.heap.size + 3]? = some (.cells #[.pointer (some ⟨w.heap.size + 1, 0, none⟩)] 88 (0, 0))
 dfr : W.heap[w.heap.size + 4]? = some (.deferred (some []))
 lp : W.heap[w.heap.size + 5]? = some (.loop r)
 sl : ∃ v, Boxed W (w.heap.size + 2) 54 v ∧ W.ownsRow (w.heap.size + 6) 93 5 v pre.length (wordsCells t pre)
theorem WJ.below {w W : World} {t : ByteArray} {r : Loop} {pre : List (WW × Nat)} (h : WJ w t r pre W) : Below w.heap.size w W :=
 { os := h.os, tape := h.tape, output := h.output, size := by have := h.size; omega, block := h.bel }
theorem WJ.moved {w W W' : World} {t : ByteArray} {r : Loop} {pre : List (WW × Nat)} (h : WJ w t r pre W) (hm : Moved (w.heap.size + 1) W W') : WJ w t r pre W' := by
 have hs := h.size;obtain ⟨v, h1, h2⟩ := h.sl
 exact ⟨hm.os.trans h.os, hm.tape.trans h.tape, hm.output.trans h.output, by have := hm.size; omega, fun k hk => (hm.block k (by omega) (by omega)).trans (h.bel k hk), (hm.block _ (by omega) (by omega)).trans h.res, (hm.block _ (by omega) (by omega)).trans h.box,
  (hm.block _ (by omega) (by omega)).trans h.dfr, (hm.block _ (by omega) (by omega)).trans h.lp, v, (hm.block _ (by omega) (by omega)).trans h1, ownsRow_same h2 (fun k h3 h4 => hm.block k h4 (by omega))⟩
theorem WJ.grew {w W W' : World} {t : ByteArray} {r : Loop} {pre : List (WW × Nat)} {x : WW} {j : Nat} {v : Value} (h : WJ w t r pre W) (hg : Grew (w.heap.size + 6) (w.heap.size + 2) W W') (hv : Boxed W' (w.heap.size + 2) 54 v)
  (ho : W'.ownsRow (w.heap.size + 6) 93 5 v (pre.length + 1) (wordsCells t pre ++ wcells x.k x.s x.n (posOf t j).1 (posOf t j).2)) : WJ w t r (pre ++ [(x, j)]) W' := by
 have hs := h.size
 exact ⟨hg.os.trans h.os, hg.tape.trans h.tape, hg.output.trans h.output, by have := hg.size; omega, fun k hk => (hg.block k (by omega) (by omega)).trans (h.bel k hk), (hg.block _ (by omega) (by omega)).trans h.res, (hg.block _ (by omega) (by omega)).trans h.box,
  (hg.block _ (by omega) (by omega)).trans h.dfr, (hg.block _ (by omega) (by omega)).trans h.lp, v, hv, by rw [wordsCells_snoc]; simpa using ho⟩
def wordsPost (t : ByteArray) (w : World) : Ending → World → Prop := fun e W => Below w.heap.size w W ∧
 if 65536 < t.size then e = .returned (.tuple #[.slice none 0 0, .agg #[.int .i64 0, .int .i64 0], .int .i64 2])
 else if (lexAll t).2 < t.size then e = .returned (.tuple #[.slice none 0 0, .agg #[.int .i64 (posOf t (lexAll t).2).1, .int .i64 (posOf t (lexAll t).2).2], .int .i64 3])
 else ∃ v, e = .returned (.tuple #[v, .agg #[.int .i64 0, .int .i64 0], .int .i64 0]) ∧ W.ownsRow w.heap.size 93 5 v (lexAll t).1.length (wordsCells t (lexAll t).1)
theorem chain4 (w : World) (o0 o1 o2 o3 : Obj) : ((((w.alloc o0).alloc o1).alloc o2).alloc o3).heap.size = w.heap.size + 4 ∧ (∀ k, k < w.heap.size → ((((w.alloc o0).alloc o1).alloc o2).alloc o3).heap[k]? = w.heap[k]?) ∧
  ((((w.alloc o0).alloc o1).alloc o2).alloc o3).heap[w.heap.size]? = some o0 ∧ ((((w.alloc o0).alloc o1).alloc o2).alloc o3).heap[w.heap.size + 1]? = some o1 ∧ ((((w.alloc o0).alloc o1).alloc o2).alloc o3).heap[w.heap.size + 2]? = some o2 ∧ ((((w.alloc o0).alloc o1).alloc o2).alloc o3).heap[w.heap.size + 3]? = some o3 := by
 refine ⟨by simp, fun k hk => ?_, ?_, ?_, ?_, ?_⟩
 ·rw [Below.heap_alloc _ _ k (by simp; omega), Below.heap_alloc _ _ k (by simp; omega), Below.heap_alloc _ _ k (by simp; omega), Below.heap_alloc _ _ k hk]
 ·rw [Below.heap_alloc _ _ _ (by rw [World.size_alloc, World.size_alloc, World.size_alloc]; omega), Below.heap_alloc _ _ _ (by rw [World.size_alloc, World.size_alloc]; omega), Below.heap_alloc _ _ _ (by simp)]
  exact World.alloc_heap_new w o0
 ·rw [Below.heap_alloc _ _ _ (by rw [World.size_alloc, World.size_alloc, World.size_alloc]; omega), Below.heap_alloc _ _ _ (by simp)]
  have := World.alloc_heap_new (w.alloc o0) o1;simpa using this
 ·rw [Below.heap_alloc _ _ _ (by simp)]
  have := World.alloc_heap_new ((w.alloc o0).alloc o1) o2;simpa using this
 ·have := World.alloc_heap_new (((w.alloc o0).alloc o1).alloc o2) o3
  simpa using this
theorem chain2 (w : World) (r : Loop) : (loopW w r).heap.size = w.heap.size + 2 ∧ (∀ k, k < w.heap.size → (loopW w r).heap[k]? = w.heap[k]?) ∧ (loopW w r).heap[w.heap.size]? = some (.deferred (some [])) ∧ (loopW w r).heap[w.heap.size + 1]? = some (.loop r) := by
 refine ⟨by simp [loopW], fun k hk => ?_, ?_, ?_⟩
 ·rw [loopW, Below.heap_alloc _ _ k (by simp; omega), Below.heap_alloc _ _ k hk]
 ·rw [loopW, Below.heap_alloc _ _ _ (by simp)]
  exact World.alloc_heap_new w _
 ·have := World.alloc_heap_new (w.alloc (.deferred (some []))) (.loop r)
  rw [World.size_alloc] at this;exact this
theorem wp_named {P : Program} {c : Code} {Q : Exit → Act → World → Prop} {a : Act} {w0 : World} (Fct : World → Prop) (h : Fct w0) (k : ∀ W, Fct W → Code.wp P c Q a W) : Code.wp P c Q a w0 := k w0 h
theorem q_named {Q : Exit → Act → World → Prop} {a : Act} {w0 : World} (Fct : World → Prop) (h : Fct w0) (k : ∀ W, Fct W → Q .normal a W) : Q .normal a w0 := k w0 h
theorem ownsRow_base {w : World} {base b : Nat} {e : TypeId} {size : Nat} {v : Value} {n : Nat} {xs : List Value} (h : w.ownsRow base e size v n xs) (hb : b ≤ base) : w.ownsRow b e size v n xs := by
 refine ⟨h.1, ?_⟩
 rcases h.2 with h | ⟨g, cap, cur, h1, h2, h3, h4⟩
 ·exact .inl h
 ·exact .inr ⟨g, cap, cur, h1, by omega, h3, h4⟩
structure W0Is (w : World) (t : ByteArray) (W : World) : Prop where
 os : W.os = w.os
 tape : W.tape = w.tape
 output : W.output = w.output
 size : W.heap.size = w.heap.size + 4
 bel : ∀ k, k < w.heap.size → W.heap[k]? = w.heap[k]?
 res : W.heap[w.heap.size]? = some (.cells #[.int .i64 0, .int .i64 0] 25 (0, 0))
 cut : CutIs W (w.heap.size + 1) t 0
 sl : Boxed W (w.heap.size + 2) 54 (.slice none 0 0)
 box : W.heap[w.heap.size + 3]? = some (.cells #[.pointer (some ⟨w.heap.size + 1, 0, none⟩)] 88 (0, 0))
theorem W0Is.enter {w W : World} {t : ByteArray} (h : W0Is w t W) (r : Loop) : WJ w t r [] (loopW W r) ∧ CutIs (loopW W r) (w.heap.size + 1) t 0 := by
 obtain ⟨h1, h2, h3, h4⟩ := chain2 W r;have hs := h.size;rw [hs] at h1 h2 h3 h4;refine ⟨⟨h.os, h.tape, h.output, by omega, fun k hk => (h2 k (by omega)).trans (h.bel k hk), (h2 _ (by omega)).trans h.res, (h2 _ (by omega)).trans h.box, h3, h4, _, (h2 _ (by omega)).trans h.sl, World.ownsRow_nil _ _ _ _⟩, (h2 _ (by omega)).trans h.cut⟩
structure W3Is (w : World) (t : ByteArray) (W : World) : Prop where
 os : W.os = w.os
 tape : W.tape = w.tape
 output : W.output = w.output
 size : w.heap.size + 6 ≤ W.heap.size
 bel : ∀ k, k < w.heap.size → W.heap[k]? = w.heap[k]?
 res : W.heap[w.heap.size]? = some (.cells #[.int .i64 0, .int .i64 0] 25 (0, 0))
 cut : CutIs W (w.heap.size + 1) t (lexAll t).2
 dfr : W.heap[w.heap.size + 4]? = some (.deferred (some []))
 sl : ∃ v, Boxed W (w.heap.size + 2) 54 v ∧ W.ownsRow (w.heap.size + 6) 93 5 v (lexAll t).1.length (wordsCells t (lexAll t).1)
theorem WJ.leave {w W : World} {t : ByteArray} {r r' : Loop} (h : WJ w t r (lexAll t).1 W) (hc : CutIs W (w.heap.size + 1) t (lexAll t).2) : W3Is w t (W.putObj (w.heap.size + 5) (.loop r')) := by
 have hs := h.size;obtain ⟨v, h1, h2⟩ := h.sl;have o : ∀ k, k ≠ w.heap.size + 5 → (W.putObj (w.heap.size + 5) (.loop r')).heap[k]? = W.heap[k]? := fun k hk => World.putObj_heap_other hk;exact ⟨h.os, h.tape, h.output, by rw [World.putObj_size]; exact hs, fun k hk => (o k (by omega)).trans (h.bel k hk), (o _ (by omega)).trans h.res, (o _ (by omega)).trans hc, (o _ (by omega)).trans h.dfr, v, (o _ (by omega)).trans h1, ownsRow_same h2 (fun k h3 h4 => o k (by omega))⟩
theorem W3Is.out {w W W' : World} {t : ByteArray} (h : W3Is w t W) (hb : ∀ k, k < w.heap.size → W'.heap[k]? = W.heap[k]?) (hs : W'.heap.size = W.heap.size) (h1 : W'.os = W.os) (h2 : W'.tape = W.tape) (h3 : W'.output = W.output) : Below w.heap.size w W' :=
 { os := h1.trans h.os, tape := h2.trans h.tape, output := h3.trans h.output, size := by have := h.size; omega, block := fun k hk => (hb k hk).trans (h.bel k hk) }
theorem words_dfr {w W : World} {t : ByteArray} (h : W3Is w t W) (a b : Value) : ((W.setCell ⟨w.heap.size, 0, none⟩ a).setCell ⟨w.heap.size, 1, none⟩ b).drew.heap[w.heap.size + 4]? = some (.deferred (some [])) :=
 (heap_set_other (by omega)).trans ((heap_set_other (by omega)).trans h.dfr)
theorem words_out {w W W4 : World} {t : ByteArray} (h : W3Is w t W) (a b : Value) (hh : W4.heap = ((W.setCell ⟨w.heap.size, 0, none⟩ a).setCell ⟨w.heap.size, 1, none⟩ b).heap) (e1 : W4.os = W.os) (e2 : W4.tape = W.tape) (e3 : W4.output = W.output) :
  (W4.putObj (w.heap.size + 4) (.deferred none)).heap[w.heap.size]? = some (.cells #[a, b] 25 (0, 0)) ∧
  Below w.heap.size w (W4.putObj (w.heap.size + 4) (.deferred none)) ∧
  ∀ k, w.heap.size + 4 < k → (W4.putObj (w.heap.size + 4) (.deferred none)).heap[k]? = W.heap[k]? := by
 have o : ∀ k, k ≠ w.heap.size → k ≠ w.heap.size + 4 → (W4.putObj (w.heap.size + 4) (.deferred none)).heap[k]? = W.heap[k]? := fun k h1 h2 =>
  (World.putObj_heap_other h2).trans (by rw [hh]; exact (heap_set_other h1).trans (heap_set_other h1))
 refine ⟨?_, h.out (fun k hk => o k (by omega) (by omega)) ?_ e1 e2 e3, fun k hk => o k (by omega) (by omega)⟩
 ·refine (World.putObj_heap_other (by omega)).trans ?_
  rw [hh];refine Eq.trans (heap_set_same (o := 1) (heap_set_same (o := 0) h.res _) _) ?_;simp
 ·rw [World.putObj_size, hh]
  rw [size_set, size_set]
theorem words_any (t : ByteArray) (w : World) (hl : LexTab w) (he : ErrTab w) : Calls prog 19 #[.string t] w (wordsPost t w) := by
 have HL : Hid (LexTab w ∧ ErrTab w) := ⟨hl, he⟩;clear hl he;refine callsIn_wide.1 (callsIn_of_wp_marks (n := 3) func19 rfl trivial ?_);simp only [ntmps19, List.size_toArray, List.length_cons, List.length_nil, Nat.reduceAdd, Nat.reduceSub, Array.replicate_succ, Array.replicate_zero, List.push_toArray, List.append_toArray, List.nil_append, List.cons_append];refine wpIn_wide.2 ?_
 by_cases hts : 65536 < t.size
 ·have h1 : (65536 : Int) < (t.size : Int) := by omega
  go_wp2;refine ⟨_, (by simp [results, results19, go_sem]; rfl), ?_⟩;refine ⟨(Below.refl _ _).alloc (Nat.le_refl _) _, ?_⟩;rw [if_pos hts]
 ·have h1 : (t.size : Int) ≤ 65536 := by omega
  go_wp2_with (first | (go_at_call 34; refine (begin_any t _).mono ?_; rintro e w2 ⟨rfl, rfl⟩) | (go_at_call 35; refine (lwords_any _ _).mono ?_; rintro e w3 ⟨rfl, rfl⟩))
  refine wp_named (W0Is w t) ?_ ?_
  ·obtain ⟨c1, c2, c3, c4, c5, c6⟩ := chain4 w (.cells #[.int .i64 0, .int .i64 0] 25) (.cells (cutCells t 0) 95) (.cells #[.slice none 0 0] 54) (.cells #[.pointer (some ⟨w.heap.size + 1, 0, none⟩)] 88)
   first | exact ⟨rfl, rfl, rfl, c1, c2, c3, c4, c5, c6⟩ | (simp only [World.size_alloc]; exact ⟨rfl, rfl, rfl, c1, c2, c3, c4, c5, c6⟩)
  ·intro W0 hW0
   refine (wpIn_wide (n := 3)).1 ?_;refine range_outer (F := Fence.wide) rfl (by omega) (gf := 52) (lb := #[.pointer (some ⟨w.heap.size + 3, 0, none⟩)]) (by simp [Act.eval]) trivial (enters_of func52 (by kernel_rfl) rfl) ?_;intro fn _;refine callsIn_wide.2 ?_;have hsz := hW0.size;rw [hsz];obtain ⟨e1, e2⟩ := hW0.enter (loopRec fn _ _ _ _ (w.heap.size + 4));refine (words1_any (w.heap.size + 5) (w.heap.size + 3) (w.heap.size + 1) t _ (WJ w t (loopRec fn _ _ _ _ (w.heap.size + 4))) (fun _ => False) e2 e1 (by omega) ?_ ?_ ?_).mono ?_
   ·intro pre W hJ
    exact ⟨HL.out.1.keep hJ.below, HL.out.2.keep hJ.below, heap_cell hJ.box (by simp), by omega⟩
   ·intro pre W W' hJ hm
    exact hJ.moved hm
   ·intro pre x j rest W hpre hJ hcut
    obtain ⟨v, hv, ho⟩ := hJ.sl;have hlen := lexAll_len t;rw [hpre] at hlen;have hsW := hJ.size;refine words_round (w.heap.size + 5) (w.heap.size + 2) (w.heap.size + 6) (w.heap.size + 4) pre.length pre.length fn x.k x.n _ _ x.s v _ _ _ _ _ _ _ _ _ _ _ _ _ _ _ _ _ _ _ _ _ _ _ _ _ _ _ _ _ _ _  W _ hJ.lp hv ho (by omega) (by omega) hsW (by omega) (by simp at hlen; omega) ?_;intro g cap W' hv' ho' hg;exact ⟨true, rfl, fun _ => ⟨hJ.grew hg hv' ho', (hg.block _ (by omega) (by omega)).trans hcut⟩, fun h => by cases h⟩
   ·rintro e W2 ⟨rfl, ⟨hJ, hcut⟩ | h⟩
    ·refine ⟨⟨_, rfl⟩, _, hJ.lp, by simp [loopRec], .inl ⟨rfl, ?_⟩⟩
     refine q_named (W3Is w t) (hJ.leave hcut) ?_;clear hJ hcut e1 e2 hW0 hsz;intro W3 hW3;obtain ⟨v, hv, ho⟩ := hW3.sl;have HO : Hid (W3.ownsRow (w.heap.size + 6) 93 5 v (lexAll t).1.length (wordsCells t (lexAll t).1)) := ho;have HW : Hid (W3Is w t W3) := hW3;obtain ⟨j, hj⟩ : ∃ j, (lexAll t).2 = j := ⟨_, rfl⟩;have HJE : Hid ((lexAll t).2 = j) := hj;have c0 := hW3.cut.c0;have c1 := hW3.cut.c1;have c2 := hW3.cut.c2;have c3 := hW3.cut.c3;rw [hj] at c1 c2 c3;have r0 : W3.cell? ⟨w.heap.size, 0, none⟩ = some (.int .i64 0) := heap_cell hW3.res (by simp);have r1 : W3.cell? ⟨w.heap.size, 1, none⟩ = some (.int .i64 0) := heap_cell hW3.res (by simp);have f0 : W3.frozen? ⟨w.heap.size, 0, none⟩ = false := heap_frozen hW3.res;have f1 : W3.frozen? ⟨w.heap.size, 1, none⟩ = false := heap_frozen hW3.res;have cv := hv.cell;clear hv ho hW3 hj
     by_cases hm : j < t.size
     ·have qm : decide (j < t.size) = true := decide_eq_true hm
      go_wp2_with (first | (go_at_call 36; refine (more_any (w.heap.size + 1) j t _ c0 c1).mono ?_; rintro e w4 ⟨rfl, rfl⟩; simp only [qm]) | go_region)
      refine ⟨by simp, .inl ⟨_, _, rfl, run_takeDeferred (words_dfr HW.out _ _), ?_⟩⟩;have o5 := words_out (W4 := ((W3.setCell ⟨w.heap.size, 0, none⟩ (.int .i64 (posOf t j).1)).setCell ⟨w.heap.size, 1, none⟩ (.int .i64 (posOf t j).2)).drew.drew) HW.out (.int .i64 (posOf t j).1) (.int .i64 (posOf t j).2) rfl rfl rfl rfl;have q0 := heap_cell (o := 0) o5.1 (by simp; rfl);have q1 := heap_cell (o := 1) o5.1 (by simp; rfl);refine ⟨_, (by simp [results, results19, go_sem, q0, q1]; rfl), ?_⟩;refine ⟨o5.2.1, ?_⟩;rw [if_neg hts, HJE.out, if_pos hm]
     ·have qm : decide (j < t.size) = false := decide_eq_false hm
      go_wp2_with (first | (go_at_call 36; refine (more_any (w.heap.size + 1) j t _ c0 c1).mono ?_; rintro e w4 ⟨rfl, rfl⟩; simp only [qm]))
      refine ⟨by simp, .inl ⟨_, _, rfl, run_takeDeferred (words_dfr HW.out _ _), ?_⟩⟩;have o5 := words_out (W4 := ((W3.setCell ⟨w.heap.size, 0, none⟩ (.int .i64 0)).setCell ⟨w.heap.size, 1, none⟩ (.int .i64 0)).drew) HW.out (.int .i64 0) (.int .i64 0) rfl rfl rfl rfl;have q0 := heap_cell (o := 0) o5.1 (by simp; rfl);have q1 := heap_cell (o := 1) o5.1 (by simp; rfl);refine ⟨_, (by simp [results, results19, go_sem, q0, q1]; rfl), ?_⟩;refine ⟨o5.2.1, ?_⟩;rw [if_neg hts, HJE.out, if_neg hm];exact ⟨v, rfl, ownsRow_base (ownsRow_same HO.out (fun k h3 h4 => o5.2.2 k (by omega))) (by omega)⟩
    ·exact h.elim
end Go.Proofs.YtlonbaefdffbeaaGreatDoor

