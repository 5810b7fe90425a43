/- Words' answer, word by word; awake. -/
import Derived.Test.YtkbihcicnffjdaaDoorLAwake1
namespace Go.Proofs.YtkbihcicnffjdaaDoor
open Go.ChangeShapes Go.WideShapes Go.ChangeAt Go.RowKit Go.Shelf
set_option linter.unusedSimpArgs false
set_option linter.unusedVariables false

theorem run_func_nil {P : Program} (w : World) (t : TypeId) (d : Nat) {ps rs : Array TypeId} {va : Bool} (f : Fn) (xs ys : Array Value) (h : P.underlying t = some (.func ps rs va)) : (Op.equalIn (d + 1) t (.func f xs ys) .nilFunc).run P w = .ok false w := by
  simp [Op.equalIn, run_underlying h]
theorem run_bin_func_nil {P : Program} (w : World) (t : TypeId) {ps rs : Array TypeId} {va : Bool} (f : Fn) (xs ys : Array Value) (h : P.underlying t = some (.func ps rs va)) : (binOp .eql t (.func f xs ys) .nilFunc).run P w = .ok (.bool false) w := by
  have h1 : (Op.equal t (.func f xs ys) .nilFunc).run P w = .ok false w := run_func_nil w t 9999 f xs ys h
  simp only [binOp]
  simp [h1]
/-- A word's cells in a row. -/
structure WordCells (W : World) (g i : Nat) (x : WW) (p : Nat × Nat) : Prop where
  c0 : W.cell? ⟨g, i * 5, none⟩ = some (.int .i64 x.k)
  c1 : W.cell? ⟨g, i * 5 + 1, none⟩ = some (.string x.s)
  c2 : W.cell? ⟨g, i * 5 + 2, none⟩ = some (.int .i64 x.n)
  c3 : W.cell? ⟨g, i * 5 + 3, none⟩ = some (.int .i64 p.1)
  c4 : W.cell? ⟨g, i * 5 + 4, none⟩ = some (.int .i64 p.2)
theorem wordsCells_get (t : ByteArray) : ∀ (l : List (WW × Nat)) (i o : Nat) (x : WW) (j : Nat), l[i]? = some (x, j) → o < 5 → (wordsCells t l)[i * 5 + o]? = (wcells x.k x.s x.n (posOf t j).1 (posOf t j).2)[o]?
  | [], i, o, x, j, h, ho => by simp at h
  | a :: l, 0, o, x, j, h, ho => by
    simp at h
    subst h
    have hl : o < (wcells x.k x.s x.n (posOf t j).1 (posOf t j).2).length := ho
    simp only [wordsCells, List.flatMap_cons, Nat.zero_mul, Nat.zero_add]
    rw [List.getElem?_append_left hl]
  | a :: l, i + 1, o, x, j, h, ho => by
    have h' : l[i]? = some (x, j) := by simpa using h
    have := wordsCells_get t l i o x j h' ho
    rw [← this]
    simp only [wordsCells, List.flatMap_cons]
    rw [List.getElem?_append_right (by simp [wcells]; omega)]
    congr 1
    simp [wcells]
    omega
theorem words_row {W : World} {base : Nat} {v : Value} {t : ByteArray} {l : List (WW × Nat)} (h : W.ownsRow base 30 5 v l.length (wordsCells t l)) (hne : l ≠ []) :
    ∃ g cap, v = .slice (some ⟨g, 0, none⟩) l.length cap ∧ base ≤ g ∧ g < W.heap.size ∧ l.length ≤ cap ∧ ∀ i x j, l[i]? = some (x, j) → WordCells W g i x (posOf t j) := by
  rcases h.2 with ⟨_, h2⟩ | ⟨g, cap, cur, h1, h2, h3, h4, h5, h6, h7⟩
  · exact absurd (List.length_eq_zero_iff.1 h2) hne
  · refine ⟨g, cap, h1, h2, (Array.getElem?_eq_some_iff.1 h3).1, h4, fun i x j hx => ?_⟩
    have hi : i < l.length := (List.getElem?_eq_some_iff.1 hx).1
    have hc : ∀ o, o < 5 → cur[i * 5 + o]? = (wcells x.k x.s x.n (posOf t j).1 (posOf t j).2)[o]? := fun o ho => by
      rw [← wordsCells_get t l i o x j hx ho, ← h7, List.getElem?_take, if_pos (by omega)]
      simp
    exact ⟨heap_cell h3 (by simpa [wcells] using hc 0 (by omega)), heap_cell h3 (by simpa [wcells] using hc 1 (by omega)), heap_cell h3 (by simpa [wcells] using hc 2 (by omega)), heap_cell h3 (by simpa [wcells] using hc 3 (by omega)), heap_cell h3 (by simpa [wcells] using hc 4 (by omega))⟩
/-- Words of a text that is known. -/
theorem words_list (t : ByteArray) (l : List (WW × Nat)) (w : World) (hl : LexTab w) (he : ErrTab w) (hx : lexAll t = (l, t.size)) (hs : t.size ≤ 65536) (hne : l ≠ []) :
    Calls Tryd.prog 9 #[.string t] w fun e W => ∃ g cap, e = .returned (.tuple #[.slice (some ⟨g, 0, none⟩) l.length cap, .agg #[.int .i64 0, .int .i64 0], .int .i64 0]) ∧ Below w.heap.size w W ∧ w.heap.size ≤ g ∧ g < W.heap.size ∧ l.length ≤ cap ∧
      ∀ i x j, l[i]? = some (x, j) → WordCells W g i x (posOf t j) := by
  refine (words_any t w hl he).mono ?_
  rintro e W ⟨hb, h⟩
  rw [if_neg (by omega), hx, if_neg (by simp)] at h
  obtain ⟨v, rfl, ho⟩ := h
  obtain ⟨g, cap, rfl, h1, h2, h3, h4⟩ := words_row ho hne
  exact ⟨g, cap, rfl, hb, h1, h2, h3, h4⟩
theorem words_bad (t : ByteArray) (i : Nat) (p : Nat × Nat) (w : World) (hl : LexTab w) (he : ErrTab w) (hx : (lexAll t).2 = i) (hi : i < t.size) (hs : t.size ≤ 65536) (hp : posOf t i = p) :
    Calls Tryd.prog 9 #[.string t] w fun e W => e = .returned (.tuple #[.slice none 0 0, .agg #[.int .i64 p.1, .int .i64 p.2], .int .i64 3]) ∧ Below w.heap.size w W := by
  refine (words_any t w hl he).mono ?_
  rintro e W ⟨hb, h⟩
  rw [if_neg (by omega), hx, if_pos hi, hp] at h
  exact ⟨h, hb⟩
/-- The words that awake looks at. -/
structure AwCells (W : World) (g : Nat) : Prop where
  a0 : W.cell? ⟨g, 0, none⟩ = some (.int .i64 1)
  a1 : W.cell? ⟨g, 1, none⟩ = some (.string ⟨#[97, 49]⟩)
  a2 : W.cell? ⟨g, 2, none⟩ = some (.int .i64 0)
  a3 : W.cell? ⟨g, 3, none⟩ = some (.int .i64 1)
  a4 : W.cell? ⟨g, 4, none⟩ = some (.int .i64 1)
  b1 : W.cell? ⟨g, 6, none⟩ = some (.string ⟨#[62, 62]⟩)
  c0 : W.cell? ⟨g, 15, none⟩ = some (.int .i64 2)
  c1 : W.cell? ⟨g, 16, none⟩ = some (.string ⟨#[48, 120, 49, 70]⟩)
  c2 : W.cell? ⟨g, 17, none⟩ = some (.int .i64 31)
  c3 : W.cell? ⟨g, 18, none⟩ = some (.int .i64 1)
  c4 : W.cell? ⟨g, 19, none⟩ = some (.int .i64 8)
theorem AwCells.keep {W W' : World} {g : Nat} (h : AwCells W g) (hb : W'.heap[g]? = W.heap[g]?) : AwCells W' g := by
  have k : ∀ o, W'.cell? ⟨g, o, none⟩ = W.cell? ⟨g, o, none⟩ := fun o => World.cell?_of_block (a := ⟨g, o, none⟩) hb
  exact ⟨(k _).trans h.a0, (k _).trans h.a1, (k _).trans h.a2, (k _).trans h.a3, (k _).trans h.a4, (k _).trans h.b1, (k _).trans h.c0, (k _).trans h.c1, (k _).trans h.c2, (k _).trans h.c3, (k _).trans h.c4⟩
/-- Where the loop of awake is. -/
def AJ (w : World) (nb : Nat) (pre : List (WW × Nat)) (W : World) : Prop := Boxed W nb 3 (.int .i64 (pre.length : Int)) ∧ Grew w.heap.size nb w W
/-- The world in which the loop of awake is entered. -/
structure A0Is (w2 W : World) : Prop where
  os : W.os = w2.os
  tape : W.tape = w2.tape
  output : W.output = w2.output
  size : W.heap.size = w2.heap.size + 3
  bel : ∀ k, k < w2.heap.size → W.heap[k]? = w2.heap[k]?
  nb : Boxed W (w2.heap.size + 1) 3 (.int .i64 0)
  tb : W.heap[w2.heap.size + 2]? = some (.cells #[.string ⟨#[97, 32, 98]⟩] 9 (0, 0))
structure A3Is (w : World) (g H D : Nat) (nb : Nat) (W : World) : Prop where
  bel : Below w.heap.size w W
  nb : Boxed W nb 3 (.int .i64 2)
  aw : AwCells W g
  res : W.heap[H]? = some (.cells #[.bool false] 4 (0, 0))
  dfr : W.heap[D]? = some (.deferred (some []))
set_option maxRecDepth 100000 in
set_option maxHeartbeats 8000000 in
theorem awake_any (w : World) (hl : LexTab w) (he : ErrTab w) : Calls Tryd.prog 8 #[] w (retP (.bool true) w) := by
  have HL : Hid (LexTab w ∧ ErrTab w) := ⟨hl, he⟩
  clear hl he
  refine callsIn_wide.1 (callsIn_of_wp_marks (n := 3) Tryd.func8 rfl trivial ?_)
  simp only [Tryd.ntmps8, List.size_toArray, List.length_cons, List.length_nil, Nat.reduceAdd, Nat.reduceSub, Array.replicate_succ, Array.replicate_zero, List.push_toArray, List.append_toArray, List.nil_append, List.cons_append]
  refine wpIn_wide.2 ?_
  have hb1 : Below w.heap.size w (w.alloc (.cells #[.bool false] 4)) := (Below.refl _ _).alloc (Nat.le_refl _) _
  go_wp2_with fail
  refine (words_list _ _ _ (HL.out.1.keep hb1) (HL.out.2.keep hb1) lex_a (by decide) (by simp)).mono ?_
  rintro e w2 ⟨g, cap, rfl, hB2, hg1, hg2, hcap, hc⟩
  have HA : Hid (AwCells w2 g) := by
    have x0 := hc 0 _ _ rfl
    have x1 := hc 1 _ _ rfl
    have x3 := hc 3 _ _ rfl
    exact ⟨x0.c0, x0.c1, x0.c2, x0.c3, x0.c4, x1.c1, x3.c0, x3.c1, x3.c2, x3.c3, x3.c4⟩
  have HB : Hid (Below w.heap.size w w2 ∧ w2.heap[w.heap.size]? = some (.cells #[.bool false] 4 (0, 0)) ∧ w.heap.size < w2.heap.size ∧ g < w2.heap.size ∧ w.heap.size < g) := by
    have hs := hB2.size
    rw [World.size_alloc] at hs hg1
    exact ⟨hb1.trans (hB2.mono (by simp)), (hB2.block _ (by simp)).trans (World.alloc_heap_new w _), by omega, hg2, by omega⟩
  have l4 : (4 : Nat) ≤ cap := hcap
  clear hc hB2 hg1 hg2 hcap hb1
  have nf : ∀ (xs : Array Value) (W : World), (binOp .eql 36 (.func (.func 20) #[] xs) .nilFunc).run Tryd.prog W = .ok (.bool false) W := fun xs W => run_bin_func_nil W 36 _ _ xs Tryd.underlying36
  go_wp2_with (go_at_call 11; refine (each_any _ _).mono ?_; rintro e w3 ⟨rfl, rfl⟩)
  refine wp_named (A0Is w2) ?_ ?_
  · obtain ⟨c1, c2, c3, c4, c5⟩ := chain3 w2 (.cells #[.int .i64 0, .int .i64 0] 25) (.cells #[.int .i64 0] 3) (.cells #[.string ⟨#[97, 32, 98]⟩] 9)
    exact ⟨rfl, rfl, rfl, c1, c2, c4, c5⟩
  · intro W0 hW0
    have hsz := hW0.size
    refine (wpIn_wide (n := 3)).1 ?_
    refine range_outer (F := Fence.wide) rfl (by omega) (gf := 20) (lb := #[.pointer (some ⟨w2.heap.size + 2, 0, none⟩)]) (by simp [Act.eval]) trivial (enters_of Tryd.func20 (by kernel_rfl) rfl) ?_
    intro fn _
    refine callsIn_wide.2 ?_
    rw [hsz]
    obtain ⟨r, hr⟩ : ∃ r, loopRec fn #[.pointer (some ⟨w.heap.size, 0, none⟩), .slice (some ⟨g, 0, none⟩) 4 cap, .pointer (some ⟨w2.heap.size, 0, none⟩), .int .i64 0, .pointer (some ⟨w2.heap.size + 1, 0, none⟩), .func (.func 20) #[] #[.pointer (some ⟨w2.heap.size + 1 + 1, 0, none⟩)], undef, undef, .tuple #[.slice (some ⟨g, 0, none⟩) 4 cap, .agg #[.int .i64 0, .int .i64 0], .int .i64 0], .tuple #[.slice (some ⟨g, 0, none⟩) 4 cap, .agg #[.int .i64 0, .int .i64 0], .int .i64 0], .slice (some ⟨g, 0, none⟩) 4 cap, .agg #[.int .i64 0, .int .i64 0], .int .i64 0, .int .i64 0, .bool false, .bool false, .slice (some ⟨g, 0, none⟩) 4 cap, .int .i64 4, .bool false, .bool false, .func (.func 20) #[] #[.pointer (some ⟨w2.heap.size + 1 + 1, 0, none⟩)], .func (.func 20) #[] #[.pointer (some ⟨w2.heap.size + 1 + 1, 0, none⟩)], .bool false, .func (.func 20) #[] #[.pointer (some ⟨w2.heap.size + 1 + 1, 0, none⟩)], undef, undef, undef, undef, undef, undef, undef, undef, undef, undef, undef, undef, undef, undef, undef, undef, undef, undef, undef, undef, undef, undef, undef, undef, undef, undef, undef, undef, undef, undef, undef, undef, undef, undef, undef, undef, undef] #[24, 25] aAssign aBody (w2.heap.size + 3) = r := ⟨_, rfl⟩
    obtain ⟨W1, hW1⟩ : ∃ W1, loopW W0 r = W1 := ⟨_, rfl⟩
    have HE : Hid (W1.heap.size = w2.heap.size + 5 ∧ (∀ k, k < w2.heap.size → W1.heap[k]? = w2.heap[k]?) ∧ Boxed W1 (w2.heap.size + 1) 3 (.int .i64 0) ∧ W1.heap[w2.heap.size + 2]? = some (.cells #[.string ⟨#[97, 32, 98]⟩] 9 (0, 0)) ∧ W1.heap[w2.heap.size + 3]? = some (.deferred (some [])) ∧ W1.heap[w2.heap.size + 4]? = some (.loop r) ∧ W1.os = w2.os ∧ W1.tape = w2.tape ∧ W1.output = w2.output) := by
      obtain ⟨h1, h2, h3, h4⟩ := chain2 W0 r
      rw [hW1, hsz] at h1 h2 h3 h4
      exact ⟨h1, fun k hk => (h2 k (by omega)).trans (hW0.bel k hk), (h2 _ (by omega)).trans hW0.nb, (h2 _ (by omega)).trans hW0.tb, h3, h4, by rw [← hW1]; exact hW0.os, by rw [← hW1]; exact hW0.tape, by rw [← hW1]; exact hW0.output⟩
    have hB1 : Below w.heap.size w W1 := by
      obtain ⟨hs1, hbl1, _, _, _, _, o1, o2, o3⟩ := HE.out
      obtain ⟨hbw, _, hlt, _⟩ := HB.out
      exact { os := o1.trans hbw.os, tape := o2.trans hbw.tape, output := o3.trans hbw.output, size := by have := hbw.size; omega, block := fun k hk => (hbl1 k (by omega)).trans (hbw.block k hk) }
    have HG : ∀ W, Grew W1.heap.size (w2.heap.size + 1) W1 W → Below w.heap.size w W := fun W hg => by
      obtain ⟨hs1, _⟩ := HE.out
      obtain ⟨hbw, _, hlt, _⟩ := HB.out
      exact { os := hg.os.trans hB1.os, tape := hg.tape.trans hB1.tape, output := hg.output.trans hB1.output, size := by have := hg.size; have := hbw.size; omega, block := fun k hk => (hg.block k (by omega) (by omega)).trans (hB1.block k hk) }
    show Calls _ _ _ (loopW W0 (loopRec fn #[.pointer (some ⟨w.heap.size, 0, none⟩), .slice (some ⟨g, 0, none⟩) 4 cap, .pointer (some ⟨w2.heap.size, 0, none⟩), .int .i64 0, .pointer (some ⟨w2.heap.size + 1, 0, none⟩), .func (.func 20) #[] #[.pointer (some ⟨w2.heap.size + 1 + 1, 0, none⟩)], undef, undef, .tuple #[.slice (some ⟨g, 0, none⟩) 4 cap, .agg #[.int .i64 0, .int .i64 0], .int .i64 0], .tuple #[.slice (some ⟨g, 0, none⟩) 4 cap, .agg #[.int .i64 0, .int .i64 0], .int .i64 0], .slice (some ⟨g, 0, none⟩) 4 cap, .agg #[.int .i64 0, .int .i64 0], .int .i64 0, .int .i64 0, .bool false, .bool false, .slice (some ⟨g, 0, none⟩) 4 cap, .int .i64 4, .bool false, .bool false, .func (.func 20) #[] #[.pointer (some ⟨w2.heap.size + 1 + 1, 0, none⟩)], .func (.func 20) #[] #[.pointer (some ⟨w2.heap.size + 1 + 1, 0, none⟩)], .bool false, .func (.func 20) #[] #[.pointer (some ⟨w2.heap.size + 1 + 1, 0, none⟩)], undef, undef, undef, undef, undef, undef, undef, undef, undef, undef, undef, undef, undef, undef, undef, undef, undef, undef, undef, undef, undef, undef, undef, undef, undef, undef, undef, undef, undef, undef, undef, undef, undef, undef, undef, undef, undef] #[24, 25] aAssign aBody (w2.heap.size + 3))) _
    rw [hr, hW1]
    have HS : Hid (W1.heap.size = w2.heap.size + 5) := HE.out.1
    have wpl : w2.heap.size + 2 < W1.heap.size := by have := HS.out; omega
    refine (each1_any (w2.heap.size + 4) (w2.heap.size + 2) ⟨#[97, 32, 98]⟩ W1 (AJ W1 (w2.heap.size + 1)) (fun _ => False) (heap_cell HE.out.2.2.2.1 (by simp)) ⟨HE.out.2.2.1, ⟨rfl, rfl, rfl, Nat.le_refl _, fun _ _ _ => rfl⟩⟩ ?_ ?_ ?_ ?_).mono ?_
    · intro pre W hJ
      exact ⟨HL.out.1.keep (HG W hJ.2), HL.out.2.keep (HG W hJ.2)⟩
    · intro pre W W' hJ hb
      have hs := HS.out
      exact ⟨(hb.block _ (by omega)).trans hJ.1, ⟨hb.os.trans hJ.2.os, hb.tape.trans hJ.2.tape, hb.output.trans hJ.2.output, Nat.le_trans hJ.2.size hb.size, fun k hk hn => (hb.block k hk).trans (hJ.2.block k hk hn)⟩⟩
    · intro W W' h
      exact h.elim
    · intro pre x j rest W hpre _ hJ hsW
      have hs := HS.out
      have hx : x.k = 1 ∧ pre.length ≤ 65536 := by
        rw [lex_ab] at hpre
        have hm : (x, j) ∈ pre ++ (x, j) :: rest := by simp
        have hln := congrArg List.length hpre
        rw [← hpre] at hm
        simp at hm hln
        rcases hm with ⟨rfl, _⟩ | ⟨rfl, _⟩ <;> exact ⟨rfl, by omega⟩
      have hlp : W.heap[w2.heap.size + 4]? = some (.loop (loopRec fn #[.pointer (some ⟨w.heap.size, 0, none⟩), .slice (some ⟨g, 0, none⟩) 4 cap, .pointer (some ⟨w2.heap.size, 0, none⟩), .int .i64 0, .pointer (some ⟨w2.heap.size + 1, 0, none⟩), .func (.func 20) #[] #[.pointer (some ⟨w2.heap.size + 1 + 1, 0, none⟩)], undef, undef, .tuple #[.slice (some ⟨g, 0, none⟩) 4 cap, .agg #[.int .i64 0, .int .i64 0], .int .i64 0], .tuple #[.slice (some ⟨g, 0, none⟩) 4 cap, .agg #[.int .i64 0, .int .i64 0], .int .i64 0], .slice (some ⟨g, 0, none⟩) 4 cap, .agg #[.int .i64 0, .int .i64 0], .int .i64 0, .int .i64 0, .bool false, .bool false, .slice (some ⟨g, 0, none⟩) 4 cap, .int .i64 4, .bool false, .bool false, .func (.func 20) #[] #[.pointer (some ⟨w2.heap.size + 1 + 1, 0, none⟩)], .func (.func 20) #[] #[.pointer (some ⟨w2.heap.size + 1 + 1, 0, none⟩)], .bool false, .func (.func 20) #[] #[.pointer (some ⟨w2.heap.size + 1 + 1, 0, none⟩)], undef, undef, undef, undef, undef, undef, undef, undef, undef, undef, undef, undef, undef, undef, undef, undef, undef, undef, undef, undef, undef, undef, undef, undef, undef, undef, undef, undef, undef, undef, undef, undef, undef, undef, undef, undef, undef] #[24, 25] aAssign aBody (w2.heap.size + 3))) := by
        rw [hr]
        exact (hJ.2.block _ (by omega) (by omega)).trans HE.out.2.2.2.2.2.1
      have hwa : wordAt x (posOf ⟨#[97, 32, 98]⟩ j) = .agg #[.int .i64 1, .string x.s, .int .i64 x.n, .int .i64 (posOf ⟨#[97, 32, 98]⟩ j).1, .int .i64 (posOf ⟨#[97, 32, 98]⟩ j).2] := by
        unfold wordAt
        rw [hx.1]
      rw [hwa]
      refine aw_round (w2.heap.size + 4) (w2.heap.size + 1) (w2.heap.size + 3) pre.length fn x.n _ _ x.s _ _ _ _ _ _ _ _ _ _ _ _ _ _ _ _ _ _ _ _ _ _ _ _ _ _ _ _ _ _ _ _ _ _ _ _ _ _ _ _ _ _ _ _ _ _ _ _ _ _ _ _ _ _ _ _ _ _ _ _  W _ hlp hJ.1 (by omega) hx.2 ?_
      intro W' hv' hb' hs' o1 o2 o3
      refine ⟨⟨true, rfl, fun _ => ⟨?_, ⟨o1.trans hJ.2.os, o2.trans hJ.2.tape, o3.trans hJ.2.output, Nat.le_trans hJ.2.size hs', fun k hk hn => (hb' k (by omega) hn).trans (hJ.2.block k hk hn)⟩⟩, fun h => by cases h⟩, ⟨hs', fun k h1 h2 => hb' k h2 (by omega)⟩⟩
      have e : (((pre ++ [(x, j)]).length : Nat) : Int) = (pre.length : Int) + 1 := by simp
      rw [e]
      exact hv'
    · rintro e W2 ⟨rfl, hJ | h⟩
      · have hs := HS.out
        have hlp : W2.heap[w2.heap.size + 4]? = some (.loop (loopRec fn #[.pointer (some ⟨w.heap.size, 0, none⟩), .slice (some ⟨g, 0, none⟩) 4 cap, .pointer (some ⟨w2.heap.size, 0, none⟩), .int .i64 0, .pointer (some ⟨w2.heap.size + 1, 0, none⟩), .func (.func 20) #[] #[.pointer (some ⟨w2.heap.size + 1 + 1, 0, none⟩)], undef, undef, .tuple #[.slice (some ⟨g, 0, none⟩) 4 cap, .agg #[.int .i64 0, .int .i64 0], .int .i64 0], .tuple #[.slice (some ⟨g, 0, none⟩) 4 cap, .agg #[.int .i64 0, .int .i64 0], .int .i64 0], .slice (some ⟨g, 0, none⟩) 4 cap, .agg #[.int .i64 0, .int .i64 0], .int .i64 0, .int .i64 0, .bool false, .bool false, .slice (some ⟨g, 0, none⟩) 4 cap, .int .i64 4, .bool false, .bool false, .func (.func 20) #[] #[.pointer (some ⟨w2.heap.size + 1 + 1, 0, none⟩)], .func (.func 20) #[] #[.pointer (some ⟨w2.heap.size + 1 + 1, 0, none⟩)], .bool false, .func (.func 20) #[] #[.pointer (some ⟨w2.heap.size + 1 + 1, 0, none⟩)], undef, undef, undef, undef, undef, undef, undef, undef, undef, undef, undef, undef, undef, undef, undef, undef, undef, undef, undef, undef, undef, undef, undef, undef, undef, undef, undef, undef, undef, undef, undef, undef, undef, undef, undef, undef, undef] #[24, 25] aAssign aBody (w2.heap.size + 3))) := by
          rw [hr]
          exact (hJ.2.block _ (by omega) (by omega)).trans HE.out.2.2.2.2.2.1
        refine ⟨⟨_, rfl⟩, _, hlp, by simp [loopRec], .inl ⟨rfl, ?_⟩⟩
        refine q_named (A3Is w g w.heap.size (w2.heap.size + 3) (w2.heap.size + 1)) ?_ ?_
        · have o : ∀ (ob : Obj) k, k ≠ w2.heap.size + 4 → (W2.putObj (w2.heap.size + 4) ob).heap[k]? = W2.heap[k]? := fun ob k hk => World.putObj_heap_other hk
          obtain ⟨hbw, hres, hlt, hgl, hwg⟩ := HB.out
          have e2 : (((eachList ⟨#[97, 32, 98]⟩).length : Nat) : Int) = 2 := by
            rw [eachList, if_neg (by decide), lex_ab]
            rfl
          have hn := hJ.1
          rw [e2] at hn
          refine ⟨(HG _ hJ.2).trans (below_put (by omega)), (o _ _ (by omega)).trans hn, HA.out.keep ((o _ _ (by omega)).trans ((hJ.2.block _ (by omega) (by omega)).trans (HE.out.2.1 _ hgl))), (o _ _ (by omega)).trans ((hJ.2.block _ (by omega) (by omega)).trans ((HE.out.2.1 _ hlt).trans hres)), (o _ _ (by omega)).trans ((hJ.2.block _ (by omega) (by omega)).trans HE.out.2.2.2.2.1)⟩
        · intro W3 hW3
          have HW : Hid (A3Is w g w.heap.size (w2.heap.size + 3) (w2.heap.size + 1) W3) := hW3
          obtain ⟨_, hn3, haw, hr3, _⟩ := hW3
          have cn := hn3.cell
          obtain ⟨a0, a1, a2, a3, a4, b1, x0, x1, x2, x3, x4⟩ := haw
          have r0 : W3.cell? ⟨w.heap.size, 0, none⟩ = some (.bool false) := heap_cell hr3 (by simp)
          have f0 : W3.frozen? ⟨w.heap.size, 0, none⟩ = false := heap_frozen hr3
          clear hn3 hr3 hJ hlp hB1 HG wpl hW0 hsz hr hW1
          go_wp2
          obtain ⟨hbel, _, _, hr3, hd3⟩ := HW.out
          have hlt := HB.out.2.2.1
          refine ⟨by simp, .inl ⟨_, _, rfl, run_takeDeferred ((heap_set_other (by omega)).trans hd3), ?_⟩⟩
          have q0 : ((W3.setCell ⟨w.heap.size, 0, none⟩ (.bool true)).putObj (w2.heap.size + 3) (.deferred none)).cell? ⟨w.heap.size, 0, none⟩ = some (.bool true) := by
            refine heap_cell (c := #[.bool true]) (t := 4) (fr := (0, 0)) ((World.putObj_heap_other (by omega)).trans ?_) (by simp)
            exact Eq.trans (heap_set_same (o := 0) hr3 _) (by simp)
          refine ⟨_, (by simp [results, Tryd.results8, go_sem, q0]), rfl, ?_⟩
          exact (hbel.setCell (p := ⟨w.heap.size, 0, none⟩) (Nat.le_refl _) _).trans (below_put (by omega))
      · exact h.elim
end Go.Proofs.YtkbihcicnffjdaaDoor

