/- LexCuts: any text is cut into words, or refused, as the document's own lexer says; word by word too, gone through twice, left anywhere: the law's walk. -/
import Derived.Test.YtkbihcicnffjdaaDoorLCutsA
import Derived.Test.YtkbihcicnffjdaaDoorLRefWZ
import Derived.BigQuiet
namespace Go.Proofs.YtkbihcicnffjdaaDoor
open Go.ChangeShapes Go.WideShapes Go.ChangeAt Go.RowKit Go.Shelf
set_option linter.unusedSimpArgs false
set_option linter.unusedVariables false

theorem words_all (t : ByteArray) (w : World) (hl : LexTab w) (he : ErrTab w) :
    Calls Tryd.prog 9 #[.string t] w fun e W => (∃ (a : Option Addr) (n cap : Nat), e = .returned (.tuple #[.slice a n cap, .agg #[.int .i64 ((rpos t).1 : Int), .int .i64 ((rpos t).2 : Int)], .int .i64 (rcode t)]) ∧ (rcode t = 0 → n = (eachList t).length ∧ WordsAt W t a cap (eachList t)) ∧ (¬ rcode t = 0 → n = 0)) ∧ Below w.heap.size w W := by
  refine (words_any t w hl he).mono ?_
  rintro e W ⟨hb, h⟩
  refine ⟨?_, hb⟩
  by_cases hs : 65536 < t.size
  · rw [if_pos hs] at h
    rw [rcode, rpos, if_pos hs, if_pos hs]
    exact ⟨none, 0, 0, h, (fun h => by cases h), fun _ => rfl⟩
  · rw [if_neg hs] at h
    rw [rcode, rpos, if_neg hs, if_neg hs, eachList, if_neg hs]
    by_cases hx : (lexAll t).2 < t.size
    · rw [if_pos hx] at h
      rw [if_pos hx, if_pos hx]
      exact ⟨none, 0, 0, h, (fun h => by cases h), fun _ => rfl⟩
    · rw [if_neg hx] at h
      rw [if_neg hx, if_neg hx]
      obtain ⟨v, rfl, ho⟩ := h
      obtain ⟨a, cap, rfl, h1⟩ := words_at ho
      exact ⟨a, _, cap, rfl, fun _ => ⟨rfl, h1⟩, fun h => absurd rfl h⟩
theorem each_le (t : ByteArray) : (eachList t).length ≤ 65536 := by
  have := lexAll_len t
  unfold eachList
  split
  · simp
  · omega
theorem neq_pos (pl pc : Int) (W : World) : (binOp .neq 25 (.agg #[.int .i64 pl, .int .i64 pc]) (.agg #[.int .i64 pl, .int .i64 pc])).run Tryd.prog W = .ok (.bool false) W := by
  simp [go_sem, run_underlying Tryd.underlying25]
/-- The tail's world. -/
structure CuT (w : World) (t : ByteArray) (lb rb wb cap : Nat) (a : Option Addr) (lv : Int) (W : World) : Prop where
  bel : Below w.heap.size w W
  cl : W.cell? ⟨lb, 0, none⟩ = some (.int .i64 lv)
  cw : W.cell? ⟨wb, 0, none⟩ = some (.slice a (eachList t).length cap)
  ws : WordsAt W t a cap (eachList t)
  rs : W.heap[rb]? = some (.cells #[.bool false] 4 (0, 0))
theorem CuT.keep {w : World} {t : ByteArray} {lb rb wb cap : Nat} {a : Option Addr} {lv : Int} {W W' : World} (h : CuT w t lb rb wb cap a lv W) (hb : Below W.heap.size W W') : CuT w t lb rb wb cap a lv W' :=
  ⟨bel_trans h.bel hb, keep_cell hb h.cl, keep_cell hb h.cw, h.ws.keep hb, (hb.block _ (Array.getElem?_eq_some_iff.1 h.rs).1).trans h.rs⟩
set_option maxRecDepth 100000 in
set_option maxHeartbeats 16000000 in
theorem lexCuts_walk (t : ByteArray) (lv : Int) (w : World) (hl : LexTab w) (he : ErrTab w) : Calls Tryd.prog 4 #[.string t, .int .i64 lv] w (retP (.bool true) w) := by
  have HL : Hid (LexTab w ∧ ErrTab w) := ⟨hl, he⟩
  clear hl he
  refine callsIn_wide.1 (callsIn_of_wp_marks (n := 3) Tryd.func4 rfl trivial ?_)
  simp only [Tryd.ntmps4, List.size_toArray, List.length_cons, List.length_nil, Nat.reduceAdd, Nat.reduceSub, Array.replicate_succ, Array.replicate_zero, List.push_toArray, List.append_toArray, List.nil_append, List.cons_append]
  refine wpIn_wide.2 ?_
  have hb0 : Below w.heap.size w ((w.alloc (.cells #[.int .i64 lv] 3)).alloc (.cells #[.bool false] 4)) := bel_alloc (bel_alloc (Below.refl _ _) _) _
  go_wp2_with fail
  refine (awake_any _ (HL.out.1.keep hb0) (HL.out.2.keep hb0)).mono ?_
  rintro e w1 ⟨rfl, hb1⟩
  have HB1 : Hid (Below w.heap.size w w1) := bel_trans hb0 hb1
  have HC1 : Hid (w1.cell? ⟨w.heap.size, 0, none⟩ = some (.int .i64 lv) ∧ w1.heap[w.heap.size + 1]? = some (.cells #[.bool false] 4 (0, 0))) := by
    refine ⟨keep_cell hb1 (by go_simp), (hb1.block _ (by simp)).trans ?_⟩
    have := World.alloc_heap_new (w.alloc (.cells #[.int .i64 lv] 3)) (.cells #[.bool false] 4)
    rw [World.size_alloc] at this
    exact this
  clear hb0 hb1
  dsimp only
  go_wp2_with fail
  refine (words_all t _ (HL.out.1.keep HB1.out) (HL.out.2.keep HB1.out)).mono ?_
  rintro e w2 ⟨⟨a1, n1, cap1, rfl, hok, hbad⟩, hb2⟩
  have HA : Hid ((rcode t = 0 → n1 = (eachList t).length ∧ WordsAt w2 t a1 cap1 (eachList t)) ∧ (¬ rcode t = 0 → n1 = 0)) := ⟨hok, hbad⟩
  have HB2 : Hid (Below w1.heap.size w1 w2) := hb2
  have HB3 : Hid (Below w2.heap.size w2 (w2.alloc (.cells #[.int .i64 ((rpos t).1 : Int), .int .i64 ((rpos t).2 : Int)] 25))) := bel_alloc (Below.refl _ _) _
  clear hok hbad hb2
  obtain ⟨pl, hpl⟩ : ∃ pl, ((rpos t).1 : Int) = pl := ⟨_, rfl⟩
  obtain ⟨pc, hpc⟩ : ∃ pc, ((rpos t).2 : Int) = pc := ⟨_, rfl⟩
  obtain ⟨c, hc⟩ : ∃ c, rcode t = c := ⟨_, rfl⟩
  have HR : Hid (∀ W, Calls Tryd.prog 10 #[.string t] W fun e w' => (∃ a cap, e = .returned (.tuple #[.slice a (eachList t).length cap, .agg #[.int .i64 pl, .int .i64 pc], .int .i64 c]) ∧ WordsAt w' t a cap (eachList t)) ∧ Below W.heap.size W w') := fun W => by
    refine (rwords_any t W).mono ?_
    rintro e w' ⟨h1, a, cap, h2, h3⟩
    rw [hpl, hpc, hc] at h2
    exact ⟨⟨a, cap, h2, h3⟩, h1⟩
  rw [hpl, hpc] at HB3
  rw [hc] at HA
  rw [hpl, hpc, hc]
  clear hpl hpc hc
  dsimp only
  go_wp2_with fail
  refine (HR.out _).mono ?_
  rintro e w3 ⟨⟨a2, cap2, rfl, hw3⟩, hb3⟩
  have HB4 : Hid (Below w1.heap.size w1 w3) := (HB2.out.trans (HB3.out.mono HB2.out.size)).trans (hb3.mono (by have := HB2.out.size; simp; omega))
  have HW3 : Hid (WordsAt w3 t a2 cap2 (eachList t)) := hw3
  have ap0 : w3.cell? ⟨w2.heap.size, 0, none⟩ = some (.int .i64 pl) := keep_cell hb3 (by go_simp)
  have ap1 : w3.cell? ⟨w2.heap.size, 1, none⟩ = some (.int .i64 pc) := keep_cell hb3 (by go_simp)
  have HA3 : Hid (c = 0 → WordsAt w3 t a1 cap1 (eachList t)) := fun h => ((HA.out.1 h).2.keep HB3.out).keep hb3
  obtain ⟨ll, hll⟩ : ∃ ll, (eachList t).length = ll := ⟨_, rfl⟩
  have HLN : Hid ((eachList t).length = ll ∧ ll ≤ 65536) := ⟨hll, by have := each_le t; omega⟩
  have l0 : (0 : Int) ≤ (ll : Int) := by omega
  have l9 : (ll : Int) ≤ 65536 := by have := HLN.out; omega
  rw [hll]
  have hsz3 : w2.heap.size < w3.heap.size := by have := hb3.size; simp at this; omega
  clear hw3 hb3 hll
  have np := neq_pos pl pc
  have nw := neq_word
  have hfin : Below w3.heap.size w3 ((w3.alloc (.cells #[.slice a2 ll cap2] 31)).alloc (.cells #[.int .i64 pl, .int .i64 pc] 25)) := bel_alloc (bel_alloc (Below.refl _ _) _) _
  have HT5a : Hid (CuT w t w.heap.size (w.heap.size + 1) w3.heap.size cap2 a2 lv ((w3.alloc (.cells #[.slice a2 ll cap2] 31)).alloc (.cells #[.int .i64 pl, .int .i64 pc] 25))) := by
    have h1 := keep_cell HB4.out HC1.out.1
    have h2 : w3.heap[w.heap.size + 1]? = _ := (HB4.out.block _ (Array.getElem?_eq_some_iff.1 HC1.out.2).1).trans HC1.out.2
    exact ⟨bel_trans (bel_trans HB1.out HB4.out) hfin, keep_cell hfin h1, by rw [HLN.out.1]; go_simp, HW3.out.keep hfin, (hfin.block _ (Array.getElem?_eq_some_iff.1 h2).1).trans h2⟩
  dsimp only
  by_cases hc0 : c = 0
  · subst hc0
    obtain ⟨hn1, _⟩ := HA.out.1 rfl
    obtain rfl : n1 = ll := hn1.trans HLN.out.1
    have HWA : Hid (WordsAt w3 t a1 cap1 (eachList t)) := HA3.out rfl
    clear HA HA3 hn1
    go_wp2
    refine wp_named (fun W => CuT w t w.heap.size (w.heap.size + 1) w3.heap.size cap2 a2 lv W ∧ WordsAt W t a1 cap1 (eachList t)) ⟨HT5a.out, HWA.out.keep hfin⟩ ?_
    rintro w4 ⟨hT4, hA4⟩
    have HT4 : Hid (CuT w t w.heap.size (w.heap.size + 1) w3.heap.size cap2 a2 lv w4 ∧ WordsAt w4 t a1 cap1 (eachList t)) := ⟨hT4, hA4⟩
    clear hT4 hA4 HT5a HWA hfin HB3 HB4 HW3 ap0 ap1 HC1 HB2 HR
    go_loopw [11] (fun vi wr => ∃ i : Nat, i ≤ n1 ∧ vi = .int .i64 (i : Int) ∧ Hid (Below w4.heap.size w4 wr)) (fun vi _ => n1 - (intOf vi).toNat)
    case atStart => exact ⟨0, Nat.zero_le _, rfl, Below.refl _ _⟩
    case round =>
      obtain ⟨i, hiZ, rfl, HI⟩ := hrel
      have i0 : (0 : Int) ≤ (i : Int) := by omega
      have HT5 : Hid (CuT w t w.heap.size (w.heap.size + 1) w3.heap.size cap2 a2 lv wr) := HT4.out.1.keep HI.out
      by_cases hi : i < n1
      · have i1 : (i : Int) < (n1 : Int) := by omega
        obtain ⟨⟨x, j⟩, hxj⟩ : ∃ xj, (eachList t)[i]? = some xj := ⟨_, List.getElem?_eq_getElem (by have := HLN.out; omega)⟩
        have hne : eachList t ≠ [] := fun h => by rw [h] at hxj; simp at hxj
        obtain ⟨gx, rfl, hgx, hcx⟩ := (HT4.out.2.keep HI.out).row hne
        obtain ⟨gz, rfl, hgz, hcz⟩ := HT5.out.ws.row hne
        have hxc : n1 ≤ cap1 := by have := HT4.out.2.cap; have := HLN.out; omega
        have hzc : n1 ≤ cap2 := by have := HT5.out.ws.cap; have := HLN.out; omega
        have cx := hcx i x j hxj
        have cz := hcz i x j hxj
        have c0 := cx.c0
        have c1 := cx.c1
        have c2 := cx.c2
        have c3 := cx.c3
        have c4 := cx.c4
        have d0 := cz.c0
        have d1 := cz.c1
        have d2 := cz.c2
        have d3 := cz.c3
        have d4 := cz.c4
        have cw := HT5.out.cw
        rw [HLN.out.1] at cw
        obtain ⟨pp, hpp⟩ : ∃ pp, posOf t j = pp := ⟨_, rfl⟩
        rw [hpp] at c3 c4 d3 d4
        clear hne hxj cx cz hcx hcz hpp
        go_wp2_with (go_quiet (fail))
        go_roundw
        case rel => exact ⟨i + 1, by omega, by simp, bel_trans HI.out ⟨rfl, rfl, rfl, Nat.le_refl _, fun _ _ => rfl⟩⟩
        case measure => simp [intOf]; omega
      · have i1 : ¬ (i : Int) < (n1 : Int) := by omega
        -- the iterator, gone through twice
        have nf : ∀ (xs : Array Value) (W : World), (binOp .eql 36 (.func (.func 20) #[] xs) .nilFunc).run Tryd.prog W = .ok (.bool false) W := fun xs W => run_bin_func_nil W 36 _ _ xs Tryd.underlying36
        go_wp2_with (go_at_call 11; refine (each_any _ _).mono ?_; rintro e w9 ⟨rfl, rfl⟩)
        have hta : Below wr.heap.size wr ((wr.alloc (.cells #[.string t] 9)).alloc (.cells #[.int .i64 0] 3)) := bel_alloc (bel_alloc (Below.refl _ _) _) _
        have hT := HT5.out.keep hta
        refine cu_loop2 w t w.heap.size w3.heap.size wr.heap.size (wr.heap.size + 1) cap2 a2 lv _ _ _ _ _ _ _ _ _ _ _ _ _ _ _ _ _ _ _ _ _ _ _ _ _ _ _ _ _ _ _ _ _ _ _ _ _ _ _ _ _ _ _ _ _ _ _ _ _ _ _ _ _ _ _ _ _ _ _ _ _ _ _ _ _ _ _ _ _ _ _ _ _ _ _ _ _ _ _ _ _ _ _ _ _ _ _ _ _ _ _ _ _ _ _ _ _ _ _ _ _ _ _ _ _ _ _ _ _ _ _ _ _ _ _ _ _ _ _ _ _ _ _ _ _ _ _ _ _ _ _ _ _ _ _ _ _ _ _ _ _ _ _ _ _ _ _ _ _ _ HL ⟨hT.bel, hT.cl, hT.cw, by go_simp, hT.ws⟩ (by go_simp) (each_le t) ?_
        intro ab' d1 d2 W' y14 y93 y94 y95 y96 y97 y143 y144 y145 y146 y147 y148 y149 y150 y151 hb hd1 hd2 hle hlt
        have hT2 := hT.keep hb
        have r0 : W'.cell? ⟨w.heap.size + 1, 0, none⟩ = some (.bool false) := heap_cell hT2.rs (by simp)
        have f0 : W'.frozen? ⟨w.heap.size + 1, 0, none⟩ = false := heap_frozen hT2.rs
        have HT2 : Hid (CuT w t w.heap.size (w.heap.size + 1) w3.heap.size cap2 a2 lv W') := hT2
        have rlt : w.heap.size + 1 < wr.heap.size := (Array.getElem?_eq_some_iff.1 HT5.out.rs).1
        have hle' : wr.heap.size + 2 ≤ d1 := by simpa using hle
        have HD : Hid (W'.heap[d1]? = some (.deferred (some [])) ∧ W'.heap[d2]? = some (.deferred (some []))) := ⟨hd1, hd2⟩
        clear hb hd1 hd2 hT hT2 hta hle
        go_wp2
        have h2 : (W'.setCell ⟨w.heap.size + 1, 0, none⟩ (.bool true)).heap[d2]? = some (.deferred (some [])) := (heap_set_other (by omega)).trans HD.out.2
        refine ⟨by simp, .inl ⟨_, _, rfl, run_takeDeferred h2, ?_⟩⟩
        have h1 : ((W'.setCell ⟨w.heap.size + 1, 0, none⟩ (.bool true)).putObj d2 (.deferred none)).heap[d1]? = some (.deferred (some [])) := (World.putObj_heap_other (by omega)).trans ((heap_set_other (by omega)).trans HD.out.1)
        refine ⟨by simp, .inl ⟨_, _, rfl, run_takeDeferred h1, ?_⟩⟩
        have q0 : (((W'.setCell ⟨w.heap.size + 1, 0, none⟩ (.bool true)).putObj d2 (.deferred none)).putObj d1 (.deferred none)).cell? ⟨w.heap.size + 1, 0, none⟩ = some (.bool true) := by
          refine heap_cell (c := #[.bool true]) (t := 4) (fr := (0, 0)) ((World.putObj_heap_other (by omega)).trans ((World.putObj_heap_other (by omega)).trans ?_)) (by simp)
          exact Eq.trans (heap_set_same (o := 0) HT2.out.rs _) (by simp)
        refine ⟨_, (by simp [results, Tryd.results4, go_sem, q0]), rfl, ?_⟩
        have hwl := HT2.out.bel.size
        exact ((bel_set HT2.out.bel (by simp) _).trans (below_put (by omega))).trans (below_put (by omega))
  · have q0 : (c == 0) = false := by simpa using hc0
    obtain rfl : n1 = 0 := HA.out.2 hc0
    clear HA HA3
    go_wp2
    refine wp_named (fun W => CuT w t w.heap.size (w.heap.size + 1) w3.heap.size cap2 a2 lv W) HT5a.out ?_
    intro w4 hT4
    have HT5 : Hid (CuT w t w.heap.size (w.heap.size + 1) w3.heap.size cap2 a2 lv w4) := hT4
    clear hT4 HT5a hfin HB3 HB4 HW3 ap0 ap1 HC1 HB2 HR
    refine wp_loop_once ?_
    -- the iterator, gone through twice
    have nf : ∀ (xs : Array Value) (W : World), (binOp .eql 36 (.func (.func 20) #[] xs) .nilFunc).run Tryd.prog W = .ok (.bool false) W := fun xs W => run_bin_func_nil W 36 _ _ xs Tryd.underlying36
    go_wp2_with (go_at_call 11; refine (each_any _ _).mono ?_; rintro e w9 ⟨rfl, rfl⟩)
    have hta : Below w4.heap.size w4 ((w4.alloc (.cells #[.string t] 9)).alloc (.cells #[.int .i64 0] 3)) := bel_alloc (bel_alloc (Below.refl _ _) _) _
    have hT := HT5.out.keep hta
    refine cu_loop2 w t w.heap.size w3.heap.size w4.heap.size (w4.heap.size + 1) cap2 a2 lv _ _ _ _ _ _ _ _ _ _ _ _ _ _ _ _ _ _ _ _ _ _ _ _ _ _ _ _ _ _ _ _ _ _ _ _ _ _ _ _ _ _ _ _ _ _ _ _ _ _ _ _ _ _ _ _ _ _ _ _ _ _ _ _ _ _ _ _ _ _ _ _ _ _ _ _ _ _ _ _ _ _ _ _ _ _ _ _ _ _ _ _ _ _ _ _ _ _ _ _ _ _ _ _ _ _ _ _ _ _ _ _ _ _ _ _ _ _ _ _ _ _ _ _ _ _ _ _ _ _ _ _ _ _ _ _ _ _ _ _ _ _ _ _ _ _ _ _ _ _ HL ⟨hT.bel, hT.cl, hT.cw, by go_simp, hT.ws⟩ (by go_simp) (each_le t) ?_
    intro ab' d1 d2 W' y14 y93 y94 y95 y96 y97 y143 y144 y145 y146 y147 y148 y149 y150 y151 hb hd1 hd2 hle hlt
    have hT2 := hT.keep hb
    have r0 : W'.cell? ⟨w.heap.size + 1, 0, none⟩ = some (.bool false) := heap_cell hT2.rs (by simp)
    have f0 : W'.frozen? ⟨w.heap.size + 1, 0, none⟩ = false := heap_frozen hT2.rs
    have HT2 : Hid (CuT w t w.heap.size (w.heap.size + 1) w3.heap.size cap2 a2 lv W') := hT2
    have rlt : w.heap.size + 1 < w4.heap.size := (Array.getElem?_eq_some_iff.1 HT5.out.rs).1
    have hle' : w4.heap.size + 2 ≤ d1 := by simpa using hle
    have HD : Hid (W'.heap[d1]? = some (.deferred (some [])) ∧ W'.heap[d2]? = some (.deferred (some []))) := ⟨hd1, hd2⟩
    clear hb hd1 hd2 hT hT2 hta hle
    go_wp2
    have h2 : (W'.setCell ⟨w.heap.size + 1, 0, none⟩ (.bool true)).heap[d2]? = some (.deferred (some [])) := (heap_set_other (by omega)).trans HD.out.2
    refine ⟨by simp, .inl ⟨_, _, rfl, run_takeDeferred h2, ?_⟩⟩
    have h1 : ((W'.setCell ⟨w.heap.size + 1, 0, none⟩ (.bool true)).putObj d2 (.deferred none)).heap[d1]? = some (.deferred (some [])) := (World.putObj_heap_other (by omega)).trans ((heap_set_other (by omega)).trans HD.out.1)
    refine ⟨by simp, .inl ⟨_, _, rfl, run_takeDeferred h1, ?_⟩⟩
    have q0 : (((W'.setCell ⟨w.heap.size + 1, 0, none⟩ (.bool true)).putObj d2 (.deferred none)).putObj d1 (.deferred none)).cell? ⟨w.heap.size + 1, 0, none⟩ = some (.bool true) := by
      refine heap_cell (c := #[.bool true]) (t := 4) (fr := (0, 0)) ((World.putObj_heap_other (by omega)).trans ((World.putObj_heap_other (by omega)).trans ?_)) (by simp)
      exact Eq.trans (heap_set_same (o := 0) HT2.out.rs _) (by simp)
    refine ⟨_, (by simp [results, Tryd.results4, go_sem, q0]), rfl, ?_⟩
    have hwl := HT2.out.bel.size
    exact ((bel_set HT2.out.bel (by simp) _).trans (below_put (by omega))).trans (below_put (by omega))
end Go.Proofs.YtkbihcicnffjdaaDoor
