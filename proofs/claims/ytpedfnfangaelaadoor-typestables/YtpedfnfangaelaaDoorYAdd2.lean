/- Package types: contract of add where the struct's name and fields are taken. -/
import Derived.Test.YtpedfnfangaelaaDoorYAdd
namespace Go.Proofs.YtpedfnfangaelaaDoor
open Go.ChangeShapes Go.WideShapes Go.ChangeAt Go.RowKit
set_option linter.unusedSimpArgs false
set_option linter.unusedVariables false

theorem far_add {w w2 W0 w3 : World} {base tb bm n sl sc : Nat} {sa : Option Addr} {prs : List (Value × Shp)} {T : Tab} {o : Obj} {cs : Array Value} (hw : TabOwn w base tb bm n (Value.slice sa sl sc) prs T) (h0 : Below w.heap.size w W0 ∧ W0.heap.size = w2.heap.size + 1 ∧ W0.heap[w2.heap.size]? = some (.cells cs 71 (0, 0))) (hb2 : Below w.heap.size w w2) (hg : (W0.drew.alloc o).grownBy w3 (Value.slice sa sl sc).ownBlock) :
    w3.heap[tb]? = some (.cells #[.map (some bm), (Value.slice sa sl sc)] 62 (0, 0)) ∧ w3.heap[w2.heap.size]? = some (.cells cs 71 (0, 0)) := by
  have htb : tb < w.heap.size := (Array.getElem?_eq_some_iff.1 hw.row).1
  have hs2 := hb2.size
  obtain ⟨hb, hs, hn⟩ := h0
  have e1 : W0.drew.heap.size = W0.heap.size := rfl
  constructor
  · rw [hg.block tb (by rw [World.size_alloc]; omega) (Ne.symm hw.ne), Below.heap_alloc W0.drew o tb (by omega)]
    exact (hb.block tb htb).trans hw.row
  · rw [hg.block w2.heap.size (by rw [World.size_alloc]; omega) (fun e => by have := (row_lt hw.own e.symm).1; omega), Below.heap_alloc W0.drew o _ (by omega)]
    exact hn
theorem add_end {w W1 w3 : World} {base tb bm n sl sc g cap pc : Nat} {sa pa : Option Addr} {prs : List (Value × Shp)} {T : Tab} {x : Shp} {o : Obj} (hw : TabOwn w base tb bm n (Value.slice sa sl sc) prs T) (hb : Below w.heap.size w W1) (hbase : base ≤ w.heap.size) (hp : PlsAt W1 (.slice pa x.places.length pc) x.places) (hfar : ∀ b, (Value.slice pa x.places.length pc).ownBlock = some b → w.heap.size < b ∧ b < W1.heap.size) (hpl : prs.length = sl)
    (HQ : (W1.alloc o).grownBy w3 (Value.slice sa sl sc).ownBlock ∧ w3.ownsRow base 71 3 (.slice (some ⟨g, 0, none⟩) (sl + 1) cap) (sl + 1) (flat3 shV prs ++ [.slice pa x.places.length pc, .int .i64 x.size, .int .i64 x.align]) ∧ ((Value.slice sa sl sc).ownBlock = some g ∨ g = W1.heap.size + 1) ∧ g < w3.heap.size) (hB3 : w3.heap[tb]? = some (.cells #[.map (some bm), (Value.slice sa sl sc)] 62 (0, 0))) :
    Below base w (w3.setCell ⟨tb, 1, none⟩ (.slice (some ⟨g, 0, none⟩) (sl + 1) cap)) ∧ TabOwn (w3.setCell ⟨tb, 1, none⟩ (.slice (some ⟨g, 0, none⟩) (sl + 1) cap)) base tb bm n (.slice (some ⟨g, 0, none⟩) (sl + 1) cap) (prs ++ [(.slice pa x.places.length pc, x)]) ⟨T.names, T.shapes ++ [x]⟩ := by
  obtain ⟨hg, ho, hat, hlt⟩ := HQ
  have hs := hb.size
  have hgs := hg.size
  rw [World.size_alloc] at hgs
  have htb : tb < w.heap.size := (Array.getElem?_eq_some_iff.1 hw.row).1
  have hrl : ∀ b, (Value.slice sa sl sc).ownBlock = some b → b < w.heap.size := fun b h => (row_lt hw.own h).1
  have hge : base ≤ g := (row_lt ho rfl).2
  have hne := hw.mapNe
  have hold : ∀ k, k < W1.heap.size → k ≠ tb → (Value.slice sa sl sc).ownBlock ≠ some k → (w3.setCell ⟨tb, 1, none⟩ (.slice (some ⟨g, 0, none⟩) (sl + 1) cap)).heap[k]? = W1.heap[k]? := fun k h1 h2 h3 => by
    rw [heap_set_other h2, hg.block k (by rw [World.size_alloc]; omega) (Ne.symm h3), Below.heap_alloc W1 o k h1]
  have hgt : g ≠ tb := by
    rcases hat with e | e
    · intro e2; rw [e2] at e; exact hw.ne e
    · omega
  refine ⟨⟨hg.os.trans hb.os, hg.tape.trans hb.tape, hg.output.trans hb.output, by rw [size_set]; omega, fun k hk => ?_⟩, ?_⟩
  · have h1 : k ≠ tb := by have := hw.ge; omega
    have h2 : (Value.slice sa sl sc).ownBlock ≠ some k := fun e => by have := (row_lt hw.own e).2; omega
    rw [hold k (by omega) h1 h2]
    exact hb.block k (by omega)
  · refine ⟨?_, ?_, ?_, ?_, ?_, ?_, hw.ge⟩
    · rw [heap_set_same hB3]; rfl
    · have hbm := hw.map.lt
      exact (hw.map.keep hb).of_heap (hold bm (by omega) hne.1 hne.2)
    · have e : flat3 shV (prs ++ [((.slice pa x.places.length pc : Value), x)]) = flat3 shV prs ++ [.slice pa x.places.length pc, .int .i64 x.size, .int .i64 x.align] := by rw [flat3_append]; rfl
      rw [e, List.length_append, List.length_singleton, hpl]
      refine owns_of_heap ho (fun b hbk => ?_)
      simp only [Value.ownBlock, Option.some.injEq] at hbk
      subst hbk
      exact heap_set_other hgt
    · rw [List.map_append, hw.all]; rfl
    · simp only [Value.ownBlock, ne_eq, Option.some.injEq]; exact hgt
    · intro p hpm
      rw [List.mem_append, List.mem_singleton] at hpm
      rcases hpm with hpm | rfl
      · obtain ⟨h1, h2⟩ := hw.pls p hpm
        refine ⟨(h1.keep hb).of_heap (fun b hbk => ?_), fun b hbk => ?_⟩
        · have := h2 b hbk
          exact hold b (by omega) this.1 this.2.1
        · have := h2 b hbk
          refine ⟨this.1, ?_, by rw [size_set]; omega⟩
          simp only [Value.ownBlock, ne_eq, Option.some.injEq]
          rcases hat with e | e
          · intro e2; rw [e2] at e; exact this.2.1 e
          · omega
      · refine ⟨hp.of_heap (fun b hbk => ?_), fun b hbk => ?_⟩
        · have := hfar b hbk
          exact hold b (by omega) (by omega) (fun e => by have := hrl b e; omega)
        · have := hfar b hbk
          refine ⟨by omega, ?_, by rw [size_set]; omega⟩
          simp only [Value.ownBlock, ne_eq, Option.some.injEq]
          rcases hat with e | e
          · have := hrl g e; omega
          · omega

set_option maxHeartbeats 4000000 in
theorem add_err (base tb bm n : Nat) (sv : Value) (prs : List (Value × Shp)) (T : Tab) (nm : ByteArray) (fv : Value) (fields : List Fd) (w : World) (h : TabOwn w base tb bm n sv prs T) (hG : GoodT T) (hf : FdAt w fv fields) (hfs : FdS fields) (hs : nm.size ≤ 281474976710656) (hlen : (T.shapes.length + 1) * 40 ≤ 140737488355328)
    (hgood : (!(nameS nm) || (!((ixOf T.names nm).getD 0 == T.shapes.length) || fields.length == 0)) = false) (he : (layR T fields).2 ≠ 0) :
    Calls Tryd.prog 24 #[.pointer (some ⟨tb, 0, none⟩), .agg #[.string nm, fv]] w (retP (.int .i64 (layR T fields).2) w) := by
  obtain ⟨fa, fc, rfl, hfl, hfc⟩ := hf
  have HFD : Hid (∀ w', Below w.heap.size w w' → FdAt w' (.slice fa fields.length fc) fields) := fun w' hb => FdAt.keep ⟨fa, fc, rfl, hfl, hfc⟩ hb
  have HLO : Hid (∀ w', Below w.heap.size w w' → Calls Tryd.prog 41 #[.pointer (some ⟨tb, 0, none⟩), .slice fa fields.length fc] w' (retLa (layR T fields).1 (layR T fields).2 w')) := fun w' hb => layOut_any tb T _ fields w' (h.at.keep hb) hG (HFD.out w' hb) hfs
  obtain ⟨fl, hfe⟩ : ∃ fl, fields.length = fl := ⟨_, rfl⟩
  rw [hfe] at hgood hfl HLO ⊢
  clear hfc hfe HFD
  have hsl : ∃ sa sc, sv = .slice sa T.shapes.length sc := by
    obtain ⟨a', c', e⟩ := owns_shape h.own
    exact ⟨a', c', by rw [e, ← h.all, List.length_map]⟩
  obtain ⟨sa, sc, rfl⟩ := hsl
  have hpl : prs.length = T.shapes.length := by rw [← h.all, List.length_map]
  obtain ⟨sl, hsl⟩ : ∃ sl, T.shapes.length = sl := ⟨_, rfl⟩
  rw [hsl] at hgood h hpl hlen
  clear hsl
  obtain ⟨j, hj⟩ : ∃ j, (ixOf T.names nm).getD 0 = j := ⟨_, rfl⟩
  have HN : Hid (∀ w, Calls Tryd.prog 40 #[.string nm] w fun e w' => e = .returned (.bool (nameS nm)) ∧ w' = w) := fun w => isName_any nm (by omega) w
  obtain ⟨jj, hjj⟩ : ∃ jj : Int, (j : Int) = jj := ⟨_, rfl⟩
  have HS1 : Hid ((fun w' => w'.cell? ⟨w.heap.size, 0, none⟩ = some (.string nm) ∧ w'.cell? ⟨w.heap.size, 1, none⟩ = some (.slice fa fl fc) ∧ w'.cell? ⟨tb, 0, none⟩ = some (.map (some bm)) ∧ w'.cell? ⟨tb, 1, none⟩ = some (.slice sa sl sc) ∧ (Instr.lookup 58 (.map (some bm)) (.string nm) false).run Tryd.prog w' = .ok (.int .i64 jj) w') (w.alloc (.cells #[.string nm, .slice fa fl fc] 40)).drew) := by
    have hb := bel_new w (.cells #[.string nm, .slice fa fl fc] 40)
    refine ⟨heap_cell (heap_new w _) (by rfl), heap_cell (heap_new w _) (by rfl), keep_cell hb (heap_cell h.row (by rfl)), keep_cell hb (heap_cell h.row (by rfl)), ?_⟩
    have := (h.map.keep (Below.drew hb)).look1 (s := nm) (by unfold maxLen; omega)
    rw [hj, hjj] at this
    exact this
  rw [hj] at hgood
  have HW : Hid (TabOwn w base tb bm n (Value.slice sa sl sc) prs T) := h
  have HPL : Hid (prs.length = sl ∧ (sl + 1) * 40 ≤ 140737488355328) := ⟨hpl, hlen⟩
  clear h hj hpl hlen hG hfs
  simp only [Bool.or_eq_false_iff, Bool.not_eq_false', beq_iff_eq, beq_eq_false_iff_ne] at hgood
  obtain ⟨hg1, hg2, hg3⟩ := hgood
  rw [hg1] at HN
  have hq : (jj == (sl : Int)) = true := by simp; omega
  have hq2 : (jj != (sl : Int)) = false := by simp; omega
  have hq3 : ((fl : Int) == 0) = false := by simp; omega
  clear hg1 hg2 hg3 hjj
  generalize layR T fields = lr at *
  obtain ⟨x, err⟩ := lr
  dsimp only at *
  have q9 : (err != 0) = true := by simpa using he
  have q8 : (err == 0) = false := by simpa using he
  clear he HW
  go_enter Tryd.func24, Tryd.ntmps24
  go_wp2_with fail
  refine wp_region_held_drew (S := (fun w' => w'.cell? ⟨w.heap.size, 0, none⟩ = some (.string nm) ∧ w'.cell? ⟨w.heap.size, 1, none⟩ = some (.slice fa fl fc) ∧ w'.cell? ⟨tb, 0, none⟩ = some (.map (some bm)) ∧ w'.cell? ⟨tb, 1, none⟩ = some (.slice sa sl sc) ∧ (Instr.lookup 58 (.map (some bm)) (.string nm) false).run Tryd.prog w' = .ok (.int .i64 jj) w')) (by kernel_rfl) (HS1.out) (fun hHeld => ?_)
  refine wpAnyH_take (i := 0) (oi := ?oiC1x1x0) (v := ?vvC1x1x0) ?hiC1x1x0 (by kernel_rfl) (by kernel_rfl) (by kernel_rfl) ?hqC1x1x0 ?hyC1x1x0 hHeld ?_
  case hiC1x1x0 => simp only [List.getElem?_toArray, List.getElem?_cons_succ, List.getElem?_cons_zero]; rfl
  case hqC1x1x0 => exact fun _ _ _ h => h
  case hyC1x1x0 => (refine Or.inl ⟨by rfl, ?_⟩; intro w' hSw; (try dsimp only at hSw); go_simp; (try (with_reducible rfl)))
  simp only [Act.put, List.setIfInBounds_toArray, List.set_cons_zero, List.set_cons_succ]
  refine wpAnyH_take (i := 1) (oi := ?oiC1x2x1) (v := ?vvC1x2x1) ?hiC1x2x1 (by kernel_rfl) (by kernel_rfl) (by kernel_rfl) ?hqC1x2x1 ?hyC1x2x1 hHeld ?_
  case hiC1x2x1 => simp only [List.getElem?_toArray, List.getElem?_cons_succ, List.getElem?_cons_zero]; rfl
  case hqC1x2x1 => exact fun _ _ _ h => h
  case hyC1x2x1 => (refine Or.inl ⟨by rfl, ?_⟩; intro w' hSw; (try dsimp only at hSw); go_simp; (try (with_reducible rfl)))
  simp only [Act.put, List.setIfInBounds_toArray, List.set_cons_zero, List.set_cons_succ]
  refine wpAnyH_ready (rs := [2]) (by kernel_rfl) (by simp) ?_
  refine (AllReadyH.cons (o := ?oiC1x3x2) ?hiC1x3x2 (fun K hK => ?gC1x3x2) AllReadyH.nil)
  case hiC1x3x2 => simp only [List.getElem?_toArray, List.getElem?_cons_succ, List.getElem?_cons_zero]; rfl
  case gC1x3x2 =>
    go_simp
    refine (HN.out _).mono ?_
    rintro e v2 ⟨rfl, hw⟩
    replace hw := hw.symm
    subst hw
    go_wp2_with fail
    refine hK.out _ _ (hHeld) (fun hN => ?_)
    clear hK K hHeld
    have hHeld := hN
    clear hN
    try simp only [Act.put, List.setIfInBounds_toArray, List.set_cons_zero, List.set_cons_succ]
    refine wpAnyH_take (i := 3) (oi := ?oiC1x4x3) (v := ?vvC1x4x3) ?hiC1x4x3 (by kernel_rfl) (by kernel_rfl) (by kernel_rfl) ?hqC1x4x3 ?hyC1x4x3 hHeld ?_
    case hiC1x4x3 => simp only [List.getElem?_toArray, List.getElem?_cons_succ, List.getElem?_cons_zero]; rfl
    case hqC1x4x3 => exact fun _ _ _ h => h
    case hyC1x4x3 => (refine Or.inl ⟨by rfl, ?_⟩; intro w' hSw; (try dsimp only at hSw); go_simp; (try (with_reducible rfl)))
    simp only [Act.put, List.setIfInBounds_toArray, List.set_cons_zero, List.set_cons_succ]
    refine wpAnyH_take (i := 4) (oi := ?oiC1x5x4) (v := ?vvC1x5x4) ?hiC1x5x4 (by kernel_rfl) (by kernel_rfl) (by kernel_rfl) ?hqC1x5x4 ?hyC1x5x4 hHeld ?_
    case hiC1x5x4 => simp only [List.getElem?_toArray, List.getElem?_cons_succ, List.getElem?_cons_zero]; rfl
    case hqC1x5x4 => exact fun _ _ _ h => h
    case hyC1x5x4 => (refine Or.inl ⟨by rfl, ?_⟩; intro w' hSw; (try dsimp only at hSw); go_simp; (try (with_reducible rfl)))
    simp only [Act.put, List.setIfInBounds_toArray, List.set_cons_zero, List.set_cons_succ]
    refine wpAnyH_take (i := 5) (oi := ?oiC1x6x5) (v := ?vvC1x6x5) ?hiC1x6x5 (by kernel_rfl) (by kernel_rfl) (by kernel_rfl) ?hqC1x6x5 ?hyC1x6x5 hHeld ?_
    case hiC1x6x5 => simp only [List.getElem?_toArray, List.getElem?_cons_succ, List.getElem?_cons_zero]; rfl
    case hqC1x6x5 => exact fun _ _ _ h => h
    case hyC1x6x5 => (refine Or.inl ⟨by rfl, ?_⟩; intro w' hSw; (try dsimp only at hSw); go_simp; (try (with_reducible rfl)))
    simp only [Act.put, List.setIfInBounds_toArray, List.set_cons_zero, List.set_cons_succ]
    refine wpAnyH_take (i := 6) (oi := ?oiC1x7x6) (v := ?vvC1x7x6) ?hiC1x7x6 (by kernel_rfl) (by kernel_rfl) (by kernel_rfl) ?hqC1x7x6 ?hyC1x7x6 hHeld ?_
    case hiC1x7x6 => simp only [List.getElem?_toArray, List.getElem?_cons_succ, List.getElem?_cons_zero]; rfl
    case hqC1x7x6 => exact fun _ _ _ h => h
    case hyC1x7x6 => (refine Or.inl ⟨by rfl, ?_⟩; intro w' hSw; (try dsimp only at hSw); go_simp; (try (with_reducible rfl)))
    simp only [Act.put, List.setIfInBounds_toArray, List.set_cons_zero, List.set_cons_succ]
    refine wpAnyH_take (i := 7) (oi := ?oiC1x8x7) (v := ?vvC1x8x7) ?hiC1x8x7 (by kernel_rfl) (by kernel_rfl) (by kernel_rfl) ?hqC1x8x7 ?hyC1x8x7 hHeld ?_
    case hiC1x8x7 => simp only [List.getElem?_toArray, List.getElem?_cons_succ, List.getElem?_cons_zero]; rfl
    case hqC1x8x7 => exact fun _ _ _ h => h
    case hyC1x8x7 => (refine Or.inl ⟨by rfl, ?_⟩; intro w' hSw; (try dsimp only at hSw); go_simp; (try (with_reducible rfl)))
    simp only [Act.put, List.setIfInBounds_toArray, List.set_cons_zero, List.set_cons_succ]
    refine wpAnyH_take (i := 8) (oi := ?oiC1x9x8) (v := ?vvC1x9x8) ?hiC1x9x8 (by kernel_rfl) (by kernel_rfl) (by kernel_rfl) ?hqC1x9x8 ?hyC1x9x8 hHeld ?_
    case hiC1x9x8 => simp only [List.getElem?_toArray, List.getElem?_cons_succ, List.getElem?_cons_zero]; rfl
    case hqC1x9x8 => exact fun _ _ _ h => h
    case hyC1x9x8 => (refine Or.inl ⟨by rfl, ?_⟩; intro w' hSw; (try dsimp only at hSw); go_simp; (try (with_reducible rfl)))
    simp only [Act.put, List.setIfInBounds_toArray, List.set_cons_zero, List.set_cons_succ]
    refine wpAnyH_take (i := 9) (oi := ?oiC1x10x9) (v := ?vvC1x10x9) ?hiC1x10x9 (by kernel_rfl) (by kernel_rfl) (by kernel_rfl) ?hqC1x10x9 ?hyC1x10x9 hHeld ?_
    case hiC1x10x9 => simp only [List.getElem?_toArray, List.getElem?_cons_succ, List.getElem?_cons_zero]; rfl
    case hqC1x10x9 => exact fun _ _ _ h => h
    case hyC1x10x9 => (refine Or.inl ⟨by rfl, ?_⟩; intro w' hSw; (try dsimp only at hSw); go_simp; (try (with_reducible rfl)))
    simp only [Act.put, List.setIfInBounds_toArray, List.set_cons_zero, List.set_cons_succ]
    refine wpAnyH_take (i := 10) (oi := ?oiC1x11x10) (v := ?vvC1x11x10) ?hiC1x11x10 (by kernel_rfl) (by kernel_rfl) (by kernel_rfl) ?hqC1x11x10 ?hyC1x11x10 hHeld ?_
    case hiC1x11x10 => simp only [List.getElem?_toArray, List.getElem?_cons_succ, List.getElem?_cons_zero]; rfl
    case hqC1x11x10 => exact fun _ _ _ h => h
    case hyC1x11x10 => (refine Or.inl ⟨by rfl, ?_⟩; intro w' hSw; (try dsimp only at hSw); go_simp; (try (with_reducible rfl)))
    simp only [Act.put, List.setIfInBounds_toArray, List.set_cons_zero, List.set_cons_succ]
    refine wpAnyH_take (i := 11) (oi := ?oiC1x12x11) (v := ?vvC1x12x11) ?hiC1x12x11 (by kernel_rfl) (by kernel_rfl) (by kernel_rfl) ?hqC1x12x11 ?hyC1x12x11 hHeld ?_
    case hiC1x12x11 => simp only [List.getElem?_toArray, List.getElem?_cons_succ, List.getElem?_cons_zero]; rfl
    case hqC1x12x11 => exact fun _ _ _ h => h
    case hyC1x12x11 => (refine Or.inl ⟨by rfl, ?_⟩; intro w' hSw; (try dsimp only at hSw); go_simp; (try (with_reducible rfl)))
    simp only [Act.put, List.setIfInBounds_toArray, List.set_cons_zero, List.set_cons_succ]
    refine wpAnyH_take (i := 12) (oi := ?oiC1x13x12) (v := ?vvC1x13x12) ?hiC1x13x12 (by kernel_rfl) (by kernel_rfl) (by kernel_rfl) ?hqC1x13x12 ?hyC1x13x12 hHeld ?_
    case hiC1x13x12 => simp only [List.getElem?_toArray, List.getElem?_cons_succ, List.getElem?_cons_zero]; rfl
    case hqC1x13x12 => exact fun _ _ _ h => h
    case hyC1x13x12 => (refine Or.inl ⟨by rfl, ?_⟩; intro w' hSw; (try dsimp only at hSw); go_simp; (try (with_reducible rfl)))
    simp only [Act.put, List.setIfInBounds_toArray, List.set_cons_zero, List.set_cons_succ]
    refine wpAnyH_take (i := 13) (oi := ?oiC1x14x13) (v := ?vvC1x14x13) ?hiC1x14x13 (by kernel_rfl) (by kernel_rfl) (by kernel_rfl) ?hqC1x14x13 ?hyC1x14x13 hHeld ?_
    case hiC1x14x13 => simp only [List.getElem?_toArray, List.getElem?_cons_succ, List.getElem?_cons_zero]; rfl
    case hqC1x14x13 => exact fun _ _ _ h => h
    case hyC1x14x13 => (refine Or.inl ⟨by rfl, ?_⟩; intro w' hSw; (try dsimp only at hSw); go_simp; (try (with_reducible rfl)))
    simp only [Act.put, List.setIfInBounds_toArray, List.set_cons_zero, List.set_cons_succ]
    refine wpAnyH_take (i := 14) (oi := ?oiC1x15x14) (v := ?vvC1x15x14) ?hiC1x15x14 (by kernel_rfl) (by kernel_rfl) (by kernel_rfl) ?hqC1x15x14 ?hyC1x15x14 hHeld ?_
    case hiC1x15x14 => simp only [List.getElem?_toArray, List.getElem?_cons_succ, List.getElem?_cons_zero]; rfl
    case hqC1x15x14 => exact fun _ _ _ h => h
    case hyC1x15x14 => (refine Or.inl ⟨by rfl, ?_⟩; intro w' hSw; (try dsimp only at hSw); go_simp; (try (with_reducible rfl)))
    simp only [Act.put, List.setIfInBounds_toArray, List.set_cons_zero, List.set_cons_succ]
    refine wpAnyH_take (i := 15) (oi := ?oiC1x16x15) (v := ?vvC1x16x15) ?hiC1x16x15 (by kernel_rfl) (by kernel_rfl) (by kernel_rfl) ?hqC1x16x15 ?hyC1x16x15 hHeld ?_
    case hiC1x16x15 => simp only [List.getElem?_toArray, List.getElem?_cons_succ, List.getElem?_cons_zero]; rfl
    case hqC1x16x15 => exact fun _ _ _ h => h
    case hyC1x16x15 => (refine Or.inl ⟨by rfl, ?_⟩; intro w' hSw; (try dsimp only at hSw); go_simp; (try (with_reducible rfl)))
    simp only [Act.put, List.setIfInBounds_toArray, List.set_cons_zero, List.set_cons_succ]
    refine wpAnyH_take (i := 16) (oi := ?oiC1x17x16) (v := ?vvC1x17x16) ?hiC1x17x16 (by kernel_rfl) (by kernel_rfl) (by kernel_rfl) ?hqC1x17x16 ?hyC1x17x16 hHeld ?_
    case hiC1x17x16 => simp only [List.getElem?_toArray, List.getElem?_cons_succ, List.getElem?_cons_zero]; rfl
    case hqC1x17x16 => exact fun _ _ _ h => h
    case hyC1x17x16 => (refine Or.inl ⟨by rfl, ?_⟩; intro w' hSw; (try dsimp only at hSw); go_simp; (try (with_reducible rfl)))
    simp only [Act.put, List.setIfInBounds_toArray, List.set_cons_zero, List.set_cons_succ]
    refine wpAnyH_take (i := 17) (oi := ?oiC1x18x17) (v := ?vvC1x18x17) ?hiC1x18x17 (by kernel_rfl) (by kernel_rfl) (by kernel_rfl) ?hqC1x18x17 ?hyC1x18x17 hHeld ?_
    case hiC1x18x17 => simp only [List.getElem?_toArray, List.getElem?_cons_succ, List.getElem?_cons_zero]; rfl
    case hqC1x18x17 => exact fun _ _ _ h => h
    case hyC1x18x17 => (refine Or.inl ⟨by rfl, ?_⟩; intro w' hSw; (try dsimp only at hSw); go_simp; (try (with_reducible rfl)))
    simp only [Act.put, List.setIfInBounds_toArray, List.set_cons_zero, List.set_cons_succ]
    refine wpAnyH_take (i := 18) (oi := ?oiC1x19x18) (v := ?vvC1x19x18) ?hiC1x19x18 (by kernel_rfl) (by kernel_rfl) (by kernel_rfl) ?hqC1x19x18 ?hyC1x19x18 hHeld ?_
    case hiC1x19x18 => simp only [List.getElem?_toArray, List.getElem?_cons_succ, List.getElem?_cons_zero]; rfl
    case hqC1x19x18 => exact fun _ _ _ h => h
    case hyC1x19x18 => (refine Or.inl ⟨by rfl, ?_⟩; intro w' hSw; (try dsimp only at hSw); go_simp; (try (with_reducible rfl)))
    simp only [Act.put, List.setIfInBounds_toArray, List.set_cons_zero, List.set_cons_succ]
    refine wpAnyH_take (i := 19) (oi := ?oiC1x20x19) (v := ?vvC1x20x19) ?hiC1x20x19 (by kernel_rfl) (by kernel_rfl) (by kernel_rfl) ?hqC1x20x19 ?hyC1x20x19 hHeld ?_
    case hiC1x20x19 => simp only [List.getElem?_toArray, List.getElem?_cons_succ, List.getElem?_cons_zero]; rfl
    case hqC1x20x19 => exact fun _ _ _ h => h
    case hyC1x20x19 => (refine Or.inl ⟨by rfl, ?_⟩; intro w' hSw; (try dsimp only at hSw); go_simp; (try (with_reducible rfl)))
    simp only [Act.put, List.setIfInBounds_toArray, List.set_cons_zero, List.set_cons_succ]
    refine wpAnyH_take (i := 20) (oi := ?oiC1x21x20) (v := ?vvC1x21x20) ?hiC1x21x20 (by kernel_rfl) (by kernel_rfl) (by kernel_rfl) ?hqC1x21x20 ?hyC1x21x20 hHeld ?_
    case hiC1x21x20 => simp only [List.getElem?_toArray, List.getElem?_cons_succ, List.getElem?_cons_zero]; rfl
    case hqC1x21x20 => exact fun _ _ _ h => h
    case hyC1x21x20 => (refine Or.inl ⟨by rfl, ?_⟩; intro w' hSw; (try dsimp only at hSw); go_simp; (try (with_reducible rfl)))
    simp only [Act.put, List.setIfInBounds_toArray, List.set_cons_zero, List.set_cons_succ]
    refine wpAnyH_take (i := 21) (oi := ?oiC1x22x21) (v := ?vvC1x22x21) ?hiC1x22x21 (by kernel_rfl) (by kernel_rfl) (by kernel_rfl) ?hqC1x22x21 ?hyC1x22x21 hHeld ?_
    case hiC1x22x21 => simp only [List.getElem?_toArray, List.getElem?_cons_succ, List.getElem?_cons_zero]; rfl
    case hqC1x22x21 => exact fun _ _ _ h => h
    case hyC1x22x21 => (refine Or.inl ⟨by rfl, ?_⟩; intro w' hSw; (try dsimp only at hSw); go_simp; (try (with_reducible rfl)))
    simp only [Act.put, List.setIfInBounds_toArray, List.set_cons_zero, List.set_cons_succ]
    refine wpAnyH_take (i := 22) (oi := ?oiC1x23x22) (v := ?vvC1x23x22) ?hiC1x23x22 (by kernel_rfl) (by kernel_rfl) (by kernel_rfl) ?hqC1x23x22 ?hyC1x23x22 hHeld ?_
    case hiC1x23x22 => simp only [List.getElem?_toArray, List.getElem?_cons_succ, List.getElem?_cons_zero]; rfl
    case hqC1x23x22 => exact fun _ _ _ h => h
    case hyC1x23x22 => (refine Or.inl ⟨by rfl, ?_⟩; intro w' hSw; (try dsimp only at hSw); go_simp; (try (with_reducible rfl)))
    simp only [Act.put, List.setIfInBounds_toArray, List.set_cons_zero, List.set_cons_succ]
    refine wpAnyH_take (i := 23) (oi := ?oiC1x24x23) (v := ?vvC1x24x23) ?hiC1x24x23 (by kernel_rfl) (by kernel_rfl) (by kernel_rfl) ?hqC1x24x23 ?hyC1x24x23 hHeld ?_
    case hiC1x24x23 => simp only [List.getElem?_toArray, List.getElem?_cons_succ, List.getElem?_cons_zero]; rfl
    case hqC1x24x23 => exact fun _ _ _ h => h
    case hyC1x24x23 => (refine Or.inl ⟨by rfl, ?_⟩; intro w' hSw; (try dsimp only at hSw); go_simp; (try (with_reducible rfl)))
    simp only [Act.put, List.setIfInBounds_toArray, List.set_cons_zero, List.set_cons_succ]
    refine wpAnyH_take (i := 24) (oi := ?oiC1x25x24) (v := ?vvC1x25x24) ?hiC1x25x24 (by kernel_rfl) (by kernel_rfl) (by kernel_rfl) ?hqC1x25x24 ?hyC1x25x24 hHeld ?_
    case hiC1x25x24 => simp only [List.getElem?_toArray, List.getElem?_cons_succ, List.getElem?_cons_zero]; rfl
    case hqC1x25x24 => exact fun _ _ _ h => h
    case hyC1x25x24 => (refine Or.inl ⟨by rfl, ?_⟩; intro w' hSw; (try dsimp only at hSw); go_simp; (try (with_reducible rfl)))
    simp only [Act.put, List.setIfInBounds_toArray, List.set_cons_zero, List.set_cons_succ]
    refine wpAnyH_done (by kernel_rfl) ?_ _
    clear hHeld
    go_wp2_with fail
    refine (HLO.out _ (by repeat (first | with_reducible exact Below.refl _ _ | assumption | with_reducible refine bel_alloc ?_ _ | with_reducible refine Below.drew ?_ | with_reducible refine bel_drewN ?_ _ | with_reducible refine bel_set ?_ (by go_light; first | (simp; done) | (simp; omega) | omega) _ | refine bel_trans ?_ (by assumption)))).mono ?_
    rintro e w2 ⟨pv, rfl, ⟨pa, pc, rfl, hp⟩, hb2, hfar⟩
    dsimp only
    clear hp hfar
    go_wp2
    go_ret
    exact ⟨rfl, (by repeat (first | with_reducible exact Below.refl _ _ | assumption | with_reducible refine bel_alloc ?_ _ | with_reducible refine Below.drew ?_ | with_reducible refine bel_drewN ?_ _ | with_reducible refine bel_set ?_ (by go_light; first | (simp; done) | (simp; omega) | omega) _ | refine bel_trans ?_ (by assumption)))⟩

set_option maxHeartbeats 4000000 in
theorem add_ok (base tb bm n : Nat) (sv : Value) (prs : List (Value × Shp)) (T : Tab) (nm : ByteArray) (fv : Value) (fields : List Fd) (w : World) (h : TabOwn w base tb bm n sv prs T) (hG : GoodT T) (hf : FdAt w fv fields) (hfs : FdS fields) (hs : nm.size ≤ 281474976710656) (hlen : (T.shapes.length + 1) * 40 ≤ 140737488355328)
    (hgood : (!(nameS nm) || (!((ixOf T.names nm).getD 0 == T.shapes.length) || fields.length == 0)) = false) (he : (layR T fields).2 = 0) (hbase : base ≤ w.heap.size) :
    Calls Tryd.prog 24 #[.pointer (some ⟨tb, 0, none⟩), .agg #[.string nm, fv]] w (retAd base tb bm n prs T fields 0 w) := by
  unfold retAd
  obtain ⟨fa, fc, rfl, hfl, hfc⟩ := hf
  have HFD : Hid (∀ w', Below w.heap.size w w' → FdAt w' (.slice fa fields.length fc) fields) := fun w' hb => FdAt.keep ⟨fa, fc, rfl, hfl, hfc⟩ hb
  have HLO : Hid (∀ w', Below w.heap.size w w' → Calls Tryd.prog 41 #[.pointer (some ⟨tb, 0, none⟩), .slice fa fields.length fc] w' (retLa (layR T fields).1 (layR T fields).2 w')) := fun w' hb => layOut_any tb T _ fields w' (h.at.keep hb) hG (HFD.out w' hb) hfs
  obtain ⟨fl, hfe⟩ : ∃ fl, fields.length = fl := ⟨_, rfl⟩
  rw [hfe] at hgood hfl HLO ⊢
  clear hfc hfe HFD
  have hsl : ∃ sa sc, sv = .slice sa T.shapes.length sc := by
    obtain ⟨a', c', e⟩ := owns_shape h.own
    exact ⟨a', c', by rw [e, ← h.all, List.length_map]⟩
  obtain ⟨sa, sc, rfl⟩ := hsl
  have hpl : prs.length = T.shapes.length := by rw [← h.all, List.length_map]
  obtain ⟨sl, hsl⟩ : ∃ sl, T.shapes.length = sl := ⟨_, rfl⟩
  rw [hsl] at hgood h hpl hlen
  clear hsl
  obtain ⟨j, hj⟩ : ∃ j, (ixOf T.names nm).getD 0 = j := ⟨_, rfl⟩
  have HN : Hid (∀ w, Calls Tryd.prog 40 #[.string nm] w fun e w' => e = .returned (.bool (nameS nm)) ∧ w' = w) := fun w => isName_any nm (by omega) w
  obtain ⟨jj, hjj⟩ : ∃ jj : Int, (j : Int) = jj := ⟨_, rfl⟩
  have HS1 : Hid ((fun w' => w'.cell? ⟨w.heap.size, 0, none⟩ = some (.string nm) ∧ w'.cell? ⟨w.heap.size, 1, none⟩ = some (.slice fa fl fc) ∧ w'.cell? ⟨tb, 0, none⟩ = some (.map (some bm)) ∧ w'.cell? ⟨tb, 1, none⟩ = some (.slice sa sl sc) ∧ (Instr.lookup 58 (.map (some bm)) (.string nm) false).run Tryd.prog w' = .ok (.int .i64 jj) w') (w.alloc (.cells #[.string nm, .slice fa fl fc] 40)).drew) := by
    have hb := bel_new w (.cells #[.string nm, .slice fa fl fc] 40)
    refine ⟨heap_cell (heap_new w _) (by rfl), heap_cell (heap_new w _) (by rfl), keep_cell hb (heap_cell h.row (by rfl)), keep_cell hb (heap_cell h.row (by rfl)), ?_⟩
    have := (h.map.keep (Below.drew hb)).look1 (s := nm) (by unfold maxLen; omega)
    rw [hj, hjj] at this
    exact this
  rw [hj] at hgood
  have HW : Hid (TabOwn w base tb bm n (Value.slice sa sl sc) prs T) := h
  have HPL : Hid (prs.length = sl ∧ (sl + 1) * 40 ≤ 140737488355328) := ⟨hpl, hlen⟩
  clear h hj hpl hlen hG hfs
  simp only [Bool.or_eq_false_iff, Bool.not_eq_false', beq_iff_eq, beq_eq_false_iff_ne] at hgood
  obtain ⟨hg1, hg2, hg3⟩ := hgood
  rw [hg1] at HN
  have hq : (jj == (sl : Int)) = true := by simp; omega
  have hq2 : (jj != (sl : Int)) = false := by simp; omega
  have hq3 : ((fl : Int) == 0) = false := by simp; omega
  clear hg1 hg2 hg3 hjj
  generalize layR T fields = lr at *
  obtain ⟨x, err⟩ := lr
  dsimp only at *
  subst he
  obtain ⟨i0, hi, hz0, hz1, hz2⟩ := info_parts infoSh
  have HI : Hid (Tryd.prog.info? 71 = some i0 ∧ i0.zero = some (.agg #[.slice none 0 0, .int .i64 0, .int .i64 0]) ∧ i0.size = 3 ∧ i0.bytes = 40) := ⟨hi, hz0, hz1, hz2⟩
  clear hi hz0 hz1 hz2
  go_enter Tryd.func24, Tryd.ntmps24
  go_wp2_with fail
  refine wp_region_held_drew (S := (fun w' => w'.cell? ⟨w.heap.size, 0, none⟩ = some (.string nm) ∧ w'.cell? ⟨w.heap.size, 1, none⟩ = some (.slice fa fl fc) ∧ w'.cell? ⟨tb, 0, none⟩ = some (.map (some bm)) ∧ w'.cell? ⟨tb, 1, none⟩ = some (.slice sa sl sc) ∧ (Instr.lookup 58 (.map (some bm)) (.string nm) false).run Tryd.prog w' = .ok (.int .i64 jj) w')) (by kernel_rfl) (HS1.out) (fun hHeld => ?_)
  refine wpAnyH_take (i := 0) (oi := ?oiC2x1x0) (v := ?vvC2x1x0) ?hiC2x1x0 (by kernel_rfl) (by kernel_rfl) (by kernel_rfl) ?hqC2x1x0 ?hyC2x1x0 hHeld ?_
  case hiC2x1x0 => simp only [List.getElem?_toArray, List.getElem?_cons_succ, List.getElem?_cons_zero]; rfl
  case hqC2x1x0 => exact fun _ _ _ h => h
  case hyC2x1x0 => (refine Or.inl ⟨by rfl, ?_⟩; intro w' hSw; (try dsimp only at hSw); go_simp; (try (with_reducible rfl)))
  simp only [Act.put, List.setIfInBounds_toArray, List.set_cons_zero, List.set_cons_succ]
  refine wpAnyH_take (i := 1) (oi := ?oiC2x2x1) (v := ?vvC2x2x1) ?hiC2x2x1 (by kernel_rfl) (by kernel_rfl) (by kernel_rfl) ?hqC2x2x1 ?hyC2x2x1 hHeld ?_
  case hiC2x2x1 => simp only [List.getElem?_toArray, List.getElem?_cons_succ, List.getElem?_cons_zero]; rfl
  case hqC2x2x1 => exact fun _ _ _ h => h
  case hyC2x2x1 => (refine Or.inl ⟨by rfl, ?_⟩; intro w' hSw; (try dsimp only at hSw); go_simp; (try (with_reducible rfl)))
  simp only [Act.put, List.setIfInBounds_toArray, List.set_cons_zero, List.set_cons_succ]
  refine wpAnyH_ready (rs := [2]) (by kernel_rfl) (by simp) ?_
  refine (AllReadyH.cons (o := ?oiC2x3x2) ?hiC2x3x2 (fun K hK => ?gC2x3x2) AllReadyH.nil)
  case hiC2x3x2 => simp only [List.getElem?_toArray, List.getElem?_cons_succ, List.getElem?_cons_zero]; rfl
  case gC2x3x2 =>
    go_simp
    refine (HN.out _).mono ?_
    rintro e v2 ⟨rfl, hw⟩
    replace hw := hw.symm
    subst hw
    go_wp2_with fail
    refine hK.out _ _ (hHeld) (fun hN => ?_)
    clear hK K hHeld
    have hHeld := hN
    clear hN
    try simp only [Act.put, List.setIfInBounds_toArray, List.set_cons_zero, List.set_cons_succ]
    refine wpAnyH_take (i := 3) (oi := ?oiC2x4x3) (v := ?vvC2x4x3) ?hiC2x4x3 (by kernel_rfl) (by kernel_rfl) (by kernel_rfl) ?hqC2x4x3 ?hyC2x4x3 hHeld ?_
    case hiC2x4x3 => simp only [List.getElem?_toArray, List.getElem?_cons_succ, List.getElem?_cons_zero]; rfl
    case hqC2x4x3 => exact fun _ _ _ h => h
    case hyC2x4x3 => (refine Or.inl ⟨by rfl, ?_⟩; intro w' hSw; (try dsimp only at hSw); go_simp; (try (with_reducible rfl)))
    simp only [Act.put, List.setIfInBounds_toArray, List.set_cons_zero, List.set_cons_succ]
    refine wpAnyH_take (i := 4) (oi := ?oiC2x5x4) (v := ?vvC2x5x4) ?hiC2x5x4 (by kernel_rfl) (by kernel_rfl) (by kernel_rfl) ?hqC2x5x4 ?hyC2x5x4 hHeld ?_
    case hiC2x5x4 => simp only [List.getElem?_toArray, List.getElem?_cons_succ, List.getElem?_cons_zero]; rfl
    case hqC2x5x4 => exact fun _ _ _ h => h
    case hyC2x5x4 => (refine Or.inl ⟨by rfl, ?_⟩; intro w' hSw; (try dsimp only at hSw); go_simp; (try (with_reducible rfl)))
    simp only [Act.put, List.setIfInBounds_toArray, List.set_cons_zero, List.set_cons_succ]
    refine wpAnyH_take (i := 5) (oi := ?oiC2x6x5) (v := ?vvC2x6x5) ?hiC2x6x5 (by kernel_rfl) (by kernel_rfl) (by kernel_rfl) ?hqC2x6x5 ?hyC2x6x5 hHeld ?_
    case hiC2x6x5 => simp only [List.getElem?_toArray, List.getElem?_cons_succ, List.getElem?_cons_zero]; rfl
    case hqC2x6x5 => exact fun _ _ _ h => h
    case hyC2x6x5 => (refine Or.inl ⟨by rfl, ?_⟩; intro w' hSw; (try dsimp only at hSw); go_simp; (try (with_reducible rfl)))
    simp only [Act.put, List.setIfInBounds_toArray, List.set_cons_zero, List.set_cons_succ]
    refine wpAnyH_take (i := 6) (oi := ?oiC2x7x6) (v := ?vvC2x7x6) ?hiC2x7x6 (by kernel_rfl) (by kernel_rfl) (by kernel_rfl) ?hqC2x7x6 ?hyC2x7x6 hHeld ?_
    case hiC2x7x6 => simp only [List.getElem?_toArray, List.getElem?_cons_succ, List.getElem?_cons_zero]; rfl
    case hqC2x7x6 => exact fun _ _ _ h => h
    case hyC2x7x6 => (refine Or.inl ⟨by rfl, ?_⟩; intro w' hSw; (try dsimp only at hSw); go_simp; (try (with_reducible rfl)))
    simp only [Act.put, List.setIfInBounds_toArray, List.set_cons_zero, List.set_cons_succ]
    refine wpAnyH_take (i := 7) (oi := ?oiC2x8x7) (v := ?vvC2x8x7) ?hiC2x8x7 (by kernel_rfl) (by kernel_rfl) (by kernel_rfl) ?hqC2x8x7 ?hyC2x8x7 hHeld ?_
    case hiC2x8x7 => simp only [List.getElem?_toArray, List.getElem?_cons_succ, List.getElem?_cons_zero]; rfl
    case hqC2x8x7 => exact fun _ _ _ h => h
    case hyC2x8x7 => (refine Or.inl ⟨by rfl, ?_⟩; intro w' hSw; (try dsimp only at hSw); go_simp; (try (with_reducible rfl)))
    simp only [Act.put, List.setIfInBounds_toArray, List.set_cons_zero, List.set_cons_succ]
    refine wpAnyH_take (i := 8) (oi := ?oiC2x9x8) (v := ?vvC2x9x8) ?hiC2x9x8 (by kernel_rfl) (by kernel_rfl) (by kernel_rfl) ?hqC2x9x8 ?hyC2x9x8 hHeld ?_
    case hiC2x9x8 => simp only [List.getElem?_toArray, List.getElem?_cons_succ, List.getElem?_cons_zero]; rfl
    case hqC2x9x8 => exact fun _ _ _ h => h
    case hyC2x9x8 => (refine Or.inl ⟨by rfl, ?_⟩; intro w' hSw; (try dsimp only at hSw); go_simp; (try (with_reducible rfl)))
    simp only [Act.put, List.setIfInBounds_toArray, List.set_cons_zero, List.set_cons_succ]
    refine wpAnyH_take (i := 9) (oi := ?oiC2x10x9) (v := ?vvC2x10x9) ?hiC2x10x9 (by kernel_rfl) (by kernel_rfl) (by kernel_rfl) ?hqC2x10x9 ?hyC2x10x9 hHeld ?_
    case hiC2x10x9 => simp only [List.getElem?_toArray, List.getElem?_cons_succ, List.getElem?_cons_zero]; rfl
    case hqC2x10x9 => exact fun _ _ _ h => h
    case hyC2x10x9 => (refine Or.inl ⟨by rfl, ?_⟩; intro w' hSw; (try dsimp only at hSw); go_simp; (try (with_reducible rfl)))
    simp only [Act.put, List.setIfInBounds_toArray, List.set_cons_zero, List.set_cons_succ]
    refine wpAnyH_take (i := 10) (oi := ?oiC2x11x10) (v := ?vvC2x11x10) ?hiC2x11x10 (by kernel_rfl) (by kernel_rfl) (by kernel_rfl) ?hqC2x11x10 ?hyC2x11x10 hHeld ?_
    case hiC2x11x10 => simp only [List.getElem?_toArray, List.getElem?_cons_succ, List.getElem?_cons_zero]; rfl
    case hqC2x11x10 => exact fun _ _ _ h => h
    case hyC2x11x10 => (refine Or.inl ⟨by rfl, ?_⟩; intro w' hSw; (try dsimp only at hSw); go_simp; (try (with_reducible rfl)))
    simp only [Act.put, List.setIfInBounds_toArray, List.set_cons_zero, List.set_cons_succ]
    refine wpAnyH_take (i := 11) (oi := ?oiC2x12x11) (v := ?vvC2x12x11) ?hiC2x12x11 (by kernel_rfl) (by kernel_rfl) (by kernel_rfl) ?hqC2x12x11 ?hyC2x12x11 hHeld ?_
    case hiC2x12x11 => simp only [List.getElem?_toArray, List.getElem?_cons_succ, List.getElem?_cons_zero]; rfl
    case hqC2x12x11 => exact fun _ _ _ h => h
    case hyC2x12x11 => (refine Or.inl ⟨by rfl, ?_⟩; intro w' hSw; (try dsimp only at hSw); go_simp; (try (with_reducible rfl)))
    simp only [Act.put, List.setIfInBounds_toArray, List.set_cons_zero, List.set_cons_succ]
    refine wpAnyH_take (i := 12) (oi := ?oiC2x13x12) (v := ?vvC2x13x12) ?hiC2x13x12 (by kernel_rfl) (by kernel_rfl) (by kernel_rfl) ?hqC2x13x12 ?hyC2x13x12 hHeld ?_
    case hiC2x13x12 => simp only [List.getElem?_toArray, List.getElem?_cons_succ, List.getElem?_cons_zero]; rfl
    case hqC2x13x12 => exact fun _ _ _ h => h
    case hyC2x13x12 => (refine Or.inl ⟨by rfl, ?_⟩; intro w' hSw; (try dsimp only at hSw); go_simp; (try (with_reducible rfl)))
    simp only [Act.put, List.setIfInBounds_toArray, List.set_cons_zero, List.set_cons_succ]
    refine wpAnyH_take (i := 13) (oi := ?oiC2x14x13) (v := ?vvC2x14x13) ?hiC2x14x13 (by kernel_rfl) (by kernel_rfl) (by kernel_rfl) ?hqC2x14x13 ?hyC2x14x13 hHeld ?_
    case hiC2x14x13 => simp only [List.getElem?_toArray, List.getElem?_cons_succ, List.getElem?_cons_zero]; rfl
    case hqC2x14x13 => exact fun _ _ _ h => h
    case hyC2x14x13 => (refine Or.inl ⟨by rfl, ?_⟩; intro w' hSw; (try dsimp only at hSw); go_simp; (try (with_reducible rfl)))
    simp only [Act.put, List.setIfInBounds_toArray, List.set_cons_zero, List.set_cons_succ]
    refine wpAnyH_take (i := 14) (oi := ?oiC2x15x14) (v := ?vvC2x15x14) ?hiC2x15x14 (by kernel_rfl) (by kernel_rfl) (by kernel_rfl) ?hqC2x15x14 ?hyC2x15x14 hHeld ?_
    case hiC2x15x14 => simp only [List.getElem?_toArray, List.getElem?_cons_succ, List.getElem?_cons_zero]; rfl
    case hqC2x15x14 => exact fun _ _ _ h => h
    case hyC2x15x14 => (refine Or.inl ⟨by rfl, ?_⟩; intro w' hSw; (try dsimp only at hSw); go_simp; (try (with_reducible rfl)))
    simp only [Act.put, List.setIfInBounds_toArray, List.set_cons_zero, List.set_cons_succ]
    refine wpAnyH_take (i := 15) (oi := ?oiC2x16x15) (v := ?vvC2x16x15) ?hiC2x16x15 (by kernel_rfl) (by kernel_rfl) (by kernel_rfl) ?hqC2x16x15 ?hyC2x16x15 hHeld ?_
    case hiC2x16x15 => simp only [List.getElem?_toArray, List.getElem?_cons_succ, List.getElem?_cons_zero]; rfl
    case hqC2x16x15 => exact fun _ _ _ h => h
    case hyC2x16x15 => (refine Or.inl ⟨by rfl, ?_⟩; intro w' hSw; (try dsimp only at hSw); go_simp; (try (with_reducible rfl)))
    simp only [Act.put, List.setIfInBounds_toArray, List.set_cons_zero, List.set_cons_succ]
    refine wpAnyH_take (i := 16) (oi := ?oiC2x17x16) (v := ?vvC2x17x16) ?hiC2x17x16 (by kernel_rfl) (by kernel_rfl) (by kernel_rfl) ?hqC2x17x16 ?hyC2x17x16 hHeld ?_
    case hiC2x17x16 => simp only [List.getElem?_toArray, List.getElem?_cons_succ, List.getElem?_cons_zero]; rfl
    case hqC2x17x16 => exact fun _ _ _ h => h
    case hyC2x17x16 => (refine Or.inl ⟨by rfl, ?_⟩; intro w' hSw; (try dsimp only at hSw); go_simp; (try (with_reducible rfl)))
    simp only [Act.put, List.setIfInBounds_toArray, List.set_cons_zero, List.set_cons_succ]
    refine wpAnyH_take (i := 17) (oi := ?oiC2x18x17) (v := ?vvC2x18x17) ?hiC2x18x17 (by kernel_rfl) (by kernel_rfl) (by kernel_rfl) ?hqC2x18x17 ?hyC2x18x17 hHeld ?_
    case hiC2x18x17 => simp only [List.getElem?_toArray, List.getElem?_cons_succ, List.getElem?_cons_zero]; rfl
    case hqC2x18x17 => exact fun _ _ _ h => h
    case hyC2x18x17 => (refine Or.inl ⟨by rfl, ?_⟩; intro w' hSw; (try dsimp only at hSw); go_simp; (try (with_reducible rfl)))
    simp only [Act.put, List.setIfInBounds_toArray, List.set_cons_zero, List.set_cons_succ]
    refine wpAnyH_take (i := 18) (oi := ?oiC2x19x18) (v := ?vvC2x19x18) ?hiC2x19x18 (by kernel_rfl) (by kernel_rfl) (by kernel_rfl) ?hqC2x19x18 ?hyC2x19x18 hHeld ?_
    case hiC2x19x18 => simp only [List.getElem?_toArray, List.getElem?_cons_succ, List.getElem?_cons_zero]; rfl
    case hqC2x19x18 => exact fun _ _ _ h => h
    case hyC2x19x18 => (refine Or.inl ⟨by rfl, ?_⟩; intro w' hSw; (try dsimp only at hSw); go_simp; (try (with_reducible rfl)))
    simp only [Act.put, List.setIfInBounds_toArray, List.set_cons_zero, List.set_cons_succ]
    refine wpAnyH_take (i := 19) (oi := ?oiC2x20x19) (v := ?vvC2x20x19) ?hiC2x20x19 (by kernel_rfl) (by kernel_rfl) (by kernel_rfl) ?hqC2x20x19 ?hyC2x20x19 hHeld ?_
    case hiC2x20x19 => simp only [List.getElem?_toArray, List.getElem?_cons_succ, List.getElem?_cons_zero]; rfl
    case hqC2x20x19 => exact fun _ _ _ h => h
    case hyC2x20x19 => (refine Or.inl ⟨by rfl, ?_⟩; intro w' hSw; (try dsimp only at hSw); go_simp; (try (with_reducible rfl)))
    simp only [Act.put, List.setIfInBounds_toArray, List.set_cons_zero, List.set_cons_succ]
    refine wpAnyH_take (i := 20) (oi := ?oiC2x21x20) (v := ?vvC2x21x20) ?hiC2x21x20 (by kernel_rfl) (by kernel_rfl) (by kernel_rfl) ?hqC2x21x20 ?hyC2x21x20 hHeld ?_
    case hiC2x21x20 => simp only [List.getElem?_toArray, List.getElem?_cons_succ, List.getElem?_cons_zero]; rfl
    case hqC2x21x20 => exact fun _ _ _ h => h
    case hyC2x21x20 => (refine Or.inl ⟨by rfl, ?_⟩; intro w' hSw; (try dsimp only at hSw); go_simp; (try (with_reducible rfl)))
    simp only [Act.put, List.setIfInBounds_toArray, List.set_cons_zero, List.set_cons_succ]
    refine wpAnyH_take (i := 21) (oi := ?oiC2x22x21) (v := ?vvC2x22x21) ?hiC2x22x21 (by kernel_rfl) (by kernel_rfl) (by kernel_rfl) ?hqC2x22x21 ?hyC2x22x21 hHeld ?_
    case hiC2x22x21 => simp only [List.getElem?_toArray, List.getElem?_cons_succ, List.getElem?_cons_zero]; rfl
    case hqC2x22x21 => exact fun _ _ _ h => h
    case hyC2x22x21 => (refine Or.inl ⟨by rfl, ?_⟩; intro w' hSw; (try dsimp only at hSw); go_simp; (try (with_reducible rfl)))
    simp only [Act.put, List.setIfInBounds_toArray, List.set_cons_zero, List.set_cons_succ]
    refine wpAnyH_take (i := 22) (oi := ?oiC2x23x22) (v := ?vvC2x23x22) ?hiC2x23x22 (by kernel_rfl) (by kernel_rfl) (by kernel_rfl) ?hqC2x23x22 ?hyC2x23x22 hHeld ?_
    case hiC2x23x22 => simp only [List.getElem?_toArray, List.getElem?_cons_succ, List.getElem?_cons_zero]; rfl
    case hqC2x23x22 => exact fun _ _ _ h => h
    case hyC2x23x22 => (refine Or.inl ⟨by rfl, ?_⟩; intro w' hSw; (try dsimp only at hSw); go_simp; (try (with_reducible rfl)))
    simp only [Act.put, List.setIfInBounds_toArray, List.set_cons_zero, List.set_cons_succ]
    refine wpAnyH_take (i := 23) (oi := ?oiC2x24x23) (v := ?vvC2x24x23) ?hiC2x24x23 (by kernel_rfl) (by kernel_rfl) (by kernel_rfl) ?hqC2x24x23 ?hyC2x24x23 hHeld ?_
    case hiC2x24x23 => simp only [List.getElem?_toArray, List.getElem?_cons_succ, List.getElem?_cons_zero]; rfl
    case hqC2x24x23 => exact fun _ _ _ h => h
    case hyC2x24x23 => (refine Or.inl ⟨by rfl, ?_⟩; intro w' hSw; (try dsimp only at hSw); go_simp; (try (with_reducible rfl)))
    simp only [Act.put, List.setIfInBounds_toArray, List.set_cons_zero, List.set_cons_succ]
    refine wpAnyH_take (i := 24) (oi := ?oiC2x25x24) (v := ?vvC2x25x24) ?hiC2x25x24 (by kernel_rfl) (by kernel_rfl) (by kernel_rfl) ?hqC2x25x24 ?hyC2x25x24 hHeld ?_
    case hiC2x25x24 => simp only [List.getElem?_toArray, List.getElem?_cons_succ, List.getElem?_cons_zero]; rfl
    case hqC2x25x24 => exact fun _ _ _ h => h
    case hyC2x25x24 => (refine Or.inl ⟨by rfl, ?_⟩; intro w' hSw; (try dsimp only at hSw); go_simp; (try (with_reducible rfl)))
    simp only [Act.put, List.setIfInBounds_toArray, List.set_cons_zero, List.set_cons_succ]
    refine wpAnyH_done (by kernel_rfl) ?_ _
    clear hHeld
    go_wp2_with fail
    refine (HLO.out _ (by repeat (first | with_reducible exact Below.refl _ _ | assumption | with_reducible refine bel_alloc ?_ _ | with_reducible refine Below.drew ?_ | with_reducible refine bel_drewN ?_ _ | with_reducible refine bel_set ?_ (by go_light; first | (simp; done) | (simp; omega) | omega) _ | refine bel_trans ?_ (by assumption)))).mono ?_
    rintro e w2 ⟨pv, rfl, ⟨pa, pc, rfl, hp⟩, hb2, hfar⟩
    dsimp only
    have HPL2 : Hid (PlsAt w2 (.slice pa x.places.length pc) x.places) := ⟨pa, pc, rfl, hp⟩
    have HB2 : Hid (Below w.heap.size w w2 ∧ ∀ b, (Value.slice pa x.places.length pc).ownBlock = some b → w.heap.size < b ∧ b < w2.heap.size) := ⟨(by repeat (first | with_reducible exact Below.refl _ _ | assumption | with_reducible refine bel_alloc ?_ _ | with_reducible refine Below.drew ?_ | with_reducible refine bel_drewN ?_ _ | with_reducible refine bel_set ?_ (by go_light; first | (simp; done) | (simp; omega) | omega) _ | refine bel_trans ?_ (by assumption))), fun b hb => by have := hfar b hb; simp at this; omega⟩
    clear hp hb2 hfar HLO HS1
    go_wp2_with fail
    obtain ⟨W0, hW0⟩ : ∃ W0, W0 = w2.alloc (.cells #[.slice pa x.places.length pc, .int .i64 x.size, .int .i64 x.align] 71) := ⟨_, rfl⟩
    rw [← hW0]
    have HW0 : Hid (Below w.heap.size w W0 ∧ W0.heap.size = w2.heap.size + 1 ∧ W0.heap[w2.heap.size]? = some (.cells #[.slice pa x.places.length pc, .int .i64 x.size, .int .i64 x.align] 71 (0, 0))) := by rw [hW0]; exact ⟨bel_trans HB2.out.1 (bel_new w2 _), by simp, heap_new w2 _⟩
    have HP0 : Hid (PlsAt W0 (.slice pa x.places.length pc) x.places) := by rw [hW0]; exact HPL2.out.keep (bel_new w2 _)
    have HFB : Hid (∀ b, (Value.slice pa x.places.length pc).ownBlock = some b → w.heap.size < b ∧ b < W0.heap.size) := fun b hb => by have h1 := HB2.out.2 b hb; have h2 := HW0.out.2.1; omega
    clear hW0
    have htb : tb < w.heap.size := (Array.getElem?_eq_some_iff.1 HW.out.row).1
    have hsz : w.heap.size ≤ W0.heap.size := HW0.out.1.size
    have C0 : Hid ((W0.drew).cell? ⟨tb, 1, none⟩ = some (Value.slice sa sl sc)) := (keep_cell HW0.out.1 (heap_cell HW.out.row (by rfl)) : W0.cell? _ = _)
    have x0 : W0.cell? ⟨tb, 1, none⟩ = some (.slice sa sl sc) := C0.out
    have x1 : ∀ o, (W0.alloc o).cell? ⟨tb, 1, none⟩ = some (.slice sa sl sc) := fun o => keep_alloc x0 o
    have HNE : Hid (w2.heap.size ≠ tb) := by show _ ≠ _; have := HB2.out.1.size; omega
    have H1 : Hid (∀ u1 ∈ ([.slice pa x.places.length pc, .int .i64 x.size, .int .i64 x.align] : List Value), u1.oneCell' = true) := by (have h : ∀ u1 ∈ ([.slice pa x.places.length pc, .int .i64 x.size, .int .i64 x.align] : List Value), u1.oneCell' = true := by intro u1 hu; simp at hu; rcases hu with rfl | rfl | rfl <;> rfl); exact h
    have HOW : Hid ((W0.drew.alloc (.cells ([.slice pa x.places.length pc, .int .i64 x.size, .int .i64 x.align] : List Value).toArray 71)).ownsRow base 71 3 (Value.slice sa sl sc) sl (flat3 shV prs)) := owns_of_heap (HPL.out.1 ▸ HW.out.own) (fun b hb => (Below.heap_alloc W0.drew _ b (by have := (row_lt HW.out.own hb).1; show b < W0.heap.size; omega)).trans (HW0.out.1.block b (row_lt HW.out.own hb).1))
    have HSZ : Hid (sl + 1 ≤ maxLen ∧ (sl + 1) * 40 ≤ 140737488355328 ∧ base ≤ (W0.drew.alloc (.cells ([.slice pa x.places.length pc, .int .i64 x.size, .int .i64 x.align] : List Value).toArray 71)).heap.size) := ⟨by have := HPL.out.2; unfold maxLen; omega, HPL.out.2, by rw [World.size_alloc]; show base ≤ W0.heap.size + 1; omega⟩
    have HFAR : Hid (∀ w3, (W0.drew.alloc (.cells ([.slice pa x.places.length pc, .int .i64 x.size, .int .i64 x.align] : List Value).toArray 71)).grownBy w3 (Value.slice sa sl sc).ownBlock → w3.heap[tb]? = some (.cells #[.map (some bm), (Value.slice sa sl sc)] 62 (0, 0)) ∧ w3.heap[w2.heap.size]? = some (.cells #[.slice pa x.places.length pc, .int .i64 x.size, .int .i64 x.align] 71 (0, 0))) := fun w3 hg => far_add HW.out HW0.out HB2.out.1 hg
    have HEND : Hid (∀ g cap w3, ((W0.drew.alloc (.cells ([.slice pa x.places.length pc, .int .i64 x.size, .int .i64 x.align] : List Value).toArray 71)).grownBy w3 (Value.slice sa sl sc).ownBlock ∧ w3.ownsRow base 71 3 (.slice (some ⟨g, 0, none⟩) (sl + 1) cap) (sl + 1) (flat3 shV prs ++ [.slice pa x.places.length pc, .int .i64 x.size, .int .i64 x.align]) ∧ ((Value.slice sa sl sc).ownBlock = some g ∨ g = W0.drew.heap.size + 1) ∧ g < w3.heap.size) → w3.heap[tb]? = some (.cells #[.map (some bm), (Value.slice sa sl sc)] 62 (0, 0)) → Below base w (w3.setCell ⟨tb, 1, none⟩ (.slice (some ⟨g, 0, none⟩) (sl + 1) cap)) ∧ TabOwn (w3.setCell ⟨tb, 1, none⟩ (.slice (some ⟨g, 0, none⟩) (sl + 1) cap)) base tb bm n (.slice (some ⟨g, 0, none⟩) (sl + 1) cap) (prs ++ [(.slice pa x.places.length pc, x)]) ⟨T.names, T.shapes ++ [x]⟩) := fun g cap w3 hq hb3 => add_end HW.out (Below.drew HW0.out.1) hbase HP0.out HFB.out HPL.out.1 hq hb3
    have l0 := heap_cell (o := 0) (v := .slice pa x.places.length pc) HW0.out.2.2 (by rfl)
    have l1 := heap_cell (o := 1) (v := .int .i64 x.size) HW0.out.2.2 (by rfl)
    have l2 := heap_cell (o := 2) (v := .int .i64 x.align) HW0.out.2.2 (by rfl)
    refine wp_region_held_drew (S := (fun w' => w'.cell? ⟨w2.heap.size, 0, none⟩ = some (.slice pa x.places.length pc) ∧ w'.cell? ⟨w2.heap.size, 1, none⟩ = some (.int .i64 x.size) ∧ w'.cell? ⟨w2.heap.size, 2, none⟩ = some (.int .i64 x.align))) (by kernel_rfl) (⟨l0, l1, l2⟩) (fun hHeld => ?_)
    refine wpAnyH_take (i := 0) (oi := ?oiC3x1x0) (v := ?vvC3x1x0) ?hiC3x1x0 (by kernel_rfl) (by kernel_rfl) (by kernel_rfl) ?hqC3x1x0 ?hyC3x1x0 hHeld ?_
    case hiC3x1x0 => simp only [List.getElem?_toArray, List.getElem?_cons_succ, List.getElem?_cons_zero]; rfl
    case hqC3x1x0 => exact fun _ _ _ h => h
    case hyC3x1x0 => (refine Or.inl ⟨by rfl, ?_⟩; intro w' hSw; (try dsimp only at hSw); go_simp; (try (with_reducible rfl)))
    simp only [Act.put, List.setIfInBounds_toArray, List.set_cons_zero, List.set_cons_succ]
    refine wpAnyH_take (i := 1) (oi := ?oiC3x2x1) (v := ?vvC3x2x1) ?hiC3x2x1 (by kernel_rfl) (by kernel_rfl) (by kernel_rfl) ?hqC3x2x1 ?hyC3x2x1 hHeld ?_
    case hiC3x2x1 => simp only [List.getElem?_toArray, List.getElem?_cons_succ, List.getElem?_cons_zero]; rfl
    case hqC3x2x1 => exact fun _ _ _ h => h
    case hyC3x2x1 => (refine Or.inl ⟨by rfl, ?_⟩; intro w' hSw; (try dsimp only at hSw); go_simp; (try (with_reducible rfl)))
    simp only [Act.put, List.setIfInBounds_toArray, List.set_cons_zero, List.set_cons_succ]
    refine wpAnyH_take (i := 2) (oi := ?oiC3x3x2) (v := ?vvC3x3x2) ?hiC3x3x2 (by kernel_rfl) (by kernel_rfl) (by kernel_rfl) ?hqC3x3x2 ?hyC3x3x2 hHeld ?_
    case hiC3x3x2 => simp only [List.getElem?_toArray, List.getElem?_cons_succ, List.getElem?_cons_zero]; rfl
    case hqC3x3x2 => exact fun _ _ _ h => h
    case hyC3x3x2 => (refine Or.inl ⟨by rfl, ?_⟩; intro w' hSw; (try dsimp only at hSw); go_simp; (try (with_reducible rfl)))
    simp only [Act.put, List.setIfInBounds_toArray, List.set_cons_zero, List.set_cons_succ]
    refine wpAnyH_take (i := 3) (oi := ?oiC3x4x3) (v := ?vvC3x4x3) ?hiC3x4x3 (by kernel_rfl) (by kernel_rfl) (by kernel_rfl) ?hqC3x4x3 ?hyC3x4x3 hHeld ?_
    case hiC3x4x3 => simp only [List.getElem?_toArray, List.getElem?_cons_succ, List.getElem?_cons_zero]; rfl
    case hqC3x4x3 => exact fun _ _ _ h => h
    case hyC3x4x3 => (refine Or.inl ⟨by rfl, ?_⟩; intro w' hSw; (try dsimp only at hSw); go_simp; (try (with_reducible rfl)))
    simp only [Act.put, List.setIfInBounds_toArray, List.set_cons_zero, List.set_cons_succ]
    refine wpAnyH_take (i := 5) (oi := ?oiC3x5x5) (v := ?vvC3x5x5) ?hiC3x5x5 (by kernel_rfl) (by kernel_rfl) (by kernel_rfl) ?hqC3x5x5 ?hyC3x5x5 hHeld ?_
    case hiC3x5x5 => simp only [List.getElem?_toArray, List.getElem?_cons_succ, List.getElem?_cons_zero]; rfl
    case hqC3x5x5 => exact fun _ _ _ h => h
    case hyC3x5x5 => (refine Or.inl ⟨by rfl, ?_⟩; intro w' hSw; (try dsimp only at hSw); go_simp; (try (with_reducible rfl)))
    simp only [Act.put, List.setIfInBounds_toArray, List.set_cons_zero, List.set_cons_succ]
    refine wpAnyH_ready (rs := [4, 6]) (by kernel_rfl) (by simp) ?_
    refine (AllReadyH.cons (o := ?oiC3x6x4) ?hiC3x6x4 (fun K hK => ?gC3x6x4) (AllReadyH.cons (o := ?oiC3x6x6) ?hiC3x6x6 (fun K hK => ?gC3x6x6) AllReadyH.nil))
    case hiC3x6x4 => simp only [List.getElem?_toArray, List.getElem?_cons_succ, List.getElem?_cons_zero]; rfl
    case hiC3x6x6 => simp only [List.getElem?_toArray, List.getElem?_cons_succ, List.getElem?_cons_zero]; rfl
    case gC3x6x4 =>
      go_simp
      refine hK.out _ _ (hHeld) (fun hN => ?_)
      clear hK K hHeld
      have hHeld := hN
      clear hN
      try simp only [Act.put, List.setIfInBounds_toArray, List.set_cons_zero, List.set_cons_succ]
      refine wpAnyH_ready (rs := [6]) (by kernel_rfl) (by simp) ?_
      refine (AllReadyH.cons (o := ?oiC3x7x6) ?hiC3x7x6 (fun K hK => ?gC3x7x6) AllReadyH.nil)
      case hiC3x7x6 => simp only [List.getElem?_toArray, List.getElem?_cons_succ, List.getElem?_cons_zero]; rfl
      case gC3x7x6 =>
        go_simp
        have c0 := keep_alloc C0.out (.cells ([.slice pa x.places.length pc, .int .i64 x.size, .int .i64 x.align] : List Value).toArray 71)
        refine hK.out _ _ (⟨keep_alloc hHeld.1 _, keep_alloc hHeld.2.1 _, keep_alloc hHeld.2.2 _⟩) (fun hN => ?_)
        clear hK K hHeld
        have hHeld := hN
        clear hN
        try simp only [Act.put, List.setIfInBounds_toArray, List.set_cons_zero, List.set_cons_succ]
        refine wpAnyH_ready (rs := [7]) (by kernel_rfl) (by simp) ?_
        refine (AllReadyH.cons (o := ?oiC3x8x7) ?hiC3x8x7 (fun K hK => ?gC3x8x7) AllReadyH.nil)
        case hiC3x8x7 => simp only [List.getElem?_toArray, List.getElem?_cons_succ, List.getElem?_cons_zero]; rfl
        case gC3x8x7 =>
          refine step_append_lies _ (by rfl) _ _ 60 (by rfl) base 71 i0 (.agg #[.slice none 0 0, .int .i64 0, .int .i64 0]) 3 40 Tryd.underlying60 HI.out.1 HI.out.2.1 HI.out.2.2.1 HI.out.2.2.2 rfl (by omega) (Value.slice sa sl sc) sl (flat3 shV prs) (by rfl) HOW.out ⟨W0.drew.heap.size, 0, none⟩ 1 1 [.slice pa x.places.length pc, .int .i64 x.size, .int .i64 x.align] (by rfl) (by rfl) (World.news_of_block (heap_new W0.drew _)) H1.out (by omega) HSZ.out.1 HSZ.out.2.1 HSZ.out.2.2 (W0.drew.heap.size + 1) (by simp) ?_
          intro g cap w3 hown hgrow hat hlt
          have HQ : Hid ((W0.drew.alloc (.cells ([.slice pa x.places.length pc, .int .i64 x.size, .int .i64 x.align] : List Value).toArray 71)).grownBy w3 (Value.slice sa sl sc).ownBlock ∧ w3.ownsRow base 71 3 (.slice (some ⟨g, 0, none⟩) (sl + 1) cap) (sl + 1) (flat3 shV prs ++ [.slice pa x.places.length pc, .int .i64 x.size, .int .i64 x.align]) ∧ ((Value.slice sa sl sc).ownBlock = some g ∨ g = W0.drew.heap.size + 1) ∧ g < w3.heap.size) := ⟨hgrow, hown, hat, hlt⟩
          obtain ⟨hB3, hF3⟩ := HFAR.out _ hgrow
          clear hown hgrow hat hlt
          have y0 := heap_frozen (o := 1) hB3
          have y1 := heap_cell (o := 1) (v := (Value.slice sa sl sc)) hB3 (by rfl)
          refine hK.out _ _ (⟨heap_cell hF3 (by rfl), heap_cell hF3 (by rfl), heap_cell hF3 (by rfl)⟩) (fun hN => ?_)
          clear hK K hHeld
          have hHeld := hN
          clear hN
          try simp only [Act.put, List.setIfInBounds_toArray, List.set_cons_zero, List.set_cons_succ]
          refine wpAnyH_take (i := 8) (oi := ?oiC3x9x8) (v := ?vvC3x9x8) ?hiC3x9x8 (by kernel_rfl) (by kernel_rfl) (by kernel_rfl) ?hqC3x9x8 ?hyC3x9x8 hHeld ?_
          case hiC3x9x8 => simp only [List.getElem?_toArray, List.getElem?_cons_succ, List.getElem?_cons_zero]; rfl
          case hqC3x9x8 => exact fun _ _ _ h => h
          case hyC3x9x8 => (refine Or.inl ⟨by rfl, ?_⟩; intro w' hSw; (try dsimp only at hSw); go_simp; (try (with_reducible rfl)))
          simp only [Act.put, List.setIfInBounds_toArray, List.set_cons_zero, List.set_cons_succ]
          refine wpAnyH_take (i := 9) (oi := ?oiC3x10x9) (v := ?vvC3x10x9) ?hiC3x10x9 (by kernel_rfl) (by kernel_rfl) (by kernel_rfl) ?hqC3x10x9 ?hyC3x10x9 hHeld ?_
          case hiC3x10x9 => simp only [List.getElem?_toArray, List.getElem?_cons_succ, List.getElem?_cons_zero]; rfl
          case hqC3x10x9 => exact fun _ _ _ h => h
          case hyC3x10x9 => (refine Or.inl ⟨by rfl, ?_⟩; intro w' hSw; (try dsimp only at hSw); go_simp; (try (with_reducible rfl)))
          simp only [Act.put, List.setIfInBounds_toArray, List.set_cons_zero, List.set_cons_succ]
          refine wpAnyH_ready (rs := [10]) (by kernel_rfl) (by simp) ?_
          refine (AllReadyH.cons (o := ?oiC3x11x10) ?hiC3x11x10 (fun K hK => ?gC3x11x10) AllReadyH.nil)
          case hiC3x11x10 => simp only [List.getElem?_toArray, List.getElem?_cons_succ, List.getElem?_cons_zero]; rfl
          case gC3x11x10 =>
            go_simp
            refine hK.out _ _ (⟨keep_set2 (heap_cell hF3 (by rfl)) HNE.out, keep_set2 (heap_cell hF3 (by rfl)) HNE.out, keep_set2 (heap_cell hF3 (by rfl)) HNE.out⟩) (fun hN => ?_)
            clear hK K hHeld
            have hHeld := hN
            clear hN
            try simp only [Act.put, List.setIfInBounds_toArray, List.set_cons_zero, List.set_cons_succ]
            refine wpAnyH_done (by kernel_rfl) ?_ _
            clear hHeld
            have HZ : Hid (Below base w (w3.setCell ⟨tb, 1, none⟩ (.slice (some ⟨g, 0, none⟩) (sl + 1) cap)) ∧ TabOwn (w3.setCell ⟨tb, 1, none⟩ (.slice (some ⟨g, 0, none⟩) (sl + 1) cap)) base tb bm n (.slice (some ⟨g, 0, none⟩) (sl + 1) cap) (prs ++ [(.slice pa x.places.length pc, x)]) ⟨T.names, T.shapes ++ [x]⟩) := HEND.out g cap w3 HQ.out hB3
            clear HQ hB3 hF3 y0 y1 HEND HFAR HOW C0
            go_wp2
            go_ret
            exact ⟨rfl, fun h => absurd rfl h, fun _ => ⟨HZ.out.1, _, _, HZ.out.2⟩⟩
    case gC3x6x6 =>
      go_simp
      have c0 := keep_alloc C0.out (.cells ([.slice pa x.places.length pc, .int .i64 x.size, .int .i64 x.align] : List Value).toArray 71)
      refine hK.out _ _ (⟨keep_alloc hHeld.1 _, keep_alloc hHeld.2.1 _, keep_alloc hHeld.2.2 _⟩) (fun hN => ?_)
      clear hK K hHeld
      have hHeld := hN
      clear hN
      try simp only [Act.put, List.setIfInBounds_toArray, List.set_cons_zero, List.set_cons_succ]
      refine wpAnyH_ready (rs := [4]) (by kernel_rfl) (by simp) ?_
      refine (AllReadyH.cons (o := ?oiC3x12x4) ?hiC3x12x4 (fun K hK => ?gC3x12x4) AllReadyH.nil)
      case hiC3x12x4 => simp only [List.getElem?_toArray, List.getElem?_cons_succ, List.getElem?_cons_zero]; rfl
      case gC3x12x4 =>
        go_simp
        refine hK.out _ _ (hHeld) (fun hN => ?_)
        clear hK K hHeld
        have hHeld := hN
        clear hN
        try simp only [Act.put, List.setIfInBounds_toArray, List.set_cons_zero, List.set_cons_succ]
        refine wpAnyH_ready (rs := [7]) (by kernel_rfl) (by simp) ?_
        refine (AllReadyH.cons (o := ?oiC3x13x7) ?hiC3x13x7 (fun K hK => ?gC3x13x7) AllReadyH.nil)
        case hiC3x13x7 => simp only [List.getElem?_toArray, List.getElem?_cons_succ, List.getElem?_cons_zero]; rfl
        case gC3x13x7 =>
          refine step_append_lies _ (by rfl) _ _ 60 (by rfl) base 71 i0 (.agg #[.slice none 0 0, .int .i64 0, .int .i64 0]) 3 40 Tryd.underlying60 HI.out.1 HI.out.2.1 HI.out.2.2.1 HI.out.2.2.2 rfl (by omega) (Value.slice sa sl sc) sl (flat3 shV prs) (by rfl) HOW.out ⟨W0.drew.heap.size, 0, none⟩ 1 1 [.slice pa x.places.length pc, .int .i64 x.size, .int .i64 x.align] (by rfl) (by rfl) (World.news_of_block (heap_new W0.drew _)) H1.out (by omega) HSZ.out.1 HSZ.out.2.1 HSZ.out.2.2 (W0.drew.heap.size + 1) (by simp) ?_
          intro g cap w3 hown hgrow hat hlt
          have HQ : Hid ((W0.drew.alloc (.cells ([.slice pa x.places.length pc, .int .i64 x.size, .int .i64 x.align] : List Value).toArray 71)).grownBy w3 (Value.slice sa sl sc).ownBlock ∧ w3.ownsRow base 71 3 (.slice (some ⟨g, 0, none⟩) (sl + 1) cap) (sl + 1) (flat3 shV prs ++ [.slice pa x.places.length pc, .int .i64 x.size, .int .i64 x.align]) ∧ ((Value.slice sa sl sc).ownBlock = some g ∨ g = W0.drew.heap.size + 1) ∧ g < w3.heap.size) := ⟨hgrow, hown, hat, hlt⟩
          obtain ⟨hB3, hF3⟩ := HFAR.out _ hgrow
          clear hown hgrow hat hlt
          have y0 := heap_frozen (o := 1) hB3
          have y1 := heap_cell (o := 1) (v := (Value.slice sa sl sc)) hB3 (by rfl)
          refine hK.out _ _ (⟨heap_cell hF3 (by rfl), heap_cell hF3 (by rfl), heap_cell hF3 (by rfl)⟩) (fun hN => ?_)
          clear hK K hHeld
          have hHeld := hN
          clear hN
          try simp only [Act.put, List.setIfInBounds_toArray, List.set_cons_zero, List.set_cons_succ]
          refine wpAnyH_take (i := 8) (oi := ?oiC3x14x8) (v := ?vvC3x14x8) ?hiC3x14x8 (by kernel_rfl) (by kernel_rfl) (by kernel_rfl) ?hqC3x14x8 ?hyC3x14x8 hHeld ?_
          case hiC3x14x8 => simp only [List.getElem?_toArray, List.getElem?_cons_succ, List.getElem?_cons_zero]; rfl
          case hqC3x14x8 => exact fun _ _ _ h => h
          case hyC3x14x8 => (refine Or.inl ⟨by rfl, ?_⟩; intro w' hSw; (try dsimp only at hSw); go_simp; (try (with_reducible rfl)))
          simp only [Act.put, List.setIfInBounds_toArray, List.set_cons_zero, List.set_cons_succ]
          refine wpAnyH_take (i := 9) (oi := ?oiC3x15x9) (v := ?vvC3x15x9) ?hiC3x15x9 (by kernel_rfl) (by kernel_rfl) (by kernel_rfl) ?hqC3x15x9 ?hyC3x15x9 hHeld ?_
          case hiC3x15x9 => simp only [List.getElem?_toArray, List.getElem?_cons_succ, List.getElem?_cons_zero]; rfl
          case hqC3x15x9 => exact fun _ _ _ h => h
          case hyC3x15x9 => (refine Or.inl ⟨by rfl, ?_⟩; intro w' hSw; (try dsimp only at hSw); go_simp; (try (with_reducible rfl)))
          simp only [Act.put, List.setIfInBounds_toArray, List.set_cons_zero, List.set_cons_succ]
          refine wpAnyH_ready (rs := [10]) (by kernel_rfl) (by simp) ?_
          refine (AllReadyH.cons (o := ?oiC3x16x10) ?hiC3x16x10 (fun K hK => ?gC3x16x10) AllReadyH.nil)
          case hiC3x16x10 => simp only [List.getElem?_toArray, List.getElem?_cons_succ, List.getElem?_cons_zero]; rfl
          case gC3x16x10 =>
            go_simp
            refine hK.out _ _ (⟨keep_set2 (heap_cell hF3 (by rfl)) HNE.out, keep_set2 (heap_cell hF3 (by rfl)) HNE.out, keep_set2 (heap_cell hF3 (by rfl)) HNE.out⟩) (fun hN => ?_)
            clear hK K hHeld
            have hHeld := hN
            clear hN
            try simp only [Act.put, List.setIfInBounds_toArray, List.set_cons_zero, List.set_cons_succ]
            refine wpAnyH_done (by kernel_rfl) ?_ _
            clear hHeld
            have HZ : Hid (Below base w (w3.setCell ⟨tb, 1, none⟩ (.slice (some ⟨g, 0, none⟩) (sl + 1) cap)) ∧ TabOwn (w3.setCell ⟨tb, 1, none⟩ (.slice (some ⟨g, 0, none⟩) (sl + 1) cap)) base tb bm n (.slice (some ⟨g, 0, none⟩) (sl + 1) cap) (prs ++ [(.slice pa x.places.length pc, x)]) ⟨T.names, T.shapes ++ [x]⟩) := HEND.out g cap w3 HQ.out hB3
            clear HQ hB3 hF3 y0 y1 HEND HFAR HOW C0
            go_wp2
            go_ret
            exact ⟨rfl, fun h => absurd rfl h, fun _ => ⟨HZ.out.1, _, _, HZ.out.2⟩⟩


end Go.Proofs.YtpedfnfangaelaaDoor
