/- Package types: a table that is being made; contract of add. -/
import Derived.Test.YtpedfnfangaelaaDoorYOut2
namespace Go.Proofs.YtpedfnfangaelaaDoor
open Go.ChangeShapes Go.WideShapes Go.ChangeAt Go.RowKit
set_option linter.unusedSimpArgs false
set_option linter.unusedVariables false

theorem PlsAt.of_heap {w w' : World} {v : Value} {l : List Pl} (h : PlsAt w v l) (hb : ∀ b, v.ownBlock = some b → w'.heap[b]? = w.heap[b]?) : PlsAt w' v l := by
  obtain ⟨a, cap, rfl, h1, h2, h3⟩ := h
  refine ⟨a, cap, rfl, h1, h2, fun hl => ?_⟩
  obtain ⟨b, off, rfl, hc⟩ := h3 hl
  have e := hb b rfl
  refine ⟨b, off, rfl, fun i x hx => ?_⟩
  have := hc i x hx
  exact ⟨(World.cell?_of_block e).trans this.1, (World.cell?_of_block e).trans this.2.1, (World.cell?_of_block e).trans this.2.2⟩
/-- A shape's three cells. -/
def shV (p : Value × Shp) : Value × Value × Value := (p.1, .int .i64 p.2.size, .int .i64 p.2.align)
/-- A table that is being made. -/
structure TabOwn (w : World) (base tb bm n : Nat) (sv : Value) (prs : List (Value × Shp)) (T : Tab) : Prop where
  row : w.heap[tb]? = some (.cells #[.map (some bm), sv] 62 (0, 0))
  map : NumMap w bm n (ixOf T.names)
  own : w.ownsRow base 71 3 sv prs.length (flat3 shV prs)
  all : prs.map (·.2) = T.shapes
  ne : sv.ownBlock ≠ some tb
  pls : ∀ p ∈ prs, PlsAt w p.1 p.2.places ∧ ∀ b, p.1.ownBlock = some b → b ≠ tb ∧ sv.ownBlock ≠ some b ∧ b < w.heap.size
  ge : base ≤ tb
theorem TabOwn.mapNe {w : World} {base tb bm n : Nat} {sv : Value} {prs : List (Value × Shp)} {T : Tab} (h : TabOwn w base tb bm n sv prs T) : bm ≠ tb ∧ sv.ownBlock ≠ some bm := by
  obtain ⟨D, ⟨es, cl, hm, _⟩, _⟩ := h.map
  constructor
  · rintro rfl
    have := h.row
    rw [hm] at this
    cases this
  · intro e
    obtain ⟨_, ⟨e0, _⟩ | ⟨g2, c2, cur, e0, hb2, hh, _⟩⟩ := h.own
    · rw [e0] at e; simp [Value.ownBlock] at e
    · rw [e0] at e
      simp only [Value.ownBlock, Option.some.injEq] at e
      rw [e, hm] at hh
      cases hh
theorem TabOwn.keep {w w' : World} {base tb bm n : Nat} {sv : Value} {prs : List (Value × Shp)} {T : Tab} (h : TabOwn w base tb bm n sv prs T) (hb : Below w.heap.size w w') : TabOwn w' base tb bm n sv prs T :=
  ⟨keep_heap hb h.row, h.map.keep hb, owns_of_heap h.own (fun b hk => hb.block b (row_lt h.own hk).1), h.all, h.ne, fun p hp => ⟨(h.pls p hp).1.keep hb, fun b hk => ⟨((h.pls p hp).2 b hk).1, ((h.pls p hp).2 b hk).2.1, Nat.lt_of_lt_of_le ((h.pls p hp).2 b hk).2.2 hb.size⟩⟩, h.ge⟩
theorem TabOwn.at {w : World} {base tb bm n : Nat} {sv : Value} {prs : List (Value × Shp)} {T : Tab} (h : TabOwn w base tb bm n sv prs T) : TabAt w tb T := by
  refine ⟨bm, n, sv, heap_cell h.row (by rfl), heap_cell h.row (by rfl), h.map, ?_⟩
  have hlen : T.shapes.length = prs.length := by rw [← h.all, List.length_map]
  obtain ⟨_, ⟨e0, h0⟩ | ⟨g2, c2, cur, e0, hb, hh, h4, h5, h6, h7⟩⟩ := id h.own
  · refine ⟨none, 0, by rw [e0, hlen, h0], by omega, by omega, fun hl => absurd (List.eq_nil_of_length_eq_zero (by omega)) hl⟩
  · refine ⟨some ⟨g2, 0, none⟩, c2, by rw [e0, hlen], by omega, by unfold maxLen at h5; omega, fun _ => ⟨g2, 0, rfl, fun i x hx => ?_⟩⟩
    rw [← h.all, List.getElem?_map] at hx
    cases hp : prs[i]? with
    | none => rw [hp] at hx; simp at hx
    | some p =>
      rw [hp] at hx
      simp only [Option.map_some, Option.some.injEq] at hx
      subst hx
      have hg := flat3_get shV prs i p hp
      rw [Nat.zero_add]
      exact ⟨p.1, row_get h.own e0 hg.1, (h.pls p (List.mem_of_getElem? hp)).1, row_get h.own e0 hg.2.1, row_get h.own e0 hg.2.2⟩
/-- What add answers; the table behind it. -/
def addE (T : Tab) (nm : ByteArray) (fields : List Fd) : Int :=
  if (!(nameS nm) || (!((ixOf T.names nm).getD 0 == T.shapes.length) || fields.length == 0)) = true then 5 else (layR T fields).2
theorem infoSh : (Tryd.prog.info? 71).map (fun i => (i.zero, i.size, i.bytes)) = some (some (.agg #[.slice none 0 0, .int .i64 0, .int .i64 0]), 3, 40) := by kernel_rfl
/-- add's answer. -/
def retAd (base tb bm n : Nat) (prs : List (Value × Shp)) (T : Tab) (fields : List Fd) (err : Int) (w : World) : Ending → World → Prop := fun e w' =>
  e = .returned (.int .i64 err) ∧ (err ≠ 0 → Below w.heap.size w w') ∧ (err = 0 → Below base w w' ∧ ∃ sv pv, TabOwn w' base tb bm n sv (prs ++ [(pv, (layR T fields).1)]) ⟨T.names, T.shapes ++ [(layR T fields).1]⟩)

set_option maxHeartbeats 4000000 in
theorem add_bad (base tb bm n : Nat) (sv : Value) (prs : List (Value × Shp)) (T : Tab) (nm : ByteArray) (fv : Value) (fields : List Fd) (w : World) (h : TabOwn w base tb bm n sv prs T) (hf : FdAt w fv fields) (hs : nm.size ≤ 281474976710656)
    (hbad : (!(nameS nm) || (!((ixOf T.names nm).getD 0 == T.shapes.length) || fields.length == 0)) = true) :
    Calls Tryd.prog 24 #[.pointer (some ⟨tb, 0, none⟩), .agg #[.string nm, fv]] w (retP (.int .i64 5) w) := by
  obtain ⟨fa, fc, rfl, hfl, hfc⟩ := hf
  obtain ⟨fl, hfe⟩ : ∃ fl, fields.length = fl := ⟨_, rfl⟩
  rw [hfe] at hbad hfl ⊢
  clear hfc hfe
  have hsl : ∃ sa sc, sv = .slice sa T.shapes.length sc := by
    obtain ⟨a', c', e⟩ := owns_shape h.own
    exact ⟨a', c', by rw [e, ← h.all, List.length_map]⟩
  obtain ⟨sa, sc, rfl⟩ := hsl
  obtain ⟨sl, hsl⟩ : ∃ sl, T.shapes.length = sl := ⟨_, rfl⟩
  rw [hsl] at hbad h
  clear hsl
  obtain ⟨j, hj⟩ : ∃ j, (ixOf T.names nm).getD 0 = j := ⟨_, rfl⟩
  have HN : Hid (∀ w, Calls Tryd.prog 40 #[.string nm] w fun e w' => e = .returned (.bool (nameS nm)) ∧ w' = w) := fun w => isName_any nm (by omega) w
  obtain ⟨jj, hjj⟩ : ∃ jj : Int, (j : Int) = jj := ⟨_, rfl⟩
  have HS1 : Hid ((fun w' => w'.cell? ⟨w.heap.size, 0, none⟩ = some (.string nm) ∧ w'.cell? ⟨w.heap.size, 1, none⟩ = some (.slice fa fl fc) ∧ w'.cell? ⟨tb, 0, none⟩ = some (.map (some bm)) ∧ w'.cell? ⟨tb, 1, none⟩ = some (.slice sa sl sc) ∧ (Instr.lookup 58 (.map (some bm)) (.string nm) false).run Tryd.prog w' = .ok (.int .i64 jj) w') (w.alloc (.cells #[.string nm, .slice fa fl fc] 40)).drew) := by
    have hb := bel_new w (.cells #[.string nm, .slice fa fl fc] 40)
    refine ⟨heap_cell (heap_new w _) (by rfl), heap_cell (heap_new w _) (by rfl), keep_cell hb (heap_cell h.row (by rfl)), keep_cell hb (heap_cell h.row (by rfl)), ?_⟩
    have := (h.map.keep (Below.drew hb)).look1 (s := nm) (by unfold maxLen; omega)
    rw [hj, hjj] at this
    exact this
  rw [hj] at hbad
  clear h hj
  generalize nameS nm = isn at *
  cases isn
  · clear hbad
    go_enter Tryd.func24, Tryd.ntmps24
    go_wp2_with fail
    refine wp_region_held_drew (S := (fun w' => w'.cell? ⟨w.heap.size, 0, none⟩ = some (.string nm) ∧ w'.cell? ⟨w.heap.size, 1, none⟩ = some (.slice fa fl fc) ∧ w'.cell? ⟨tb, 0, none⟩ = some (.map (some bm)) ∧ w'.cell? ⟨tb, 1, none⟩ = some (.slice sa sl sc) ∧ (Instr.lookup 58 (.map (some bm)) (.string nm) false).run Tryd.prog w' = .ok (.int .i64 jj) w')) (by kernel_rfl) (HS1.out) (fun hHeld => ?_)
    refine wpAnyH_take (i := 0) (oi := ?oiC1x1x0) (v := ?vvC1x1x0) ?hiC1x1x0 (by kernel_rfl) (by kernel_rfl) (by kernel_rfl) ?hqC1x1x0 ?hyC1x1x0 hHeld ?_
    case hiC1x1x0 => simp only [List.getElem?_toArray, List.getElem?_cons_succ, List.getElem?_cons_zero]; rfl
    case hqC1x1x0 => exact fun _ _ _ h => h
    case hyC1x1x0 => (refine Or.inl ⟨by rfl, ?_⟩; intro w' hSw; (try dsimp only at hSw); go_simp; (try (with_reducible rfl)))
    simp only [Act.put, List.setIfInBounds_toArray, List.set_cons_zero, List.set_cons_succ]
    refine wpAnyH_take (i := 1) (oi := ?oiC1x2x1) (v := ?vvC1x2x1) ?hiC1x2x1 (by kernel_rfl) (by kernel_rfl) (by kernel_rfl) ?hqC1x2x1 ?hyC1x2x1 hHeld ?_
    case hiC1x2x1 => simp only [List.getElem?_toArray, List.getElem?_cons_succ, List.getElem?_cons_zero]; rfl
    case hqC1x2x1 => exact fun _ _ _ h => h
    case hyC1x2x1 => (refine Or.inl ⟨by rfl, ?_⟩; intro w' hSw; (try dsimp only at hSw); go_simp; (try (with_reducible rfl)))
    simp only [Act.put, List.setIfInBounds_toArray, List.set_cons_zero, List.set_cons_succ]
    refine wpAnyH_ready (rs := [2]) (by kernel_rfl) (by simp) ?_
    refine (AllReadyH.cons (o := ?oiC1x3x2) ?hiC1x3x2 (fun K hK => ?gC1x3x2) AllReadyH.nil)
    case hiC1x3x2 => simp only [List.getElem?_toArray, List.getElem?_cons_succ, List.getElem?_cons_zero]; rfl
    case gC1x3x2 =>
      go_simp
      refine (HN.out _).mono ?_
      rintro e v2 ⟨rfl, hw⟩
      replace hw := hw.symm
      subst hw
      go_wp2_with fail
      refine hK.out _ _ (hHeld) (fun hN => ?_)
      clear hK K hHeld
      have hHeld := hN
      clear hN
      try simp only [Act.put, List.setIfInBounds_toArray, List.set_cons_zero, List.set_cons_succ]
      refine wpAnyH_take (i := 3) (oi := ?oiC1x4x3) (v := ?vvC1x4x3) ?hiC1x4x3 (by kernel_rfl) (by kernel_rfl) (by kernel_rfl) ?hqC1x4x3 ?hyC1x4x3 hHeld ?_
      case hiC1x4x3 => simp only [List.getElem?_toArray, List.getElem?_cons_succ, List.getElem?_cons_zero]; rfl
      case hqC1x4x3 => exact fun _ _ _ h => h
      case hyC1x4x3 => (refine Or.inl ⟨by rfl, ?_⟩; intro w' hSw; (try dsimp only at hSw); go_simp; (try (with_reducible rfl)))
      simp only [Act.put, List.setIfInBounds_toArray, List.set_cons_zero, List.set_cons_succ]
      refine wpAnyH_take (i := 4) (oi := ?oiC1x5x4) (v := ?vvC1x5x4) ?hiC1x5x4 (by kernel_rfl) (by kernel_rfl) (by kernel_rfl) ?hqC1x5x4 ?hyC1x5x4 hHeld ?_
      case hiC1x5x4 => simp only [List.getElem?_toArray, List.getElem?_cons_succ, List.getElem?_cons_zero]; rfl
      case hqC1x5x4 => exact fun _ _ _ h => h
      case hyC1x5x4 => (refine Or.inl ⟨by rfl, ?_⟩; intro w' hSw; (try dsimp only at hSw); go_simp; (try (with_reducible rfl)))
      simp only [Act.put, List.setIfInBounds_toArray, List.set_cons_zero, List.set_cons_succ]
      refine wpAnyH_take (i := 5) (oi := ?oiC1x6x5) (v := undef) ?hiC1x6x5 (by kernel_rfl) (by kernel_rfl) (by kernel_rfl) ?hqC1x6x5 ?hyC1x6x5 hHeld ?_
      case hiC1x6x5 => simp only [List.getElem?_toArray, List.getElem?_cons_succ, List.getElem?_cons_zero]; rfl
      case hqC1x6x5 => exact fun _ _ _ h => h
      case hyC1x6x5 => exact Or.inr ⟨by rfl, rfl⟩
      simp only [Act.put, List.setIfInBounds_toArray, List.set_cons_zero, List.set_cons_succ]
      refine wpAnyH_take (i := 6) (oi := ?oiC1x7x6) (v := undef) ?hiC1x7x6 (by kernel_rfl) (by kernel_rfl) (by kernel_rfl) ?hqC1x7x6 ?hyC1x7x6 hHeld ?_
      case hiC1x7x6 => simp only [List.getElem?_toArray, List.getElem?_cons_succ, List.getElem?_cons_zero]; rfl
      case hqC1x7x6 => exact fun _ _ _ h => h
      case hyC1x7x6 => exact Or.inr ⟨by rfl, rfl⟩
      simp only [Act.put, List.setIfInBounds_toArray, List.set_cons_zero, List.set_cons_succ]
      refine wpAnyH_take (i := 7) (oi := ?oiC1x8x7) (v := undef) ?hiC1x8x7 (by kernel_rfl) (by kernel_rfl) (by kernel_rfl) ?hqC1x8x7 ?hyC1x8x7 hHeld ?_
      case hiC1x8x7 => simp only [List.getElem?_toArray, List.getElem?_cons_succ, List.getElem?_cons_zero]; rfl
      case hqC1x8x7 => exact fun _ _ _ h => h
      case hyC1x8x7 => exact Or.inr ⟨by rfl, rfl⟩
      simp only [Act.put, List.setIfInBounds_toArray, List.set_cons_zero, List.set_cons_succ]
      refine wpAnyH_take (i := 8) (oi := ?oiC1x9x8) (v := undef) ?hiC1x9x8 (by kernel_rfl) (by kernel_rfl) (by kernel_rfl) ?hqC1x9x8 ?hyC1x9x8 hHeld ?_
      case hiC1x9x8 => simp only [List.getElem?_toArray, List.getElem?_cons_succ, List.getElem?_cons_zero]; rfl
      case hqC1x9x8 => exact fun _ _ _ h => h
      case hyC1x9x8 => exact Or.inr ⟨by rfl, rfl⟩
      simp only [Act.put, List.setIfInBounds_toArray, List.set_cons_zero, List.set_cons_succ]
      refine wpAnyH_take (i := 9) (oi := ?oiC1x10x9) (v := undef) ?hiC1x10x9 (by kernel_rfl) (by kernel_rfl) (by kernel_rfl) ?hqC1x10x9 ?hyC1x10x9 hHeld ?_
      case hiC1x10x9 => simp only [List.getElem?_toArray, List.getElem?_cons_succ, List.getElem?_cons_zero]; rfl
      case hqC1x10x9 => exact fun _ _ _ h => h
      case hyC1x10x9 => exact Or.inr ⟨by rfl, rfl⟩
      simp only [Act.put, List.setIfInBounds_toArray, List.set_cons_zero, List.set_cons_succ]
      refine wpAnyH_take (i := 10) (oi := ?oiC1x11x10) (v := undef) ?hiC1x11x10 (by kernel_rfl) (by kernel_rfl) (by kernel_rfl) ?hqC1x11x10 ?hyC1x11x10 hHeld ?_
      case hiC1x11x10 => simp only [List.getElem?_toArray, List.getElem?_cons_succ, List.getElem?_cons_zero]; rfl
      case hqC1x11x10 => exact fun _ _ _ h => h
      case hyC1x11x10 => exact Or.inr ⟨by rfl, rfl⟩
      simp only [Act.put, List.setIfInBounds_toArray, List.set_cons_zero, List.set_cons_succ]
      refine wpAnyH_take (i := 11) (oi := ?oiC1x12x11) (v := undef) ?hiC1x12x11 (by kernel_rfl) (by kernel_rfl) (by kernel_rfl) ?hqC1x12x11 ?hyC1x12x11 hHeld ?_
      case hiC1x12x11 => simp only [List.getElem?_toArray, List.getElem?_cons_succ, List.getElem?_cons_zero]; rfl
      case hqC1x12x11 => exact fun _ _ _ h => h
      case hyC1x12x11 => exact Or.inr ⟨by rfl, rfl⟩
      simp only [Act.put, List.setIfInBounds_toArray, List.set_cons_zero, List.set_cons_succ]
      refine wpAnyH_take (i := 12) (oi := ?oiC1x13x12) (v := undef) ?hiC1x13x12 (by kernel_rfl) (by kernel_rfl) (by kernel_rfl) ?hqC1x13x12 ?hyC1x13x12 hHeld ?_
      case hiC1x13x12 => simp only [List.getElem?_toArray, List.getElem?_cons_succ, List.getElem?_cons_zero]; rfl
      case hqC1x13x12 => exact fun _ _ _ h => h
      case hyC1x13x12 => exact Or.inr ⟨by rfl, rfl⟩
      simp only [Act.put, List.setIfInBounds_toArray, List.set_cons_zero, List.set_cons_succ]
      refine wpAnyH_take (i := 13) (oi := ?oiC1x14x13) (v := undef) ?hiC1x14x13 (by kernel_rfl) (by kernel_rfl) (by kernel_rfl) ?hqC1x14x13 ?hyC1x14x13 hHeld ?_
      case hiC1x14x13 => simp only [List.getElem?_toArray, List.getElem?_cons_succ, List.getElem?_cons_zero]; rfl
      case hqC1x14x13 => exact fun _ _ _ h => h
      case hyC1x14x13 => exact Or.inr ⟨by rfl, rfl⟩
      simp only [Act.put, List.setIfInBounds_toArray, List.set_cons_zero, List.set_cons_succ]
      refine wpAnyH_take (i := 14) (oi := ?oiC1x15x14) (v := undef) ?hiC1x15x14 (by kernel_rfl) (by kernel_rfl) (by kernel_rfl) ?hqC1x15x14 ?hyC1x15x14 hHeld ?_
      case hiC1x15x14 => simp only [List.getElem?_toArray, List.getElem?_cons_succ, List.getElem?_cons_zero]; rfl
      case hqC1x15x14 => exact fun _ _ _ h => h
      case hyC1x15x14 => exact Or.inr ⟨by rfl, rfl⟩
      simp only [Act.put, List.setIfInBounds_toArray, List.set_cons_zero, List.set_cons_succ]
      refine wpAnyH_take (i := 15) (oi := ?oiC1x16x15) (v := undef) ?hiC1x16x15 (by kernel_rfl) (by kernel_rfl) (by kernel_rfl) ?hqC1x16x15 ?hyC1x16x15 hHeld ?_
      case hiC1x16x15 => simp only [List.getElem?_toArray, List.getElem?_cons_succ, List.getElem?_cons_zero]; rfl
      case hqC1x16x15 => exact fun _ _ _ h => h
      case hyC1x16x15 => exact Or.inr ⟨by rfl, rfl⟩
      simp only [Act.put, List.setIfInBounds_toArray, List.set_cons_zero, List.set_cons_succ]
      refine wpAnyH_take (i := 16) (oi := ?oiC1x17x16) (v := undef) ?hiC1x17x16 (by kernel_rfl) (by kernel_rfl) (by kernel_rfl) ?hqC1x17x16 ?hyC1x17x16 hHeld ?_
      case hiC1x17x16 => simp only [List.getElem?_toArray, List.getElem?_cons_succ, List.getElem?_cons_zero]; rfl
      case hqC1x17x16 => exact fun _ _ _ h => h
      case hyC1x17x16 => exact Or.inr ⟨by rfl, rfl⟩
      simp only [Act.put, List.setIfInBounds_toArray, List.set_cons_zero, List.set_cons_succ]
      refine wpAnyH_take (i := 17) (oi := ?oiC1x18x17) (v := undef) ?hiC1x18x17 (by kernel_rfl) (by kernel_rfl) (by kernel_rfl) ?hqC1x18x17 ?hyC1x18x17 hHeld ?_
      case hiC1x18x17 => simp only [List.getElem?_toArray, List.getElem?_cons_succ, List.getElem?_cons_zero]; rfl
      case hqC1x18x17 => exact fun _ _ _ h => h
      case hyC1x18x17 => exact Or.inr ⟨by rfl, rfl⟩
      simp only [Act.put, List.setIfInBounds_toArray, List.set_cons_zero, List.set_cons_succ]
      refine wpAnyH_take (i := 18) (oi := ?oiC1x19x18) (v := ?vvC1x19x18) ?hiC1x19x18 (by kernel_rfl) (by kernel_rfl) (by kernel_rfl) ?hqC1x19x18 ?hyC1x19x18 hHeld ?_
      case hiC1x19x18 => simp only [List.getElem?_toArray, List.getElem?_cons_succ, List.getElem?_cons_zero]; rfl
      case hqC1x19x18 => exact fun _ _ _ h => h
      case hyC1x19x18 => (refine Or.inl ⟨by rfl, ?_⟩; intro w' hSw; (try dsimp only at hSw); go_simp; (try (with_reducible rfl)))
      simp only [Act.put, List.setIfInBounds_toArray, List.set_cons_zero, List.set_cons_succ]
      refine wpAnyH_take (i := 19) (oi := ?oiC1x20x19) (v := ?vvC1x20x19) ?hiC1x20x19 (by kernel_rfl) (by kernel_rfl) (by kernel_rfl) ?hqC1x20x19 ?hyC1x20x19 hHeld ?_
      case hiC1x20x19 => simp only [List.getElem?_toArray, List.getElem?_cons_succ, List.getElem?_cons_zero]; rfl
      case hqC1x20x19 => exact fun _ _ _ h => h
      case hyC1x20x19 => (refine Or.inl ⟨by rfl, ?_⟩; intro w' hSw; (try dsimp only at hSw); go_simp; (try (with_reducible rfl)))
      simp only [Act.put, List.setIfInBounds_toArray, List.set_cons_zero, List.set_cons_succ]
      refine wpAnyH_take (i := 20) (oi := ?oiC1x21x20) (v := undef) ?hiC1x21x20 (by kernel_rfl) (by kernel_rfl) (by kernel_rfl) ?hqC1x21x20 ?hyC1x21x20 hHeld ?_
      case hiC1x21x20 => simp only [List.getElem?_toArray, List.getElem?_cons_succ, List.getElem?_cons_zero]; rfl
      case hqC1x21x20 => exact fun _ _ _ h => h
      case hyC1x21x20 => exact Or.inr ⟨by rfl, rfl⟩
      simp only [Act.put, List.setIfInBounds_toArray, List.set_cons_zero, List.set_cons_succ]
      refine wpAnyH_take (i := 21) (oi := ?oiC1x22x21) (v := undef) ?hiC1x22x21 (by kernel_rfl) (by kernel_rfl) (by kernel_rfl) ?hqC1x22x21 ?hyC1x22x21 hHeld ?_
      case hiC1x22x21 => simp only [List.getElem?_toArray, List.getElem?_cons_succ, List.getElem?_cons_zero]; rfl
      case hqC1x22x21 => exact fun _ _ _ h => h
      case hyC1x22x21 => exact Or.inr ⟨by rfl, rfl⟩
      simp only [Act.put, List.setIfInBounds_toArray, List.set_cons_zero, List.set_cons_succ]
      refine wpAnyH_take (i := 22) (oi := ?oiC1x23x22) (v := undef) ?hiC1x23x22 (by kernel_rfl) (by kernel_rfl) (by kernel_rfl) ?hqC1x23x22 ?hyC1x23x22 hHeld ?_
      case hiC1x23x22 => simp only [List.getElem?_toArray, List.getElem?_cons_succ, List.getElem?_cons_zero]; rfl
      case hqC1x23x22 => exact fun _ _ _ h => h
      case hyC1x23x22 => exact Or.inr ⟨by rfl, rfl⟩
      simp only [Act.put, List.setIfInBounds_toArray, List.set_cons_zero, List.set_cons_succ]
      refine wpAnyH_take (i := 23) (oi := ?oiC1x24x23) (v := undef) ?hiC1x24x23 (by kernel_rfl) (by kernel_rfl) (by kernel_rfl) ?hqC1x24x23 ?hyC1x24x23 hHeld ?_
      case hiC1x24x23 => simp only [List.getElem?_toArray, List.getElem?_cons_succ, List.getElem?_cons_zero]; rfl
      case hqC1x24x23 => exact fun _ _ _ h => h
      case hyC1x24x23 => exact Or.inr ⟨by rfl, rfl⟩
      simp only [Act.put, List.setIfInBounds_toArray, List.set_cons_zero, List.set_cons_succ]
      refine wpAnyH_take (i := 24) (oi := ?oiC1x25x24) (v := ?vvC1x25x24) ?hiC1x25x24 (by kernel_rfl) (by kernel_rfl) (by kernel_rfl) ?hqC1x25x24 ?hyC1x25x24 hHeld ?_
      case hiC1x25x24 => simp only [List.getElem?_toArray, List.getElem?_cons_succ, List.getElem?_cons_zero]; rfl
      case hqC1x25x24 => exact fun _ _ _ h => h
      case hyC1x25x24 => (refine Or.inl ⟨by rfl, ?_⟩; intro w' hSw; (try dsimp only at hSw); go_simp; (try (with_reducible rfl)))
      simp only [Act.put, List.setIfInBounds_toArray, List.set_cons_zero, List.set_cons_succ]
      refine wpAnyH_done (by kernel_rfl) ?_ _
      clear hHeld
      go_wp2
      go_ret
      exact ⟨rfl, (by repeat (first | with_reducible exact Below.refl _ _ | assumption | with_reducible refine bel_alloc ?_ _ | with_reducible refine Below.drew ?_ | with_reducible refine bel_drewN ?_ _ | with_reducible refine bel_set ?_ (by go_light; first | (simp; done) | (simp; omega) | omega) _ | refine bel_trans ?_ (by assumption)))⟩
  · by_cases hjl : j = sl
    · have hf0 : fl = 0 := by simpa [hjl] using hbad
      subst hf0
      clear hbad
      have hq : (jj == (sl : Int)) = true := by simp; omega
      have hq2 : (jj != (sl : Int)) = false := by simp; omega
      clear hjl hjj
      go_enter Tryd.func24, Tryd.ntmps24
      go_wp2_with fail
      refine wp_region_held_drew (S := (fun w' => w'.cell? ⟨w.heap.size, 0, none⟩ = some (.string nm) ∧ w'.cell? ⟨w.heap.size, 1, none⟩ = some (.slice fa 0 fc) ∧ w'.cell? ⟨tb, 0, none⟩ = some (.map (some bm)) ∧ w'.cell? ⟨tb, 1, none⟩ = some (.slice sa sl sc) ∧ (Instr.lookup 58 (.map (some bm)) (.string nm) false).run Tryd.prog w' = .ok (.int .i64 jj) w')) (by kernel_rfl) (HS1.out) (fun hHeld => ?_)
      refine wpAnyH_take (i := 0) (oi := ?oiC2x1x0) (v := ?vvC2x1x0) ?hiC2x1x0 (by kernel_rfl) (by kernel_rfl) (by kernel_rfl) ?hqC2x1x0 ?hyC2x1x0 hHeld ?_
      case hiC2x1x0 => simp only [List.getElem?_toArray, List.getElem?_cons_succ, List.getElem?_cons_zero]; rfl
      case hqC2x1x0 => exact fun _ _ _ h => h
      case hyC2x1x0 => (refine Or.inl ⟨by rfl, ?_⟩; intro w' hSw; (try dsimp only at hSw); go_simp; (try (with_reducible rfl)))
      simp only [Act.put, List.setIfInBounds_toArray, List.set_cons_zero, List.set_cons_succ]
      refine wpAnyH_take (i := 1) (oi := ?oiC2x2x1) (v := ?vvC2x2x1) ?hiC2x2x1 (by kernel_rfl) (by kernel_rfl) (by kernel_rfl) ?hqC2x2x1 ?hyC2x2x1 hHeld ?_
      case hiC2x2x1 => simp only [List.getElem?_toArray, List.getElem?_cons_succ, List.getElem?_cons_zero]; rfl
      case hqC2x2x1 => exact fun _ _ _ h => h
      case hyC2x2x1 => (refine Or.inl ⟨by rfl, ?_⟩; intro w' hSw; (try dsimp only at hSw); go_simp; (try (with_reducible rfl)))
      simp only [Act.put, List.setIfInBounds_toArray, List.set_cons_zero, List.set_cons_succ]
      refine wpAnyH_ready (rs := [2]) (by kernel_rfl) (by simp) ?_
      refine (AllReadyH.cons (o := ?oiC2x3x2) ?hiC2x3x2 (fun K hK => ?gC2x3x2) AllReadyH.nil)
      case hiC2x3x2 => simp only [List.getElem?_toArray, List.getElem?_cons_succ, List.getElem?_cons_zero]; rfl
      case gC2x3x2 =>
        go_simp
        refine (HN.out _).mono ?_
        rintro e v2 ⟨rfl, hw⟩
        replace hw := hw.symm
        subst hw
        go_wp2_with fail
        refine hK.out _ _ (hHeld) (fun hN => ?_)
        clear hK K hHeld
        have hHeld := hN
        clear hN
        try simp only [Act.put, List.setIfInBounds_toArray, List.set_cons_zero, List.set_cons_succ]
        refine wpAnyH_take (i := 3) (oi := ?oiC2x4x3) (v := ?vvC2x4x3) ?hiC2x4x3 (by kernel_rfl) (by kernel_rfl) (by kernel_rfl) ?hqC2x4x3 ?hyC2x4x3 hHeld ?_
        case hiC2x4x3 => simp only [List.getElem?_toArray, List.getElem?_cons_succ, List.getElem?_cons_zero]; rfl
        case hqC2x4x3 => exact fun _ _ _ h => h
        case hyC2x4x3 => (refine Or.inl ⟨by rfl, ?_⟩; intro w' hSw; (try dsimp only at hSw); go_simp; (try (with_reducible rfl)))
        simp only [Act.put, List.setIfInBounds_toArray, List.set_cons_zero, List.set_cons_succ]
        refine wpAnyH_take (i := 4) (oi := ?oiC2x5x4) (v := ?vvC2x5x4) ?hiC2x5x4 (by kernel_rfl) (by kernel_rfl) (by kernel_rfl) ?hqC2x5x4 ?hyC2x5x4 hHeld ?_
        case hiC2x5x4 => simp only [List.getElem?_toArray, List.getElem?_cons_succ, List.getElem?_cons_zero]; rfl
        case hqC2x5x4 => exact fun _ _ _ h => h
        case hyC2x5x4 => (refine Or.inl ⟨by rfl, ?_⟩; intro w' hSw; (try dsimp only at hSw); go_simp; (try (with_reducible rfl)))
        simp only [Act.put, List.setIfInBounds_toArray, List.set_cons_zero, List.set_cons_succ]
        refine wpAnyH_take (i := 5) (oi := ?oiC2x6x5) (v := ?vvC2x6x5) ?hiC2x6x5 (by kernel_rfl) (by kernel_rfl) (by kernel_rfl) ?hqC2x6x5 ?hyC2x6x5 hHeld ?_
        case hiC2x6x5 => simp only [List.getElem?_toArray, List.getElem?_cons_succ, List.getElem?_cons_zero]; rfl
        case hqC2x6x5 => exact fun _ _ _ h => h
        case hyC2x6x5 => (refine Or.inl ⟨by rfl, ?_⟩; intro w' hSw; (try dsimp only at hSw); go_simp; (try (with_reducible rfl)))
        simp only [Act.put, List.setIfInBounds_toArray, List.set_cons_zero, List.set_cons_succ]
        refine wpAnyH_take (i := 6) (oi := ?oiC2x7x6) (v := ?vvC2x7x6) ?hiC2x7x6 (by kernel_rfl) (by kernel_rfl) (by kernel_rfl) ?hqC2x7x6 ?hyC2x7x6 hHeld ?_
        case hiC2x7x6 => simp only [List.getElem?_toArray, List.getElem?_cons_succ, List.getElem?_cons_zero]; rfl
        case hqC2x7x6 => exact fun _ _ _ h => h
        case hyC2x7x6 => (refine Or.inl ⟨by rfl, ?_⟩; intro w' hSw; (try dsimp only at hSw); go_simp; (try (with_reducible rfl)))
        simp only [Act.put, List.setIfInBounds_toArray, List.set_cons_zero, List.set_cons_succ]
        refine wpAnyH_take (i := 7) (oi := ?oiC2x8x7) (v := ?vvC2x8x7) ?hiC2x8x7 (by kernel_rfl) (by kernel_rfl) (by kernel_rfl) ?hqC2x8x7 ?hyC2x8x7 hHeld ?_
        case hiC2x8x7 => simp only [List.getElem?_toArray, List.getElem?_cons_succ, List.getElem?_cons_zero]; rfl
        case hqC2x8x7 => exact fun _ _ _ h => h
        case hyC2x8x7 => (refine Or.inl ⟨by rfl, ?_⟩; intro w' hSw; (try dsimp only at hSw); go_simp; (try (with_reducible rfl)))
        simp only [Act.put, List.setIfInBounds_toArray, List.set_cons_zero, List.set_cons_succ]
        refine wpAnyH_take (i := 8) (oi := ?oiC2x9x8) (v := ?vvC2x9x8) ?hiC2x9x8 (by kernel_rfl) (by kernel_rfl) (by kernel_rfl) ?hqC2x9x8 ?hyC2x9x8 hHeld ?_
        case hiC2x9x8 => simp only [List.getElem?_toArray, List.getElem?_cons_succ, List.getElem?_cons_zero]; rfl
        case hqC2x9x8 => exact fun _ _ _ h => h
        case hyC2x9x8 => (refine Or.inl ⟨by rfl, ?_⟩; intro w' hSw; (try dsimp only at hSw); go_simp; (try (with_reducible rfl)))
        simp only [Act.put, List.setIfInBounds_toArray, List.set_cons_zero, List.set_cons_succ]
        refine wpAnyH_take (i := 9) (oi := ?oiC2x10x9) (v := ?vvC2x10x9) ?hiC2x10x9 (by kernel_rfl) (by kernel_rfl) (by kernel_rfl) ?hqC2x10x9 ?hyC2x10x9 hHeld ?_
        case hiC2x10x9 => simp only [List.getElem?_toArray, List.getElem?_cons_succ, List.getElem?_cons_zero]; rfl
        case hqC2x10x9 => exact fun _ _ _ h => h
        case hyC2x10x9 => (refine Or.inl ⟨by rfl, ?_⟩; intro w' hSw; (try dsimp only at hSw); go_simp; (try (with_reducible rfl)))
        simp only [Act.put, List.setIfInBounds_toArray, List.set_cons_zero, List.set_cons_succ]
        refine wpAnyH_take (i := 10) (oi := ?oiC2x11x10) (v := ?vvC2x11x10) ?hiC2x11x10 (by kernel_rfl) (by kernel_rfl) (by kernel_rfl) ?hqC2x11x10 ?hyC2x11x10 hHeld ?_
        case hiC2x11x10 => simp only [List.getElem?_toArray, List.getElem?_cons_succ, List.getElem?_cons_zero]; rfl
        case hqC2x11x10 => exact fun _ _ _ h => h
        case hyC2x11x10 => (refine Or.inl ⟨by rfl, ?_⟩; intro w' hSw; (try dsimp only at hSw); go_simp; (try (with_reducible rfl)))
        simp only [Act.put, List.setIfInBounds_toArray, List.set_cons_zero, List.set_cons_succ]
        refine wpAnyH_take (i := 11) (oi := ?oiC2x12x11) (v := ?vvC2x12x11) ?hiC2x12x11 (by kernel_rfl) (by kernel_rfl) (by kernel_rfl) ?hqC2x12x11 ?hyC2x12x11 hHeld ?_
        case hiC2x12x11 => simp only [List.getElem?_toArray, List.getElem?_cons_succ, List.getElem?_cons_zero]; rfl
        case hqC2x12x11 => exact fun _ _ _ h => h
        case hyC2x12x11 => (refine Or.inl ⟨by rfl, ?_⟩; intro w' hSw; (try dsimp only at hSw); go_simp; (try (with_reducible rfl)))
        simp only [Act.put, List.setIfInBounds_toArray, List.set_cons_zero, List.set_cons_succ]
        refine wpAnyH_take (i := 12) (oi := ?oiC2x13x12) (v := ?vvC2x13x12) ?hiC2x13x12 (by kernel_rfl) (by kernel_rfl) (by kernel_rfl) ?hqC2x13x12 ?hyC2x13x12 hHeld ?_
        case hiC2x13x12 => simp only [List.getElem?_toArray, List.getElem?_cons_succ, List.getElem?_cons_zero]; rfl
        case hqC2x13x12 => exact fun _ _ _ h => h
        case hyC2x13x12 => (refine Or.inl ⟨by rfl, ?_⟩; intro w' hSw; (try dsimp only at hSw); go_simp; (try (with_reducible rfl)))
        simp only [Act.put, List.setIfInBounds_toArray, List.set_cons_zero, List.set_cons_succ]
        refine wpAnyH_take (i := 13) (oi := ?oiC2x14x13) (v := ?vvC2x14x13) ?hiC2x14x13 (by kernel_rfl) (by kernel_rfl) (by kernel_rfl) ?hqC2x14x13 ?hyC2x14x13 hHeld ?_
        case hiC2x14x13 => simp only [List.getElem?_toArray, List.getElem?_cons_succ, List.getElem?_cons_zero]; rfl
        case hqC2x14x13 => exact fun _ _ _ h => h
        case hyC2x14x13 => (refine Or.inl ⟨by rfl, ?_⟩; intro w' hSw; (try dsimp only at hSw); go_simp; (try (with_reducible rfl)))
        simp only [Act.put, List.setIfInBounds_toArray, List.set_cons_zero, List.set_cons_succ]
        refine wpAnyH_take (i := 14) (oi := ?oiC2x15x14) (v := ?vvC2x15x14) ?hiC2x15x14 (by kernel_rfl) (by kernel_rfl) (by kernel_rfl) ?hqC2x15x14 ?hyC2x15x14 hHeld ?_
        case hiC2x15x14 => simp only [List.getElem?_toArray, List.getElem?_cons_succ, List.getElem?_cons_zero]; rfl
        case hqC2x15x14 => exact fun _ _ _ h => h
        case hyC2x15x14 => (refine Or.inl ⟨by rfl, ?_⟩; intro w' hSw; (try dsimp only at hSw); go_simp; (try (with_reducible rfl)))
        simp only [Act.put, List.setIfInBounds_toArray, List.set_cons_zero, List.set_cons_succ]
        refine wpAnyH_take (i := 15) (oi := ?oiC2x16x15) (v := ?vvC2x16x15) ?hiC2x16x15 (by kernel_rfl) (by kernel_rfl) (by kernel_rfl) ?hqC2x16x15 ?hyC2x16x15 hHeld ?_
        case hiC2x16x15 => simp only [List.getElem?_toArray, List.getElem?_cons_succ, List.getElem?_cons_zero]; rfl
        case hqC2x16x15 => exact fun _ _ _ h => h
        case hyC2x16x15 => (refine Or.inl ⟨by rfl, ?_⟩; intro w' hSw; (try dsimp only at hSw); go_simp; (try (with_reducible rfl)))
        simp only [Act.put, List.setIfInBounds_toArray, List.set_cons_zero, List.set_cons_succ]
        refine wpAnyH_take (i := 16) (oi := ?oiC2x17x16) (v := ?vvC2x17x16) ?hiC2x17x16 (by kernel_rfl) (by kernel_rfl) (by kernel_rfl) ?hqC2x17x16 ?hyC2x17x16 hHeld ?_
        case hiC2x17x16 => simp only [List.getElem?_toArray, List.getElem?_cons_succ, List.getElem?_cons_zero]; rfl
        case hqC2x17x16 => exact fun _ _ _ h => h
        case hyC2x17x16 => (refine Or.inl ⟨by rfl, ?_⟩; intro w' hSw; (try dsimp only at hSw); go_simp; (try (with_reducible rfl)))
        simp only [Act.put, List.setIfInBounds_toArray, List.set_cons_zero, List.set_cons_succ]
        refine wpAnyH_take (i := 17) (oi := ?oiC2x18x17) (v := ?vvC2x18x17) ?hiC2x18x17 (by kernel_rfl) (by kernel_rfl) (by kernel_rfl) ?hqC2x18x17 ?hyC2x18x17 hHeld ?_
        case hiC2x18x17 => simp only [List.getElem?_toArray, List.getElem?_cons_succ, List.getElem?_cons_zero]; rfl
        case hqC2x18x17 => exact fun _ _ _ h => h
        case hyC2x18x17 => (refine Or.inl ⟨by rfl, ?_⟩; intro w' hSw; (try dsimp only at hSw); go_simp; (try (with_reducible rfl)))
        simp only [Act.put, List.setIfInBounds_toArray, List.set_cons_zero, List.set_cons_succ]
        refine wpAnyH_take (i := 18) (oi := ?oiC2x19x18) (v := ?vvC2x19x18) ?hiC2x19x18 (by kernel_rfl) (by kernel_rfl) (by kernel_rfl) ?hqC2x19x18 ?hyC2x19x18 hHeld ?_
        case hiC2x19x18 => simp only [List.getElem?_toArray, List.getElem?_cons_succ, List.getElem?_cons_zero]; rfl
        case hqC2x19x18 => exact fun _ _ _ h => h
        case hyC2x19x18 => (refine Or.inl ⟨by rfl, ?_⟩; intro w' hSw; (try dsimp only at hSw); go_simp; (try (with_reducible rfl)))
        simp only [Act.put, List.setIfInBounds_toArray, List.set_cons_zero, List.set_cons_succ]
        refine wpAnyH_take (i := 19) (oi := ?oiC2x20x19) (v := ?vvC2x20x19) ?hiC2x20x19 (by kernel_rfl) (by kernel_rfl) (by kernel_rfl) ?hqC2x20x19 ?hyC2x20x19 hHeld ?_
        case hiC2x20x19 => simp only [List.getElem?_toArray, List.getElem?_cons_succ, List.getElem?_cons_zero]; rfl
        case hqC2x20x19 => exact fun _ _ _ h => h
        case hyC2x20x19 => (refine Or.inl ⟨by rfl, ?_⟩; intro w' hSw; (try dsimp only at hSw); go_simp; (try (with_reducible rfl)))
        simp only [Act.put, List.setIfInBounds_toArray, List.set_cons_zero, List.set_cons_succ]
        refine wpAnyH_take (i := 20) (oi := ?oiC2x21x20) (v := ?vvC2x21x20) ?hiC2x21x20 (by kernel_rfl) (by kernel_rfl) (by kernel_rfl) ?hqC2x21x20 ?hyC2x21x20 hHeld ?_
        case hiC2x21x20 => simp only [List.getElem?_toArray, List.getElem?_cons_succ, List.getElem?_cons_zero]; rfl
        case hqC2x21x20 => exact fun _ _ _ h => h
        case hyC2x21x20 => (refine Or.inl ⟨by rfl, ?_⟩; intro w' hSw; (try dsimp only at hSw); go_simp; (try (with_reducible rfl)))
        simp only [Act.put, List.setIfInBounds_toArray, List.set_cons_zero, List.set_cons_succ]
        refine wpAnyH_take (i := 21) (oi := ?oiC2x22x21) (v := ?vvC2x22x21) ?hiC2x22x21 (by kernel_rfl) (by kernel_rfl) (by kernel_rfl) ?hqC2x22x21 ?hyC2x22x21 hHeld ?_
        case hiC2x22x21 => simp only [List.getElem?_toArray, List.getElem?_cons_succ, List.getElem?_cons_zero]; rfl
        case hqC2x22x21 => exact fun _ _ _ h => h
        case hyC2x22x21 => (refine Or.inl ⟨by rfl, ?_⟩; intro w' hSw; (try dsimp only at hSw); go_simp; (try (with_reducible rfl)))
        simp only [Act.put, List.setIfInBounds_toArray, List.set_cons_zero, List.set_cons_succ]
        refine wpAnyH_take (i := 22) (oi := ?oiC2x23x22) (v := ?vvC2x23x22) ?hiC2x23x22 (by kernel_rfl) (by kernel_rfl) (by kernel_rfl) ?hqC2x23x22 ?hyC2x23x22 hHeld ?_
        case hiC2x23x22 => simp only [List.getElem?_toArray, List.getElem?_cons_succ, List.getElem?_cons_zero]; rfl
        case hqC2x23x22 => exact fun _ _ _ h => h
        case hyC2x23x22 => (refine Or.inl ⟨by rfl, ?_⟩; intro w' hSw; (try dsimp only at hSw); go_simp; (try (with_reducible rfl)))
        simp only [Act.put, List.setIfInBounds_toArray, List.set_cons_zero, List.set_cons_succ]
        refine wpAnyH_take (i := 23) (oi := ?oiC2x24x23) (v := ?vvC2x24x23) ?hiC2x24x23 (by kernel_rfl) (by kernel_rfl) (by kernel_rfl) ?hqC2x24x23 ?hyC2x24x23 hHeld ?_
        case hiC2x24x23 => simp only [List.getElem?_toArray, List.getElem?_cons_succ, List.getElem?_cons_zero]; rfl
        case hqC2x24x23 => exact fun _ _ _ h => h
        case hyC2x24x23 => (refine Or.inl ⟨by rfl, ?_⟩; intro w' hSw; (try dsimp only at hSw); go_simp; (try (with_reducible rfl)))
        simp only [Act.put, List.setIfInBounds_toArray, List.set_cons_zero, List.set_cons_succ]
        refine wpAnyH_take (i := 24) (oi := ?oiC2x25x24) (v := ?vvC2x25x24) ?hiC2x25x24 (by kernel_rfl) (by kernel_rfl) (by kernel_rfl) ?hqC2x25x24 ?hyC2x25x24 hHeld ?_
        case hiC2x25x24 => simp only [List.getElem?_toArray, List.getElem?_cons_succ, List.getElem?_cons_zero]; rfl
        case hqC2x25x24 => exact fun _ _ _ h => h
        case hyC2x25x24 => (refine Or.inl ⟨by rfl, ?_⟩; intro w' hSw; (try dsimp only at hSw); go_simp; (try (with_reducible rfl)))
        simp only [Act.put, List.setIfInBounds_toArray, List.set_cons_zero, List.set_cons_succ]
        refine wpAnyH_done (by kernel_rfl) ?_ _
        clear hHeld
        go_wp2
        go_ret
        exact ⟨rfl, (by repeat (first | with_reducible exact Below.refl _ _ | assumption | with_reducible refine bel_alloc ?_ _ | with_reducible refine Below.drew ?_ | with_reducible refine bel_drewN ?_ _ | with_reducible refine bel_set ?_ (by go_light; first | (simp; done) | (simp; omega) | omega) _ | refine bel_trans ?_ (by assumption)))⟩
    · clear hbad
      have hq : (jj == (sl : Int)) = false := by simp; omega
      have hq2 : (jj != (sl : Int)) = true := by simp; omega
      clear hjl hjj
      go_enter Tryd.func24, Tryd.ntmps24
      go_wp2_with fail
      refine wp_region_held_drew (S := (fun w' => w'.cell? ⟨w.heap.size, 0, none⟩ = some (.string nm) ∧ w'.cell? ⟨w.heap.size, 1, none⟩ = some (.slice fa fl fc) ∧ w'.cell? ⟨tb, 0, none⟩ = some (.map (some bm)) ∧ w'.cell? ⟨tb, 1, none⟩ = some (.slice sa sl sc) ∧ (Instr.lookup 58 (.map (some bm)) (.string nm) false).run Tryd.prog w' = .ok (.int .i64 jj) w')) (by kernel_rfl) (HS1.out) (fun hHeld => ?_)
      refine wpAnyH_take (i := 0) (oi := ?oiC3x1x0) (v := ?vvC3x1x0) ?hiC3x1x0 (by kernel_rfl) (by kernel_rfl) (by kernel_rfl) ?hqC3x1x0 ?hyC3x1x0 hHeld ?_
      case hiC3x1x0 => simp only [List.getElem?_toArray, List.getElem?_cons_succ, List.getElem?_cons_zero]; rfl
      case hqC3x1x0 => exact fun _ _ _ h => h
      case hyC3x1x0 => (refine Or.inl ⟨by rfl, ?_⟩; intro w' hSw; (try dsimp only at hSw); go_simp; (try (with_reducible rfl)))
      simp only [Act.put, List.setIfInBounds_toArray, List.set_cons_zero, List.set_cons_succ]
      refine wpAnyH_take (i := 1) (oi := ?oiC3x2x1) (v := ?vvC3x2x1) ?hiC3x2x1 (by kernel_rfl) (by kernel_rfl) (by kernel_rfl) ?hqC3x2x1 ?hyC3x2x1 hHeld ?_
      case hiC3x2x1 => simp only [List.getElem?_toArray, List.getElem?_cons_succ, List.getElem?_cons_zero]; rfl
      case hqC3x2x1 => exact fun _ _ _ h => h
      case hyC3x2x1 => (refine Or.inl ⟨by rfl, ?_⟩; intro w' hSw; (try dsimp only at hSw); go_simp; (try (with_reducible rfl)))
      simp only [Act.put, List.setIfInBounds_toArray, List.set_cons_zero, List.set_cons_succ]
      refine wpAnyH_ready (rs := [2]) (by kernel_rfl) (by simp) ?_
      refine (AllReadyH.cons (o := ?oiC3x3x2) ?hiC3x3x2 (fun K hK => ?gC3x3x2) AllReadyH.nil)
      case hiC3x3x2 => simp only [List.getElem?_toArray, List.getElem?_cons_succ, List.getElem?_cons_zero]; rfl
      case gC3x3x2 =>
        go_simp
        refine (HN.out _).mono ?_
        rintro e v2 ⟨rfl, hw⟩
        replace hw := hw.symm
        subst hw
        go_wp2_with fail
        refine hK.out _ _ (hHeld) (fun hN => ?_)
        clear hK K hHeld
        have hHeld := hN
        clear hN
        try simp only [Act.put, List.setIfInBounds_toArray, List.set_cons_zero, List.set_cons_succ]
        refine wpAnyH_take (i := 3) (oi := ?oiC3x4x3) (v := ?vvC3x4x3) ?hiC3x4x3 (by kernel_rfl) (by kernel_rfl) (by kernel_rfl) ?hqC3x4x3 ?hyC3x4x3 hHeld ?_
        case hiC3x4x3 => simp only [List.getElem?_toArray, List.getElem?_cons_succ, List.getElem?_cons_zero]; rfl
        case hqC3x4x3 => exact fun _ _ _ h => h
        case hyC3x4x3 => (refine Or.inl ⟨by rfl, ?_⟩; intro w' hSw; (try dsimp only at hSw); go_simp; (try (with_reducible rfl)))
        simp only [Act.put, List.setIfInBounds_toArray, List.set_cons_zero, List.set_cons_succ]
        refine wpAnyH_take (i := 4) (oi := ?oiC3x5x4) (v := ?vvC3x5x4) ?hiC3x5x4 (by kernel_rfl) (by kernel_rfl) (by kernel_rfl) ?hqC3x5x4 ?hyC3x5x4 hHeld ?_
        case hiC3x5x4 => simp only [List.getElem?_toArray, List.getElem?_cons_succ, List.getElem?_cons_zero]; rfl
        case hqC3x5x4 => exact fun _ _ _ h => h
        case hyC3x5x4 => (refine Or.inl ⟨by rfl, ?_⟩; intro w' hSw; (try dsimp only at hSw); go_simp; (try (with_reducible rfl)))
        simp only [Act.put, List.setIfInBounds_toArray, List.set_cons_zero, List.set_cons_succ]
        refine wpAnyH_take (i := 5) (oi := ?oiC3x6x5) (v := ?vvC3x6x5) ?hiC3x6x5 (by kernel_rfl) (by kernel_rfl) (by kernel_rfl) ?hqC3x6x5 ?hyC3x6x5 hHeld ?_
        case hiC3x6x5 => simp only [List.getElem?_toArray, List.getElem?_cons_succ, List.getElem?_cons_zero]; rfl
        case hqC3x6x5 => exact fun _ _ _ h => h
        case hyC3x6x5 => (refine Or.inl ⟨by rfl, ?_⟩; intro w' hSw; (try dsimp only at hSw); go_simp; (try (with_reducible rfl)))
        simp only [Act.put, List.setIfInBounds_toArray, List.set_cons_zero, List.set_cons_succ]
        refine wpAnyH_take (i := 6) (oi := ?oiC3x7x6) (v := ?vvC3x7x6) ?hiC3x7x6 (by kernel_rfl) (by kernel_rfl) (by kernel_rfl) ?hqC3x7x6 ?hyC3x7x6 hHeld ?_
        case hiC3x7x6 => simp only [List.getElem?_toArray, List.getElem?_cons_succ, List.getElem?_cons_zero]; rfl
        case hqC3x7x6 => exact fun _ _ _ h => h
        case hyC3x7x6 => (refine Or.inl ⟨by rfl, ?_⟩; intro w' hSw; (try dsimp only at hSw); go_simp; (try (with_reducible rfl)))
        simp only [Act.put, List.setIfInBounds_toArray, List.set_cons_zero, List.set_cons_succ]
        refine wpAnyH_take (i := 7) (oi := ?oiC3x8x7) (v := ?vvC3x8x7) ?hiC3x8x7 (by kernel_rfl) (by kernel_rfl) (by kernel_rfl) ?hqC3x8x7 ?hyC3x8x7 hHeld ?_
        case hiC3x8x7 => simp only [List.getElem?_toArray, List.getElem?_cons_succ, List.getElem?_cons_zero]; rfl
        case hqC3x8x7 => exact fun _ _ _ h => h
        case hyC3x8x7 => (refine Or.inl ⟨by rfl, ?_⟩; intro w' hSw; (try dsimp only at hSw); go_simp; (try (with_reducible rfl)))
        simp only [Act.put, List.setIfInBounds_toArray, List.set_cons_zero, List.set_cons_succ]
        refine wpAnyH_take (i := 8) (oi := ?oiC3x9x8) (v := ?vvC3x9x8) ?hiC3x9x8 (by kernel_rfl) (by kernel_rfl) (by kernel_rfl) ?hqC3x9x8 ?hyC3x9x8 hHeld ?_
        case hiC3x9x8 => simp only [List.getElem?_toArray, List.getElem?_cons_succ, List.getElem?_cons_zero]; rfl
        case hqC3x9x8 => exact fun _ _ _ h => h
        case hyC3x9x8 => (refine Or.inl ⟨by rfl, ?_⟩; intro w' hSw; (try dsimp only at hSw); go_simp; (try (with_reducible rfl)))
        simp only [Act.put, List.setIfInBounds_toArray, List.set_cons_zero, List.set_cons_succ]
        refine wpAnyH_take (i := 9) (oi := ?oiC3x10x9) (v := ?vvC3x10x9) ?hiC3x10x9 (by kernel_rfl) (by kernel_rfl) (by kernel_rfl) ?hqC3x10x9 ?hyC3x10x9 hHeld ?_
        case hiC3x10x9 => simp only [List.getElem?_toArray, List.getElem?_cons_succ, List.getElem?_cons_zero]; rfl
        case hqC3x10x9 => exact fun _ _ _ h => h
        case hyC3x10x9 => (refine Or.inl ⟨by rfl, ?_⟩; intro w' hSw; (try dsimp only at hSw); go_simp; (try (with_reducible rfl)))
        simp only [Act.put, List.setIfInBounds_toArray, List.set_cons_zero, List.set_cons_succ]
        refine wpAnyH_take (i := 10) (oi := ?oiC3x11x10) (v := ?vvC3x11x10) ?hiC3x11x10 (by kernel_rfl) (by kernel_rfl) (by kernel_rfl) ?hqC3x11x10 ?hyC3x11x10 hHeld ?_
        case hiC3x11x10 => simp only [List.getElem?_toArray, List.getElem?_cons_succ, List.getElem?_cons_zero]; rfl
        case hqC3x11x10 => exact fun _ _ _ h => h
        case hyC3x11x10 => (refine Or.inl ⟨by rfl, ?_⟩; intro w' hSw; (try dsimp only at hSw); go_simp; (try (with_reducible rfl)))
        simp only [Act.put, List.setIfInBounds_toArray, List.set_cons_zero, List.set_cons_succ]
        refine wpAnyH_take (i := 11) (oi := ?oiC3x12x11) (v := ?vvC3x12x11) ?hiC3x12x11 (by kernel_rfl) (by kernel_rfl) (by kernel_rfl) ?hqC3x12x11 ?hyC3x12x11 hHeld ?_
        case hiC3x12x11 => simp only [List.getElem?_toArray, List.getElem?_cons_succ, List.getElem?_cons_zero]; rfl
        case hqC3x12x11 => exact fun _ _ _ h => h
        case hyC3x12x11 => (refine Or.inl ⟨by rfl, ?_⟩; intro w' hSw; (try dsimp only at hSw); go_simp; (try (with_reducible rfl)))
        simp only [Act.put, List.setIfInBounds_toArray, List.set_cons_zero, List.set_cons_succ]
        refine wpAnyH_take (i := 12) (oi := ?oiC3x13x12) (v := ?vvC3x13x12) ?hiC3x13x12 (by kernel_rfl) (by kernel_rfl) (by kernel_rfl) ?hqC3x13x12 ?hyC3x13x12 hHeld ?_
        case hiC3x13x12 => simp only [List.getElem?_toArray, List.getElem?_cons_succ, List.getElem?_cons_zero]; rfl
        case hqC3x13x12 => exact fun _ _ _ h => h
        case hyC3x13x12 => (refine Or.inl ⟨by rfl, ?_⟩; intro w' hSw; (try dsimp only at hSw); go_simp; (try (with_reducible rfl)))
        simp only [Act.put, List.setIfInBounds_toArray, List.set_cons_zero, List.set_cons_succ]
        refine wpAnyH_take (i := 13) (oi := ?oiC3x14x13) (v := ?vvC3x14x13) ?hiC3x14x13 (by kernel_rfl) (by kernel_rfl) (by kernel_rfl) ?hqC3x14x13 ?hyC3x14x13 hHeld ?_
        case hiC3x14x13 => simp only [List.getElem?_toArray, List.getElem?_cons_succ, List.getElem?_cons_zero]; rfl
        case hqC3x14x13 => exact fun _ _ _ h => h
        case hyC3x14x13 => (refine Or.inl ⟨by rfl, ?_⟩; intro w' hSw; (try dsimp only at hSw); go_simp; (try (with_reducible rfl)))
        simp only [Act.put, List.setIfInBounds_toArray, List.set_cons_zero, List.set_cons_succ]
        refine wpAnyH_take (i := 14) (oi := ?oiC3x15x14) (v := ?vvC3x15x14) ?hiC3x15x14 (by kernel_rfl) (by kernel_rfl) (by kernel_rfl) ?hqC3x15x14 ?hyC3x15x14 hHeld ?_
        case hiC3x15x14 => simp only [List.getElem?_toArray, List.getElem?_cons_succ, List.getElem?_cons_zero]; rfl
        case hqC3x15x14 => exact fun _ _ _ h => h
        case hyC3x15x14 => (refine Or.inl ⟨by rfl, ?_⟩; intro w' hSw; (try dsimp only at hSw); go_simp; (try (with_reducible rfl)))
        simp only [Act.put, List.setIfInBounds_toArray, List.set_cons_zero, List.set_cons_succ]
        refine wpAnyH_take (i := 15) (oi := ?oiC3x16x15) (v := ?vvC3x16x15) ?hiC3x16x15 (by kernel_rfl) (by kernel_rfl) (by kernel_rfl) ?hqC3x16x15 ?hyC3x16x15 hHeld ?_
        case hiC3x16x15 => simp only [List.getElem?_toArray, List.getElem?_cons_succ, List.getElem?_cons_zero]; rfl
        case hqC3x16x15 => exact fun _ _ _ h => h
        case hyC3x16x15 => (refine Or.inl ⟨by rfl, ?_⟩; intro w' hSw; (try dsimp only at hSw); go_simp; (try (with_reducible rfl)))
        simp only [Act.put, List.setIfInBounds_toArray, List.set_cons_zero, List.set_cons_succ]
        refine wpAnyH_take (i := 16) (oi := ?oiC3x17x16) (v := ?vvC3x17x16) ?hiC3x17x16 (by kernel_rfl) (by kernel_rfl) (by kernel_rfl) ?hqC3x17x16 ?hyC3x17x16 hHeld ?_
        case hiC3x17x16 => simp only [List.getElem?_toArray, List.getElem?_cons_succ, List.getElem?_cons_zero]; rfl
        case hqC3x17x16 => exact fun _ _ _ h => h
        case hyC3x17x16 => (refine Or.inl ⟨by rfl, ?_⟩; intro w' hSw; (try dsimp only at hSw); go_simp; (try (with_reducible rfl)))
        simp only [Act.put, List.setIfInBounds_toArray, List.set_cons_zero, List.set_cons_succ]
        refine wpAnyH_take (i := 17) (oi := ?oiC3x18x17) (v := ?vvC3x18x17) ?hiC3x18x17 (by kernel_rfl) (by kernel_rfl) (by kernel_rfl) ?hqC3x18x17 ?hyC3x18x17 hHeld ?_
        case hiC3x18x17 => simp only [List.getElem?_toArray, List.getElem?_cons_succ, List.getElem?_cons_zero]; rfl
        case hqC3x18x17 => exact fun _ _ _ h => h
        case hyC3x18x17 => (refine Or.inl ⟨by rfl, ?_⟩; intro w' hSw; (try dsimp only at hSw); go_simp; (try (with_reducible rfl)))
        simp only [Act.put, List.setIfInBounds_toArray, List.set_cons_zero, List.set_cons_succ]
        refine wpAnyH_take (i := 18) (oi := ?oiC3x19x18) (v := ?vvC3x19x18) ?hiC3x19x18 (by kernel_rfl) (by kernel_rfl) (by kernel_rfl) ?hqC3x19x18 ?hyC3x19x18 hHeld ?_
        case hiC3x19x18 => simp only [List.getElem?_toArray, List.getElem?_cons_succ, List.getElem?_cons_zero]; rfl
        case hqC3x19x18 => exact fun _ _ _ h => h
        case hyC3x19x18 => (refine Or.inl ⟨by rfl, ?_⟩; intro w' hSw; (try dsimp only at hSw); go_simp; (try (with_reducible rfl)))
        simp only [Act.put, List.setIfInBounds_toArray, List.set_cons_zero, List.set_cons_succ]
        refine wpAnyH_take (i := 19) (oi := ?oiC3x20x19) (v := ?vvC3x20x19) ?hiC3x20x19 (by kernel_rfl) (by kernel_rfl) (by kernel_rfl) ?hqC3x20x19 ?hyC3x20x19 hHeld ?_
        case hiC3x20x19 => simp only [List.getElem?_toArray, List.getElem?_cons_succ, List.getElem?_cons_zero]; rfl
        case hqC3x20x19 => exact fun _ _ _ h => h
        case hyC3x20x19 => (refine Or.inl ⟨by rfl, ?_⟩; intro w' hSw; (try dsimp only at hSw); go_simp; (try (with_reducible rfl)))
        simp only [Act.put, List.setIfInBounds_toArray, List.set_cons_zero, List.set_cons_succ]
        refine wpAnyH_take (i := 20) (oi := ?oiC3x21x20) (v := undef) ?hiC3x21x20 (by kernel_rfl) (by kernel_rfl) (by kernel_rfl) ?hqC3x21x20 ?hyC3x21x20 hHeld ?_
        case hiC3x21x20 => simp only [List.getElem?_toArray, List.getElem?_cons_succ, List.getElem?_cons_zero]; rfl
        case hqC3x21x20 => exact fun _ _ _ h => h
        case hyC3x21x20 => exact Or.inr ⟨by rfl, rfl⟩
        simp only [Act.put, List.setIfInBounds_toArray, List.set_cons_zero, List.set_cons_succ]
        refine wpAnyH_take (i := 21) (oi := ?oiC3x22x21) (v := undef) ?hiC3x22x21 (by kernel_rfl) (by kernel_rfl) (by kernel_rfl) ?hqC3x22x21 ?hyC3x22x21 hHeld ?_
        case hiC3x22x21 => simp only [List.getElem?_toArray, List.getElem?_cons_succ, List.getElem?_cons_zero]; rfl
        case hqC3x22x21 => exact fun _ _ _ h => h
        case hyC3x22x21 => exact Or.inr ⟨by rfl, rfl⟩
        simp only [Act.put, List.setIfInBounds_toArray, List.set_cons_zero, List.set_cons_succ]
        refine wpAnyH_take (i := 22) (oi := ?oiC3x23x22) (v := undef) ?hiC3x23x22 (by kernel_rfl) (by kernel_rfl) (by kernel_rfl) ?hqC3x23x22 ?hyC3x23x22 hHeld ?_
        case hiC3x23x22 => simp only [List.getElem?_toArray, List.getElem?_cons_succ, List.getElem?_cons_zero]; rfl
        case hqC3x23x22 => exact fun _ _ _ h => h
        case hyC3x23x22 => exact Or.inr ⟨by rfl, rfl⟩
        simp only [Act.put, List.setIfInBounds_toArray, List.set_cons_zero, List.set_cons_succ]
        refine wpAnyH_take (i := 23) (oi := ?oiC3x24x23) (v := undef) ?hiC3x24x23 (by kernel_rfl) (by kernel_rfl) (by kernel_rfl) ?hqC3x24x23 ?hyC3x24x23 hHeld ?_
        case hiC3x24x23 => simp only [List.getElem?_toArray, List.getElem?_cons_succ, List.getElem?_cons_zero]; rfl
        case hqC3x24x23 => exact fun _ _ _ h => h
        case hyC3x24x23 => exact Or.inr ⟨by rfl, rfl⟩
        simp only [Act.put, List.setIfInBounds_toArray, List.set_cons_zero, List.set_cons_succ]
        refine wpAnyH_take (i := 24) (oi := ?oiC3x25x24) (v := ?vvC3x25x24) ?hiC3x25x24 (by kernel_rfl) (by kernel_rfl) (by kernel_rfl) ?hqC3x25x24 ?hyC3x25x24 hHeld ?_
        case hiC3x25x24 => simp only [List.getElem?_toArray, List.getElem?_cons_succ, List.getElem?_cons_zero]; rfl
        case hqC3x25x24 => exact fun _ _ _ h => h
        case hyC3x25x24 => (refine Or.inl ⟨by rfl, ?_⟩; intro w' hSw; (try dsimp only at hSw); go_simp; (try (with_reducible rfl)))
        simp only [Act.put, List.setIfInBounds_toArray, List.set_cons_zero, List.set_cons_succ]
        refine wpAnyH_done (by kernel_rfl) ?_ _
        clear hHeld
        go_wp2
        go_ret
        exact ⟨rfl, (by repeat (first | with_reducible exact Below.refl _ _ | assumption | with_reducible refine bel_alloc ?_ _ | with_reducible refine Below.drew ?_ | with_reducible refine bel_drewN ?_ _ | with_reducible refine bel_set ?_ (by go_light; first | (simp; done) | (simp; omega) | omega) _ | refine bel_trans ?_ (by assumption)))⟩

end Go.Proofs.YtpedfnfangaelaaDoor
