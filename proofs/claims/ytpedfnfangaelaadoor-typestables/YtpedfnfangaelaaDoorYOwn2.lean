/- The law's own: types' structs turned to the document's. -/
import Derived.Test.YtpedfnfangaelaaDoorYOwn1
namespace Go.Proofs.YtpedfnfangaelaaDoor
open Go.ChangeShapes Go.WideShapes Go.ChangeAt Go.RowKit
set_option linter.unusedSimpArgs false
set_option linter.unusedVariables false
def retOwn (l : List St) (w : World) : Ending → World → Prop := fun e w' => ∃ v, e = .returned v ∧ RStAt w' v l ∧ Below w.heap.size w w'
theorem end_Own {P : Program} {fn : Func} {a : Act} {w w' : World} {l : List St} (v : Value) (hr : (results fn a.tmps).run P w' = .ok v w') (hd : a.defers = []) (hp : RStAt w' v l) (hb : Below w.heap.size w w') :
    bodyPost P fn (retOwn l w) .ret a w' := bodyPost_ret hr hd ⟨v, rfl, hp, hb⟩
set_option maxRecDepth 100000 in
set_option maxHeartbeats 16000000 in
theorem own_any (lv : Value) (l : List St) (hn8 : l.length ≤ 8) (hf : ∀ x ∈ l, x.fields.length ≤ 10) (w : World) (hl : StAt w lv l) :
    Calls Tryd.prog 14 #[lv] w (retOwn l w) := by
  have HSS : Hid (∀ x ∈ l, x.fields.length ≤ 10) := hf
  obtain ⟨i0, hi, hz0, hz1, hz2⟩ := info_parts infoDc
  have HDC : Hid (Tryd.prog.info? 81 = some i0 ∧ i0.zero = some (.agg #[.string ⟨#[]⟩, .string ⟨#[]⟩, .bool false]) ∧ i0.size = 3 ∧ i0.bytes = 40) := ⟨hi, hz0, hz1, hz2⟩
  clear hi hz0 hz1 hz2
  obtain ⟨i2, hi, hz0, hz1, hz2⟩ := info_parts infoRs
  have HRS : Hid (Tryd.prog.info? 79 = some i2 ∧ i2.zero = some (.agg #[.string ⟨#[]⟩, .slice none 0 0]) ∧ i2.size = 2 ∧ i2.bytes = 40) := ⟨hi, hz0, hz1, hz2⟩
  clear hi hz0 hz1 hz2 hf
  obtain ⟨la, lc, rfl, hll, hlc⟩ := hl
  have HC : Hid (l ≠ [] → ∃ b off : Nat, la = some ⟨b, off, none⟩ ∧ ∀ (i : Nat) (x : St), l[i]? = some x → w.cell? ⟨b, off + i * 2, none⟩ = some (.string x.name) ∧ ∃ fv, w.cell? ⟨b, off + i * 2 + 1, none⟩ = some fv ∧ FdAt w fv x.fields) := hlc
  clear hlc
  obtain ⟨n, hn⟩ : ∃ n, l.length = n := ⟨_, rfl⟩
  have HNL : Hid (l.length = n) := hn
  rw [hn] at hll hn8 ⊢
  clear hn
  go_enter Tryd.func14, Tryd.ntmps14
  go_wp2_with fail
  go_loopw [3, 4] (fun v3 v4 wr => ∃ (i : Nat) (ra : Option Addr) (rc : Nat), i ≤ n ∧ v3 = .slice ra i rc ∧ v4 = .int .i64 (i : Int) ∧ Hid (∃ prs, SOwn wr w.heap.size (.slice ra i rc) prs ∧ prs.map (·.2) = l.take i ∧ prs.length = i ∧ Below w.heap.size w wr)) (fun _ v4 _ => n - (intOf v4).toNat)
  case atStart => exact ⟨0, none, 0, by omega, rfl, rfl, [], SOwn.nil _ _, rfl, rfl, Below.refl _ _⟩
  case round =>
    obtain ⟨i, ra, rc, hi, rfl, rfl, HI⟩ := hrel
    by_cases hin : i < n
    · have j0 : (0 : Int) ≤ i := by omega
      have j1 : (i : Int) < n := by omega
      have hfg := List.getElem?_eq_getElem (l := l) (i := i) (by rw [HNL.out]; exact hin)
      obtain ⟨x, hfe⟩ : ∃ f, l[i]'(by rw [HNL.out]; exact hin) = f := ⟨_, rfl⟩
      rw [hfe] at hfg
      clear hfe
      obtain ⟨lb, lo, rfl, hcc⟩ := HC.out (fun e => by rw [e] at hfg; simp at hfg)
      obtain ⟨d0, fv, d1, fa, fc, rfl, hfl, hfc⟩ := hcc i x hfg
      obtain ⟨prs, hp1, hp2, hp3, hp4⟩ := HI.out
      have HP : Hid (SOwn wr w.heap.size (.slice ra i rc) prs ∧ prs.map (·.2) = l.take i ∧ prs.length = i ∧ Below w.heap.size w wr) := ⟨hp1, hp2, hp3, hp4⟩
      have c0 := keep_cell hp4 d0
      have c1 := keep_cell hp4 d1
      have HD1 : Hid (w.cell? ⟨lb, lo + i * 2 + 1, none⟩ = some (.slice fa x.fields.length fc)) := d1
      have hx10 := HSS.out x (List.mem_of_getElem? hfg)
      have HX : Hid (l[i]? = some x) := hfg
      have HFC : Hid (x.fields ≠ [] → ∃ b off : Nat, fa = some ⟨b, off, none⟩ ∧ ∀ (i : Nat) (y : Fd), x.fields[i]? = some y → w.cell? ⟨b, off + i * 2, none⟩ = some (.string y.name) ∧ w.cell? ⟨b, off + i * 2 + 1, none⟩ = some (.string y.typ)) := hfc
      clear hcc hfg hfc d0 d1 hp1 hp2 hp3 hp4 HI
      obtain ⟨nm, fields⟩ := x
      dsimp only at *
      obtain ⟨fl, hfle⟩ : ∃ fl, fields.length = fl := ⟨_, rfl⟩
      have HFL : Hid (fields.length = fl) := hfle
      rw [hfle] at c1 hfl hx10 HD1
      clear hfle
      obtain ⟨wo, hwo⟩ : ∃ wo, wo = wr := ⟨_, rfl⟩
      subst hwo
      go_wp2_with fail
      go_loopw [6] (fun v6 wk => ∃ (k : Nat) (sa : Option Addr) (sc : Nat), k ≤ fl ∧ v6 = .int .i64 (k : Int) ∧ Hid (Below wo.heap.size wo wk ∧ XOwn wk wo.heap.size wo.heap.size nm (.slice sa k sc) (fields.take k))) (fun v6 _ => fl - (intOf v6).toNat)
      case atStart => exact ⟨0, none, 0, by omega, rfl, bel_new wo _, XOwn.new wo nm⟩
      case round =>
        clear c0 c1
        obtain ⟨k, sa, sc, hk, rfl, HK⟩ := hrel
        have HBW : Hid (Below w.heap.size w wr) := bel_trans HP.out.2.2.2 HK.out.1
        have c1 := keep_cell HBW.out HD1.out
        have hto : (fields.take k).length = k := by rw [List.length_take, HFL.out]; omega
        have HTK : Hid ((fields.take k).length = k) := hto
        clear hto
        have r0 := heap_cell (o := 0) (v := .string nm) HK.out.2.row (by rfl)
        have r1 := heap_cell (o := 1) (v := .slice sa k sc) HK.out.2.row (by rfl)
        by_cases hkn : k < fl
        · have k0 : (0 : Int) ≤ k := by omega
          have k1 : (k : Int) < fl := by omega
          have hfg := List.getElem?_eq_getElem (l := fields) (i := k) (by rw [HFL.out]; exact hkn)
          obtain ⟨f, hfe⟩ : ∃ f, fields[k]'(by rw [HFL.out]; exact hkn) = f := ⟨_, rfl⟩
          rw [hfe] at hfg
          clear hfe
          obtain ⟨fb, fo, rfl, hcc⟩ := HFC.out (fun e => by rw [e] at hfg; simp at hfg)
          have HD2 : Hid (w.cell? ⟨fb, fo + k * 2, none⟩ = some (.string f.name) ∧ w.cell? ⟨fb, fo + k * 2 + 1, none⟩ = some (.string f.typ)) := hcc k f hfg
          have t0 := keep_cell HBW.out HD2.out.1
          have t1 := keep_cell HBW.out HD2.out.2
          have HF : Hid (fields[k]? = some f) := hfg
          have C0 : Hid ((wr.drew).cell? ⟨wo.heap.size, 1, none⟩ = some (Value.slice sa k sc)) := r1
          have x1 : ∀ o, (wr.alloc o).cell? ⟨wo.heap.size, 1, none⟩ = some (Value.slice sa k sc) := fun o => keep_alloc r1 o
          have HNE : Hid (lb ≠ wo.heap.size ∧ fb ≠ wo.heap.size) := by
            have h1 := HP.out.2.2.2.size
            have h2 := block_lt_of_cell HD1.out
            have h3 := block_lt_of_cell HD2.out.1
            refine ⟨?_, ?_⟩ <;> (intro e; simp only at h2 h3; omega)
          have H1 : Hid (∀ u1 ∈ ([.string f.typ, .string f.name, .bool false] : List Value), u1.oneCell' = true) := by (have h : ∀ u1 ∈ ([.string f.typ, .string f.name, .bool false] : List Value), u1.oneCell' = true := by intro u1 hu; simp at hu; rcases hu with rfl | rfl | rfl <;> rfl); exact h
          have HOW : Hid ((wr.drew.alloc (.cells ([.string f.typ, .string f.name, .bool false] : List Value).toArray 81)).ownsRow wo.heap.size 81 3 (Value.slice sa k sc) k (flat3 dcV (fields.take k))) := by
            have h := HK.out.2.own
            rw [HTK.out] at h
            exact owns_of_heap h (fun b hb => (Below.heap_alloc wr.drew _ b (row_lt h hb).1))
          have HSZ : Hid (k + 1 ≤ maxLen ∧ (k + 1) * 40 ≤ 140737488355328 ∧ wo.heap.size ≤ (wr.drew.alloc (.cells ([.string f.typ, .string f.name, .bool false] : List Value).toArray 81)).heap.size) := ⟨by unfold maxLen; omega, by omega, by rw [World.size_alloc]; have := HK.out.1.size; show wo.heap.size ≤ wr.heap.size + 1; omega⟩
          have HFAR : Hid (∀ w3, (wr.drew.alloc (.cells ([.string f.typ, .string f.name, .bool false] : List Value).toArray 81)).grownBy w3 (Value.slice sa k sc).ownBlock → w3.heap[wo.heap.size]? = some (.cells #[.string nm, (Value.slice sa k sc)] 79 (0, 0)) ∧ (fun w' => w'.cell? ⟨lb, lo + i * 2 + 1, none⟩ = some (.slice (some ⟨fb, fo, none⟩) fl fc) ∧ w'.cell? ⟨fb, fo + k * 2, none⟩ = some (.string f.name) ∧ w'.cell? ⟨fb, fo + k * 2 + 1, none⟩ = some (.string f.typ)) w3) := fun w3 hg => by
            obtain ⟨h1, h2⟩ := x_far (W1 := wr.drew) ⟨HK.out.2.row, HK.out.2.own, HK.out.2.ne, HK.out.2.ge⟩ (Below.drew HK.out.1) (Nat.le_refl _) hg
            have h3 := bel_trans HP.out.2.2.2 h2
            exact ⟨h1, keep_cell h3 HD1.out, keep_cell h3 HD2.out.1, keep_cell h3 HD2.out.2⟩
          have HEND : Hid (∀ g cap w3, ((wr.drew.alloc (.cells ([.string f.typ, .string f.name, .bool false] : List Value).toArray 81)).grownBy w3 (Value.slice sa k sc).ownBlock ∧ w3.ownsRow wo.heap.size 81 3 (Value.slice (some ⟨g, 0, none⟩) (k + 1) cap) (k + 1) (flat3 dcV (fields.take k) ++ [.string f.typ, .string f.name, .bool false]) ∧ ((Value.slice sa k sc).ownBlock = some g ∨ g = wr.drew.heap.size + 1) ∧ g < w3.heap.size) → Below wo.heap.size wo (w3.setCell ⟨wo.heap.size, 1, none⟩ (Value.slice (some ⟨g, 0, none⟩) (k + 1) cap)) ∧ XOwn (w3.setCell ⟨wo.heap.size, 1, none⟩ (Value.slice (some ⟨g, 0, none⟩) (k + 1) cap)) wo.heap.size wo.heap.size nm (Value.slice (some ⟨g, 0, none⟩) (k + 1) cap) (fields.take k ++ [f])) := fun g cap w3 hq => x_end (W1 := wr.drew) ⟨HK.out.2.row, HK.out.2.own, HK.out.2.ne, HK.out.2.ge⟩ (Below.drew HK.out.1) (Nat.le_refl _) HTK.out hq
          clear hcc hfg r0
          go_wp2_with fail
          refine wp_region_held_drew (S := (fun w' => w'.cell? ⟨lb, lo + i * 2 + 1, none⟩ = some (.slice (some ⟨fb, fo, none⟩) fl fc) ∧ w'.cell? ⟨fb, fo + k * 2, none⟩ = some (.string f.name) ∧ w'.cell? ⟨fb, fo + k * 2 + 1, none⟩ = some (.string f.typ))) (by kernel_rfl) (⟨c1, t0, t1⟩) (fun hHeld => ?_)
          refine wpAnyH_take (i := 0) (oi := ?oiC1x1x0) (v := ?vvC1x1x0) ?hiC1x1x0 (by kernel_rfl) (by kernel_rfl) (by kernel_rfl) ?hqC1x1x0 ?hyC1x1x0 hHeld ?_
          case hiC1x1x0 => simp only [List.getElem?_toArray, List.getElem?_cons_succ, List.getElem?_cons_zero]; rfl
          case hqC1x1x0 => exact fun _ _ _ h => h
          case hyC1x1x0 => (refine Or.inl ⟨by rfl, ?_⟩; intro w' hSw; (try dsimp only at hSw); go_simp; (try (with_reducible rfl)))
          simp only [Act.put, List.setIfInBounds_toArray, List.set_cons_zero, List.set_cons_succ]
          refine wpAnyH_take (i := 2) (oi := ?oiC1x2x2) (v := ?vvC1x2x2) ?hiC1x2x2 (by kernel_rfl) (by kernel_rfl) (by kernel_rfl) ?hqC1x2x2 ?hyC1x2x2 hHeld ?_
          case hiC1x2x2 => simp only [List.getElem?_toArray, List.getElem?_cons_succ, List.getElem?_cons_zero]; rfl
          case hqC1x2x2 => exact fun _ _ _ h => h
          case hyC1x2x2 => (refine Or.inl ⟨by rfl, ?_⟩; intro w' hSw; (try dsimp only at hSw); go_simp; (try (with_reducible rfl)))
          simp only [Act.put, List.setIfInBounds_toArray, List.set_cons_zero, List.set_cons_succ]
          refine wpAnyH_take (i := 3) (oi := ?oiC1x3x3) (v := ?vvC1x3x3) ?hiC1x3x3 (by kernel_rfl) (by kernel_rfl) (by kernel_rfl) ?hqC1x3x3 ?hyC1x3x3 hHeld ?_
          case hiC1x3x3 => simp only [List.getElem?_toArray, List.getElem?_cons_succ, List.getElem?_cons_zero]; rfl
          case hqC1x3x3 => exact fun _ _ _ h => h
          case hyC1x3x3 => (refine Or.inl ⟨by rfl, ?_⟩; intro w' hSw; (try dsimp only at hSw); go_simp; (try (with_reducible rfl)))
          simp only [Act.put, List.setIfInBounds_toArray, List.set_cons_zero, List.set_cons_succ]
          refine wpAnyH_take (i := 4) (oi := ?oiC1x4x4) (v := ?vvC1x4x4) ?hiC1x4x4 (by kernel_rfl) (by kernel_rfl) (by kernel_rfl) ?hqC1x4x4 ?hyC1x4x4 hHeld ?_
          case hiC1x4x4 => simp only [List.getElem?_toArray, List.getElem?_cons_succ, List.getElem?_cons_zero]; rfl
          case hqC1x4x4 => exact fun _ _ _ h => h
          case hyC1x4x4 => (refine Or.inl ⟨by rfl, ?_⟩; intro w' hSw; (try dsimp only at hSw); go_simp; (try (with_reducible rfl)))
          simp only [Act.put, List.setIfInBounds_toArray, List.set_cons_zero, List.set_cons_succ]
          refine wpAnyH_take (i := 5) (oi := ?oiC1x5x5) (v := ?vvC1x5x5) ?hiC1x5x5 (by kernel_rfl) (by kernel_rfl) (by kernel_rfl) ?hqC1x5x5 ?hyC1x5x5 hHeld ?_
          case hiC1x5x5 => simp only [List.getElem?_toArray, List.getElem?_cons_succ, List.getElem?_cons_zero]; rfl
          case hqC1x5x5 => exact fun _ _ _ h => h
          case hyC1x5x5 => (refine Or.inl ⟨by rfl, ?_⟩; intro w' hSw; (try dsimp only at hSw); go_simp; (try (with_reducible rfl)))
          simp only [Act.put, List.setIfInBounds_toArray, List.set_cons_zero, List.set_cons_succ]
          refine wpAnyH_take (i := 6) (oi := ?oiC1x6x6) (v := ?vvC1x6x6) ?hiC1x6x6 (by kernel_rfl) (by kernel_rfl) (by kernel_rfl) ?hqC1x6x6 ?hyC1x6x6 hHeld ?_
          case hiC1x6x6 => simp only [List.getElem?_toArray, List.getElem?_cons_succ, List.getElem?_cons_zero]; rfl
          case hqC1x6x6 => exact fun _ _ _ h => h
          case hyC1x6x6 => (refine Or.inl ⟨by rfl, ?_⟩; intro w' hSw; (try dsimp only at hSw); go_simp; (try (with_reducible rfl)))
          simp only [Act.put, List.setIfInBounds_toArray, List.set_cons_zero, List.set_cons_succ]
          refine wpAnyH_take (i := 7) (oi := ?oiC1x7x7) (v := ?vvC1x7x7) ?hiC1x7x7 (by kernel_rfl) (by kernel_rfl) (by kernel_rfl) ?hqC1x7x7 ?hyC1x7x7 hHeld ?_
          case hiC1x7x7 => simp only [List.getElem?_toArray, List.getElem?_cons_succ, List.getElem?_cons_zero]; rfl
          case hqC1x7x7 => exact fun _ _ _ h => h
          case hyC1x7x7 => (refine Or.inl ⟨by rfl, ?_⟩; intro w' hSw; (try dsimp only at hSw); go_simp; (try (with_reducible rfl)))
          simp only [Act.put, List.setIfInBounds_toArray, List.set_cons_zero, List.set_cons_succ]
          refine wpAnyH_take (i := 8) (oi := ?oiC1x8x8) (v := ?vvC1x8x8) ?hiC1x8x8 (by kernel_rfl) (by kernel_rfl) (by kernel_rfl) ?hqC1x8x8 ?hyC1x8x8 hHeld ?_
          case hiC1x8x8 => simp only [List.getElem?_toArray, List.getElem?_cons_succ, List.getElem?_cons_zero]; rfl
          case hqC1x8x8 => exact fun _ _ _ h => h
          case hyC1x8x8 => (refine Or.inl ⟨by rfl, ?_⟩; intro w' hSw; (try dsimp only at hSw); go_simp; (try (with_reducible rfl)))
          simp only [Act.put, List.setIfInBounds_toArray, List.set_cons_zero, List.set_cons_succ]
          refine wpAnyH_take (i := 9) (oi := ?oiC1x9x9) (v := ?vvC1x9x9) ?hiC1x9x9 (by kernel_rfl) (by kernel_rfl) (by kernel_rfl) ?hqC1x9x9 ?hyC1x9x9 hHeld ?_
          case hiC1x9x9 => simp only [List.getElem?_toArray, List.getElem?_cons_succ, List.getElem?_cons_zero]; rfl
          case hqC1x9x9 => exact fun _ _ _ h => h
          case hyC1x9x9 => (refine Or.inl ⟨by rfl, ?_⟩; intro w' hSw; (try dsimp only at hSw); go_simp; (try (with_reducible rfl)))
          simp only [Act.put, List.setIfInBounds_toArray, List.set_cons_zero, List.set_cons_succ]
          refine wpAnyH_take (i := 10) (oi := ?oiC1x10x10) (v := ?vvC1x10x10) ?hiC1x10x10 (by kernel_rfl) (by kernel_rfl) (by kernel_rfl) ?hqC1x10x10 ?hyC1x10x10 hHeld ?_
          case hiC1x10x10 => simp only [List.getElem?_toArray, List.getElem?_cons_succ, List.getElem?_cons_zero]; rfl
          case hqC1x10x10 => exact fun _ _ _ h => h
          case hyC1x10x10 => (refine Or.inl ⟨by rfl, ?_⟩; intro w' hSw; (try dsimp only at hSw); go_simp; (try (with_reducible rfl)))
          simp only [Act.put, List.setIfInBounds_toArray, List.set_cons_zero, List.set_cons_succ]
          refine wpAnyH_take (i := 11) (oi := ?oiC1x11x11) (v := ?vvC1x11x11) ?hiC1x11x11 (by kernel_rfl) (by kernel_rfl) (by kernel_rfl) ?hqC1x11x11 ?hyC1x11x11 hHeld ?_
          case hiC1x11x11 => simp only [List.getElem?_toArray, List.getElem?_cons_succ, List.getElem?_cons_zero]; rfl
          case hqC1x11x11 => exact fun _ _ _ h => h
          case hyC1x11x11 => (refine Or.inl ⟨by rfl, ?_⟩; intro w' hSw; (try dsimp only at hSw); go_simp; (try (with_reducible rfl)))
          simp only [Act.put, List.setIfInBounds_toArray, List.set_cons_zero, List.set_cons_succ]
          refine wpAnyH_take (i := 12) (oi := ?oiC1x12x12) (v := ?vvC1x12x12) ?hiC1x12x12 (by kernel_rfl) (by kernel_rfl) (by kernel_rfl) ?hqC1x12x12 ?hyC1x12x12 hHeld ?_
          case hiC1x12x12 => simp only [List.getElem?_toArray, List.getElem?_cons_succ, List.getElem?_cons_zero]; rfl
          case hqC1x12x12 => exact fun _ _ _ h => h
          case hyC1x12x12 => (refine Or.inl ⟨by rfl, ?_⟩; intro w' hSw; (try dsimp only at hSw); go_simp; (try (with_reducible rfl)))
          simp only [Act.put, List.setIfInBounds_toArray, List.set_cons_zero, List.set_cons_succ]
          refine wpAnyH_take (i := 13) (oi := ?oiC1x13x13) (v := ?vvC1x13x13) ?hiC1x13x13 (by kernel_rfl) (by kernel_rfl) (by kernel_rfl) ?hqC1x13x13 ?hyC1x13x13 hHeld ?_
          case hiC1x13x13 => simp only [List.getElem?_toArray, List.getElem?_cons_succ, List.getElem?_cons_zero]; rfl
          case hqC1x13x13 => exact fun _ _ _ h => h
          case hyC1x13x13 => (refine Or.inl ⟨by rfl, ?_⟩; intro w' hSw; (try dsimp only at hSw); go_simp; (try (with_reducible rfl)))
          simp only [Act.put, List.setIfInBounds_toArray, List.set_cons_zero, List.set_cons_succ]
          refine wpAnyH_take (i := 14) (oi := ?oiC1x14x14) (v := ?vvC1x14x14) ?hiC1x14x14 (by kernel_rfl) (by kernel_rfl) (by kernel_rfl) ?hqC1x14x14 ?hyC1x14x14 hHeld ?_
          case hiC1x14x14 => simp only [List.getElem?_toArray, List.getElem?_cons_succ, List.getElem?_cons_zero]; rfl
          case hqC1x14x14 => exact fun _ _ _ h => h
          case hyC1x14x14 => (refine Or.inl ⟨by rfl, ?_⟩; intro w' hSw; (try dsimp only at hSw); go_simp; (try (with_reducible rfl)))
          simp only [Act.put, List.setIfInBounds_toArray, List.set_cons_zero, List.set_cons_succ]
          refine wpAnyH_take (i := 15) (oi := ?oiC1x15x15) (v := ?vvC1x15x15) ?hiC1x15x15 (by kernel_rfl) (by kernel_rfl) (by kernel_rfl) ?hqC1x15x15 ?hyC1x15x15 hHeld ?_
          case hiC1x15x15 => simp only [List.getElem?_toArray, List.getElem?_cons_succ, List.getElem?_cons_zero]; rfl
          case hqC1x15x15 => exact fun _ _ _ h => h
          case hyC1x15x15 => (refine Or.inl ⟨by rfl, ?_⟩; intro w' hSw; (try dsimp only at hSw); go_simp; (try (with_reducible rfl)))
          simp only [Act.put, List.setIfInBounds_toArray, List.set_cons_zero, List.set_cons_succ]
          refine wpAnyH_take (i := 16) (oi := ?oiC1x16x16) (v := ?vvC1x16x16) ?hiC1x16x16 (by kernel_rfl) (by kernel_rfl) (by kernel_rfl) ?hqC1x16x16 ?hyC1x16x16 hHeld ?_
          case hiC1x16x16 => simp only [List.getElem?_toArray, List.getElem?_cons_succ, List.getElem?_cons_zero]; rfl
          case hqC1x16x16 => exact fun _ _ _ h => h
          case hyC1x16x16 => (refine Or.inl ⟨by rfl, ?_⟩; intro w' hSw; (try dsimp only at hSw); go_simp; (try (with_reducible rfl)))
          simp only [Act.put, List.setIfInBounds_toArray, List.set_cons_zero, List.set_cons_succ]
          refine wpAnyH_take (i := 17) (oi := ?oiC1x17x17) (v := ?vvC1x17x17) ?hiC1x17x17 (by kernel_rfl) (by kernel_rfl) (by kernel_rfl) ?hqC1x17x17 ?hyC1x17x17 hHeld ?_
          case hiC1x17x17 => simp only [List.getElem?_toArray, List.getElem?_cons_succ, List.getElem?_cons_zero]; rfl
          case hqC1x17x17 => exact fun _ _ _ h => h
          case hyC1x17x17 => (refine Or.inl ⟨by rfl, ?_⟩; intro w' hSw; (try dsimp only at hSw); go_simp; (try (with_reducible rfl)))
          simp only [Act.put, List.setIfInBounds_toArray, List.set_cons_zero, List.set_cons_succ]
          refine wpAnyH_take (i := 18) (oi := ?oiC1x18x18) (v := ?vvC1x18x18) ?hiC1x18x18 (by kernel_rfl) (by kernel_rfl) (by kernel_rfl) ?hqC1x18x18 ?hyC1x18x18 hHeld ?_
          case hiC1x18x18 => simp only [List.getElem?_toArray, List.getElem?_cons_succ, List.getElem?_cons_zero]; rfl
          case hqC1x18x18 => exact fun _ _ _ h => h
          case hyC1x18x18 => (refine Or.inl ⟨by rfl, ?_⟩; intro w' hSw; (try dsimp only at hSw); go_simp; (try (with_reducible rfl)))
          simp only [Act.put, List.setIfInBounds_toArray, List.set_cons_zero, List.set_cons_succ]
          refine wpAnyH_take (i := 19) (oi := ?oiC1x19x19) (v := ?vvC1x19x19) ?hiC1x19x19 (by kernel_rfl) (by kernel_rfl) (by kernel_rfl) ?hqC1x19x19 ?hyC1x19x19 hHeld ?_
          case hiC1x19x19 => simp only [List.getElem?_toArray, List.getElem?_cons_succ, List.getElem?_cons_zero]; rfl
          case hqC1x19x19 => exact fun _ _ _ h => h
          case hyC1x19x19 => (refine Or.inl ⟨by rfl, ?_⟩; intro w' hSw; (try dsimp only at hSw); go_simp; (try (with_reducible rfl)))
          simp only [Act.put, List.setIfInBounds_toArray, List.set_cons_zero, List.set_cons_succ]
          refine wpAnyH_take (i := 20) (oi := ?oiC1x20x20) (v := ?vvC1x20x20) ?hiC1x20x20 (by kernel_rfl) (by kernel_rfl) (by kernel_rfl) ?hqC1x20x20 ?hyC1x20x20 hHeld ?_
          case hiC1x20x20 => simp only [List.getElem?_toArray, List.getElem?_cons_succ, List.getElem?_cons_zero]; rfl
          case hqC1x20x20 => exact fun _ _ _ h => h
          case hyC1x20x20 => (refine Or.inl ⟨by rfl, ?_⟩; intro w' hSw; (try dsimp only at hSw); go_simp; (try (with_reducible rfl)))
          simp only [Act.put, List.setIfInBounds_toArray, List.set_cons_zero, List.set_cons_succ]
          refine wpAnyH_ready (rs := [1, 21]) (by kernel_rfl) (by simp) ?_
          refine (AllReadyH.cons (o := ?oiC1x21x1) ?hiC1x21x1 (fun K hK => ?gC1x21x1) (AllReadyH.cons (o := ?oiC1x21x21) ?hiC1x21x21 (fun K hK => ?gC1x21x21) AllReadyH.nil))
          case hiC1x21x1 => simp only [List.getElem?_toArray, List.getElem?_cons_succ, List.getElem?_cons_zero]; rfl
          case hiC1x21x21 => simp only [List.getElem?_toArray, List.getElem?_cons_succ, List.getElem?_cons_zero]; rfl
          case gC1x21x1 =>
            go_simp
            refine hK.out _ _ (hHeld) (fun hN => ?_)
            clear hK K hHeld
            have hHeld := hN
            clear hN
            try simp only [Act.put, List.setIfInBounds_toArray, List.set_cons_zero, List.set_cons_succ]
            refine wpAnyH_ready (rs := [21]) (by kernel_rfl) (by simp) ?_
            refine (AllReadyH.cons (o := ?oiC1x22x21) ?hiC1x22x21 (fun K hK => ?gC1x22x21) AllReadyH.nil)
            case hiC1x22x21 => simp only [List.getElem?_toArray, List.getElem?_cons_succ, List.getElem?_cons_zero]; rfl
            case gC1x22x21 =>
              go_simp
              have c0 := keep_alloc C0.out (.cells ([.string f.typ, .string f.name, .bool false] : List Value).toArray 81)
              refine hK.out _ _ (⟨keep_alloc hHeld.1 _, keep_alloc hHeld.2.1 _, keep_alloc hHeld.2.2 _⟩) (fun hN => ?_)
              clear hK K hHeld
              have hHeld := hN
              clear hN
              try simp only [Act.put, List.setIfInBounds_toArray, List.set_cons_zero, List.set_cons_succ]
              refine wpAnyH_ready (rs := [22]) (by kernel_rfl) (by simp) ?_
              refine (AllReadyH.cons (o := ?oiC1x23x22) ?hiC1x23x22 (fun K hK => ?gC1x23x22) AllReadyH.nil)
              case hiC1x23x22 => simp only [List.getElem?_toArray, List.getElem?_cons_succ, List.getElem?_cons_zero]; rfl
              case gC1x23x22 =>
                refine step_append_lies _ (by rfl) _ _ 77 (by rfl) wo.heap.size 81 i0 (.agg #[.string ⟨#[]⟩, .string ⟨#[]⟩, .bool false]) 3 40 Tryd.underlying77 HDC.out.1 HDC.out.2.1 HDC.out.2.2.1 HDC.out.2.2.2 rfl (by omega) (Value.slice sa k sc) k (flat3 dcV (fields.take k)) (by rfl) HOW.out ⟨wr.drew.heap.size, 0, none⟩ 1 1 [.string f.typ, .string f.name, .bool false] (by rfl) (by rfl) (World.news_of_block (heap_new wr.drew _)) H1.out (by omega) HSZ.out.1 HSZ.out.2.1 HSZ.out.2.2 (wr.drew.heap.size + 1) (by simp) ?_
                intro g cap w3 hown hgrow hat hlt
                have HQ : Hid ((wr.drew.alloc (.cells ([.string f.typ, .string f.name, .bool false] : List Value).toArray 81)).grownBy w3 (Value.slice sa k sc).ownBlock ∧ w3.ownsRow wo.heap.size 81 3 (Value.slice (some ⟨g, 0, none⟩) (k + 1) cap) (k + 1) (flat3 dcV (fields.take k) ++ [.string f.typ, .string f.name, .bool false]) ∧ ((Value.slice sa k sc).ownBlock = some g ∨ g = wr.drew.heap.size + 1) ∧ g < w3.heap.size) := ⟨hgrow, hown, hat, hlt⟩
                obtain ⟨hB3, hF3⟩ := HFAR.out _ hgrow
                clear hown hgrow hat hlt
                have y0 := heap_frozen (o := 1) hB3
                have y1 := heap_cell (o := 1) (v := (Value.slice sa k sc)) hB3 (by rfl)
                refine hK.out _ _ (hF3) (fun hN => ?_)
                clear hK K hHeld
                have hHeld := hN
                clear hN
                try simp only [Act.put, List.setIfInBounds_toArray, List.set_cons_zero, List.set_cons_succ]
                refine wpAnyH_take (i := 23) (oi := ?oiC1x24x23) (v := ?vvC1x24x23) ?hiC1x24x23 (by kernel_rfl) (by kernel_rfl) (by kernel_rfl) ?hqC1x24x23 ?hyC1x24x23 hHeld ?_
                case hiC1x24x23 => simp only [List.getElem?_toArray, List.getElem?_cons_succ, List.getElem?_cons_zero]; rfl
                case hqC1x24x23 => exact fun _ _ _ h => h
                case hyC1x24x23 => (refine Or.inl ⟨by rfl, ?_⟩; intro w' hSw; (try dsimp only at hSw); go_simp; (try (with_reducible rfl)))
                simp only [Act.put, List.setIfInBounds_toArray, List.set_cons_zero, List.set_cons_succ]
                refine wpAnyH_ready (rs := [24]) (by kernel_rfl) (by simp) ?_
                refine (AllReadyH.cons (o := ?oiC1x25x24) ?hiC1x25x24 (fun K hK => ?gC1x25x24) AllReadyH.nil)
                case hiC1x25x24 => simp only [List.getElem?_toArray, List.getElem?_cons_succ, List.getElem?_cons_zero]; rfl
                case gC1x25x24 =>
                  go_simp
                  refine hK.out _ _ (⟨keep_set2 hF3.1 HNE.out.1, keep_set2 hF3.2.1 HNE.out.2, keep_set2 hF3.2.2 HNE.out.2⟩) (fun hN => ?_)
                  clear hK K hHeld
                  have hHeld := hN
                  clear hN
                  try simp only [Act.put, List.setIfInBounds_toArray, List.set_cons_zero, List.set_cons_succ]
                  refine wpAnyH_done (by kernel_rfl) ?_ _
                  clear hHeld
                  have HZ : Hid (Below wo.heap.size wo (w3.setCell ⟨wo.heap.size, 1, none⟩ (Value.slice (some ⟨g, 0, none⟩) (k + 1) cap)) ∧ XOwn (w3.setCell ⟨wo.heap.size, 1, none⟩ (Value.slice (some ⟨g, 0, none⟩) (k + 1) cap)) wo.heap.size wo.heap.size nm (Value.slice (some ⟨g, 0, none⟩) (k + 1) cap) (fields.take k ++ [f])) := HEND.out g cap w3 HQ.out
                  clear HQ hB3 hF3 y0 y1 HEND HFAR HOW C0
                  go_wp2
                  go_roundw
                  case rel => exact ⟨k + 1, _, _, by omega, by simp, HZ.out.1, by rw [take_succ_fd HF.out]; exact HZ.out.2⟩
                  case measure => simp [intOf]; omega
          case gC1x21x21 =>
            go_simp
            have c0 := keep_alloc C0.out (.cells ([.string f.typ, .string f.name, .bool false] : List Value).toArray 81)
            refine hK.out _ _ (⟨keep_alloc hHeld.1 _, keep_alloc hHeld.2.1 _, keep_alloc hHeld.2.2 _⟩) (fun hN => ?_)
            clear hK K hHeld
            have hHeld := hN
            clear hN
            try simp only [Act.put, List.setIfInBounds_toArray, List.set_cons_zero, List.set_cons_succ]
            refine wpAnyH_ready (rs := [1]) (by kernel_rfl) (by simp) ?_
            refine (AllReadyH.cons (o := ?oiC1x26x1) ?hiC1x26x1 (fun K hK => ?gC1x26x1) AllReadyH.nil)
            case hiC1x26x1 => simp only [List.getElem?_toArray, List.getElem?_cons_succ, List.getElem?_cons_zero]; rfl
            case gC1x26x1 =>
              go_simp
              refine hK.out _ _ (hHeld) (fun hN => ?_)
              clear hK K hHeld
              have hHeld := hN
              clear hN
              try simp only [Act.put, List.setIfInBounds_toArray, List.set_cons_zero, List.set_cons_succ]
              refine wpAnyH_ready (rs := [22]) (by kernel_rfl) (by simp) ?_
              refine (AllReadyH.cons (o := ?oiC1x27x22) ?hiC1x27x22 (fun K hK => ?gC1x27x22) AllReadyH.nil)
              case hiC1x27x22 => simp only [List.getElem?_toArray, List.getElem?_cons_succ, List.getElem?_cons_zero]; rfl
              case gC1x27x22 =>
                refine step_append_lies _ (by rfl) _ _ 77 (by rfl) wo.heap.size 81 i0 (.agg #[.string ⟨#[]⟩, .string ⟨#[]⟩, .bool false]) 3 40 Tryd.underlying77 HDC.out.1 HDC.out.2.1 HDC.out.2.2.1 HDC.out.2.2.2 rfl (by omega) (Value.slice sa k sc) k (flat3 dcV (fields.take k)) (by rfl) HOW.out ⟨wr.drew.heap.size, 0, none⟩ 1 1 [.string f.typ, .string f.name, .bool false] (by rfl) (by rfl) (World.news_of_block (heap_new wr.drew _)) H1.out (by omega) HSZ.out.1 HSZ.out.2.1 HSZ.out.2.2 (wr.drew.heap.size + 1) (by simp) ?_
                intro g cap w3 hown hgrow hat hlt
                have HQ : Hid ((wr.drew.alloc (.cells ([.string f.typ, .string f.name, .bool false] : List Value).toArray 81)).grownBy w3 (Value.slice sa k sc).ownBlock ∧ w3.ownsRow wo.heap.size 81 3 (Value.slice (some ⟨g, 0, none⟩) (k + 1) cap) (k + 1) (flat3 dcV (fields.take k) ++ [.string f.typ, .string f.name, .bool false]) ∧ ((Value.slice sa k sc).ownBlock = some g ∨ g = wr.drew.heap.size + 1) ∧ g < w3.heap.size) := ⟨hgrow, hown, hat, hlt⟩
                obtain ⟨hB3, hF3⟩ := HFAR.out _ hgrow
                clear hown hgrow hat hlt
                have y0 := heap_frozen (o := 1) hB3
                have y1 := heap_cell (o := 1) (v := (Value.slice sa k sc)) hB3 (by rfl)
                refine hK.out _ _ (hF3) (fun hN => ?_)
                clear hK K hHeld
                have hHeld := hN
                clear hN
                try simp only [Act.put, List.setIfInBounds_toArray, List.set_cons_zero, List.set_cons_succ]
                refine wpAnyH_take (i := 23) (oi := ?oiC1x28x23) (v := ?vvC1x28x23) ?hiC1x28x23 (by kernel_rfl) (by kernel_rfl) (by kernel_rfl) ?hqC1x28x23 ?hyC1x28x23 hHeld ?_
                case hiC1x28x23 => simp only [List.getElem?_toArray, List.getElem?_cons_succ, List.getElem?_cons_zero]; rfl
                case hqC1x28x23 => exact fun _ _ _ h => h
                case hyC1x28x23 => (refine Or.inl ⟨by rfl, ?_⟩; intro w' hSw; (try dsimp only at hSw); go_simp; (try (with_reducible rfl)))
                simp only [Act.put, List.setIfInBounds_toArray, List.set_cons_zero, List.set_cons_succ]
                refine wpAnyH_ready (rs := [24]) (by kernel_rfl) (by simp) ?_
                refine (AllReadyH.cons (o := ?oiC1x29x24) ?hiC1x29x24 (fun K hK => ?gC1x29x24) AllReadyH.nil)
                case hiC1x29x24 => simp only [List.getElem?_toArray, List.getElem?_cons_succ, List.getElem?_cons_zero]; rfl
                case gC1x29x24 =>
                  go_simp
                  refine hK.out _ _ (⟨keep_set2 hF3.1 HNE.out.1, keep_set2 hF3.2.1 HNE.out.2, keep_set2 hF3.2.2 HNE.out.2⟩) (fun hN => ?_)
                  clear hK K hHeld
                  have hHeld := hN
                  clear hN
                  try simp only [Act.put, List.setIfInBounds_toArray, List.set_cons_zero, List.set_cons_succ]
                  refine wpAnyH_done (by kernel_rfl) ?_ _
                  clear hHeld
                  have HZ : Hid (Below wo.heap.size wo (w3.setCell ⟨wo.heap.size, 1, none⟩ (Value.slice (some ⟨g, 0, none⟩) (k + 1) cap)) ∧ XOwn (w3.setCell ⟨wo.heap.size, 1, none⟩ (Value.slice (some ⟨g, 0, none⟩) (k + 1) cap)) wo.heap.size wo.heap.size nm (Value.slice (some ⟨g, 0, none⟩) (k + 1) cap) (fields.take k ++ [f])) := HEND.out g cap w3 HQ.out
                  clear HQ hB3 hF3 y0 y1 HEND HFAR HOW C0
                  go_wp2
                  go_roundw
                  case rel => exact ⟨k + 1, _, _, by omega, by simp, HZ.out.1, by rw [take_succ_fd HF.out]; exact HZ.out.2⟩
                  case measure => simp [intOf]; omega

        · have hkf : k = fl := by omega
          subst hkf
          have HRF : Hid (RFdAt wr (.slice sa k sc) fields) := by
            have h := HK.out.2.own
            rw [List.take_of_length_le (by rw [HFL.out]; omega)] at h
            exact owns_rfd h (by rw [HFL.out]; exact hx10)
          have HSW : Hid (SOwn wr w.heap.size (.slice ra i rc) prs) := HP.out.1.keep HK.out.1
          have HFR : Hid (∀ b, (Value.slice sa k sc).ownBlock = some b → (Value.slice ra i rc).ownBlock ≠ some b ∧ b < wr.heap.size) := fun b hb => by
            have h1 := row_lt HK.out.2.own hb
            refine ⟨fun e => ?_, h1.1⟩
            have h2 := row_lt HP.out.1.own e
            omega
          have HO3 : Hid ((wr.alloc (.cells #[.string nm, .slice sa k sc] 79)).ownsRow w.heap.size 79 2 (.slice ra i rc) i (flat2 srV prs)) := by
            have h := HSW.out.own
            rw [HP.out.2.2.1] at h
            exact owns_of_heap h (fun b hb => Below.heap_alloc wr _ b (row_lt h hb).1)
          have H1 : Hid (∀ u1 ∈ ([.string nm, .slice sa k sc] : List Value), u1.oneCell' = true) := by (have h : ∀ u1 ∈ ([.string nm, .slice sa k sc] : List Value), u1.oneCell' = true := by intro u1 hu; simp at hu; rcases hu with rfl | rfl <;> rfl); exact h
          clear HK
          go_wp2_with (at_builtin; refine wpList_append_lies _ (by rfl) _ _ 41 (by rfl) w.heap.size 79 i2 (.agg #[.string ⟨#[]⟩, .slice none 0 0]) 2 40 Tryd.underlying41 HRS.out.1 HRS.out.2.1 HRS.out.2.2.1 HRS.out.2.2.2 rfl (by omega) (.slice ra i rc) i (flat2 srV prs) (by rfl) (HO3.out) ⟨wr.heap.size, 0, none⟩ 1 1 [.string nm, .slice sa k sc] (by rfl) (by rfl) (World.news_of_block (heap_new wr _)) (H1.out) (by omega) (by unfold maxLen; omega) (by omega) (by have := HBW.out.size; rw [World.size_alloc]; omega) (wr.heap.size + 1) (by simp) ?_)
          intro g2 cap2 w4 hown hgrow hat hlt
          have HQ : Hid (Below w.heap.size w w4 ∧ SOwn w4 w.heap.size (.slice (some ⟨g2, 0, none⟩) (i + 1) cap2) (prs ++ [(.slice sa k sc, ⟨nm, fields⟩)])) := s_end HSW.out HBW.out (Nat.le_refl _) HRF.out HFR.out HP.out.2.2.1 hgrow hown hat
          clear hown hgrow hat hlt HO3 HSW HFR HRF H1
          go_wp2
          go_roundw
          case rel => exact ⟨i + 1, _, _, by omega, rfl, by simp, _, HQ.out.2, by rw [List.map_append, HP.out.2.1, List.take_add_one, HX.out]; rfl, by rw [List.length_append, HP.out.2.2.1]; rfl, HQ.out.1⟩
          case measure => simp [intOf]; omega
    · have hie : i = n := by omega
      subst hie
      obtain ⟨prs, hp1, hp2, hp3, hp4⟩ := HI.out
      have HE : Hid (RStAt wr (.slice ra i rc) l ∧ Below w.heap.size w wr) := ⟨hp1.at (by rw [hp2, List.take_of_length_le (by rw [HNL.out]; omega)]) (by rw [HNL.out]; exact hn8), hp4⟩
      clear hp1 hp2 hp3 hp4 HI
      go_wp2
      exact end_Own _ (by simp [results, Tryd.results14, go_sem]) rfl HE.out.1 HE.out.2
end Go.Proofs.YtpedfnfangaelaaDoor

