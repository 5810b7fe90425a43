/- The document's own Store of a pointer: the walk. -/
import Derived.Test.YtnklpccggbkknaaNStore
namespace Go.Proofs.Ytnklpccggbkknaa
open Go.ChangeShapes Go.WideShapes Go.ChangeAt Go.RowKit Pl
set_option linter.unusedSimpArgs false
set_option linter.unusedVariables false


set_option maxHeartbeats 4000000 in
theorem rstore_ptr (p l cap g kk bb ln nn : Nat) (n2 cap2 : Nat) (a2 : Option Addr) (uk ub vn vb : Int) (bs : List Int) (xs : List Value) (w : World) (HG : Hid (goodF ⟨2, vn, vb⟩ = true)) (HR : Hid (∀ W, Below w.heap.size w W → Calls Try.prog 37 #[.pointer (some ⟨p, 0, none⟩), .int .i64 8, .agg #[.int .i64 uk, .int .i64 (nn : Int), .int .i64 ub]] W (retP (.bool true) W)))
    (e0 : w.cell? ⟨p, 0, none⟩ = some (.slice (some ⟨g, 0, none⟩) l cap)) (e1 : w.cell? ⟨g, kk * 2, none⟩ = some (.slice (some ⟨bb, 0, none⟩) ln ln)) (hk : ub - 1 = kk) (hl : (kk : Int) < l) (hl2 : (l : Int) ≤ 100000) (hln : (ln : Int) ≤ 65536) (hc0 : (0 : Int) < (8 : Int)) (hc8 : ((8 : Int) : Int) ≤ 8) (hnc : (nn : Int) + (8 : Int) ≤ ln) (hrow : w.heap[bb]? = some (.cells (intCells bs) 3 (0, 0))) (hbs : ln = bs.length)
    (e2 : w.cell? ⟨p, 1, none⟩ = some (Value.slice a2 n2 cap2)) (z2 : w.frozen? ⟨p, 1, none⟩ = false) (HO : Hid (w.ownsRow 0 32 3 (Value.slice a2 n2 cap2) n2 xs)) (hne : (Value.slice a2 n2 cap2).ownBlock ≠ some p) (hnb : (Value.slice a2 n2 cap2).ownBlock ≠ some bb) (hpb : p ≠ bb) (hbl : ∀ b, (Value.slice a2 n2 cap2).ownBlock = some b → b < w.heap.size) (hn2 : (n2 : Int) < 100000) :
    Calls Try.prog 16 #[.pointer (some ⟨p, 0, none⟩), .int .i64 8, .agg #[.int .i64 uk, .int .i64 (nn : Int), .int .i64 ub], .agg #[.int .i64 2, .int .i64 vn, .int .i64 vb]] w fun e w' => e = .returned (.bool true) ∧ ∃ g2 cap' wa w1, Below w.heap.size w wa ∧ (wa.alloc (.cells ([.int .i64 2, .int .i64 vn, .int .i64 vb] : List Value).toArray 32)).grownBy w1 (Value.slice a2 n2 cap2).ownBlock ∧ w1.ownsRow 0 32 3 (.slice (some ⟨g2, 0, none⟩) (n2 + 1) cap') (n2 + 1) (xs ++ [.int .i64 2, .int .i64 vn, .int .i64 vb]) ∧ ((Value.slice a2 n2 cap2).ownBlock = some g2 ∨ g2 = wa.heap.size + 1) ∧ g2 < w1.heap.size ∧ RowAt (w1.setCell ⟨p, 1, none⟩ (.slice (some ⟨g2, 0, none⟩) (n2 + 1) cap')) w' bb (wrt bs nn (fun i => 1000 + 8 * (n2 : Int) + i) 8) := by
  have hw1 : IntKind.i64.wrap (ub - 1) = (kk : Int) := by rw [i64w, hk]; unfold wrap64; omega
  have hw2 : IntKind.i64.wrap ((nn : Int) + (8 : Int)) = (nn : Int) + (8 : Int) := by rw [i64w]; unfold wrap64; omega
  have kk0 : (0 : Int) ≤ kk := by omega
  have kkn : ((kk : Int)).toNat = kk := by omega
  have nn0 : (0 : Int) ≤ nn := by omega
  have nnh : (nn : Int) ≤ (nn : Int) + (8 : Int) := by omega
  have nnt : ((nn : Int) + (8 : Int)).toNat = nn + 8 := by omega
  have nne : ¬ ln = nn := by omega
  obtain ⟨i0, hi, hz0, hz1, hz2⟩ := info_parts infoV
  have HI : Hid (Try.prog.info? 32 = some i0 ∧ i0.zero = some (.agg #[.int .i64 0, .int .i64 0, .int .i64 0]) ∧ i0.size = 3 ∧ i0.bytes = 24) := ⟨hi, hz0, hz1, hz2⟩
  have HM : Hid (ln = bs.length) := hbs
  have HNE : Hid ((Value.slice a2 n2 cap2).ownBlock ≠ some p ∧ (Value.slice a2 n2 cap2).ownBlock ≠ some bb ∧ p ≠ bb ∧ (∀ b, (Value.slice a2 n2 cap2).ownBlock = some b → b < w.heap.size) ∧ n2 < 100000) := ⟨hne, hnb, hpb, hbl, by omega⟩
  have H1 : Hid (∀ u ∈ ([.int .i64 2, .int .i64 vn, .int .i64 vb] : List Value), u.oneCell' = true) := by
    have h : ∀ u ∈ ([.int .i64 2, .int .i64 vn, .int .i64 vb] : List Value), u.oneCell' = true := by intro u hu; simp at hu; rcases hu with rfl | rfl | rfl <;> rfl
    exact h
  have HRW : Hid (w.heap[bb]? = some (.cells (intCells bs) 3 (0, 0))) := hrow
  clear hrow hbs hi hz0 hz1 hz2 hne hnb hpb hbl
  go_enter Try.func16, Try.ntmps16
  go_wp2_with fail
  refine (rgoodR_to 2 vn vb true _ HG).mono ?_
  rintro e w1 ⟨rfl, hb1⟩
  have u0 : w1.cell? ⟨w.heap.size, 0, none⟩ = some (.int .i64 uk) := keep_cell hb1 (by go_simp)
  have u1 : w1.cell? ⟨w.heap.size, 1, none⟩ = some (.int .i64 (nn : Int)) := keep_cell hb1 (by go_simp)
  have u2 : w1.cell? ⟨w.heap.size, 2, none⟩ = some (.int .i64 ub) := keep_cell hb1 (by go_simp)
  have v0 : w1.cell? ⟨(w.heap.size + 1), 0, none⟩ = some (.int .i64 2) := keep_cell hb1 (by go_simp)
  have v1 : w1.cell? ⟨(w.heap.size + 1), 1, none⟩ = some (.int .i64 vn) := keep_cell hb1 (by go_simp)
  have v2 : w1.cell? ⟨(w.heap.size + 1), 2, none⟩ = some (.int .i64 vb) := keep_cell hb1 (by go_simp)
  have uL : w.heap.size < w1.heap.size := block_lt_of_cell u0
  have vL : (w.heap.size + 1) < w1.heap.size := block_lt_of_cell v0
  have HB : Hid (Below w.heap.size w w1) := (by repeat (first | with_reducible exact Below.refl _ _ | with_reducible refine bel_alloc ?_ _ | with_reducible refine bel_set ?_ (by first | exact Nat.le_refl _ | (simp; done) | (simp; omega)) _ | with_reducible refine Below.drew ?_ | refine bel_trans ?_ (by assumption)))
  clear hb1
  go_wp2_with fail
  refine (HR.out _ HB.out).mono ?_
  rintro e w2 ⟨rfl, hb2⟩
  replace u0 : w2.cell? ⟨w.heap.size, 0, none⟩ = some (.int .i64 uk) := keep_cell hb2 (by go_simp)
  replace u1 : w2.cell? ⟨w.heap.size, 1, none⟩ = some (.int .i64 (nn : Int)) := keep_cell hb2 (by go_simp)
  replace u2 : w2.cell? ⟨w.heap.size, 2, none⟩ = some (.int .i64 ub) := keep_cell hb2 (by go_simp)
  replace v0 : w2.cell? ⟨(w.heap.size + 1), 0, none⟩ = some (.int .i64 2) := keep_cell hb2 (by go_simp)
  replace v1 : w2.cell? ⟨(w.heap.size + 1), 1, none⟩ = some (.int .i64 vn) := keep_cell hb2 (by go_simp)
  replace v2 : w2.cell? ⟨(w.heap.size + 1), 2, none⟩ = some (.int .i64 vb) := keep_cell hb2 (by go_simp)
  replace uL : w.heap.size < w2.heap.size := block_lt_of_cell u0
  replace vL : (w.heap.size + 1) < w2.heap.size := block_lt_of_cell v0
  replace HB : Hid (Below w.heap.size w w2) := bel_trans HB.out hb2
  clear hb2
  have c0 := keep_cell HB.out e0
  have c1 := keep_cell HB.out e1
  have d2 := keep_cell HB.out e2
  have y2 := keep_frozen HB.out e2 z2
  go_wp2_with fail
  clear HR hk
  refine wp_region_held_drew (S := (fun w' => w'.cell? ⟨w.heap.size, 1, none⟩ = some (.int .i64 (nn : Int)) ∧ w'.cell? ⟨w.heap.size, 2, none⟩ = some (.int .i64 ub) ∧ w'.cell? ⟨p, 0, none⟩ = some (.slice (some ⟨g, 0, none⟩) l cap) ∧ w'.cell? ⟨g, kk * 2, none⟩ = some (.slice (some ⟨bb, 0, none⟩) ln ln))) (by kernel_rfl) (⟨u1, u2, c0, c1⟩) (fun hHeld => ?_)
  refine wpAnyH_take (i := 0) (oi := ?oia0) (v := ?vva0) ?hia0 (by kernel_rfl) (by kernel_rfl) (by kernel_rfl) ?hqa0 ?hya0 hHeld ?_
  case hia0 => simp only [List.getElem?_toArray, List.getElem?_cons_succ, List.getElem?_cons_zero]; rfl
  case hqa0 => exact fun _ _ _ h => h
  case hya0 => (refine Or.inl ⟨by rfl, ?_⟩; intro w' hSw; (try dsimp only at hSw); go_simp; (try (with_reducible rfl)))
  simp only [Act.put, List.setIfInBounds_toArray, List.set_cons_zero, List.set_cons_succ]
  refine wpAnyH_take (i := 1) (oi := ?oia1) (v := ?vva1) ?hia1 (by kernel_rfl) (by kernel_rfl) (by kernel_rfl) ?hqa1 ?hya1 hHeld ?_
  case hia1 => simp only [List.getElem?_toArray, List.getElem?_cons_succ, List.getElem?_cons_zero]; rfl
  case hqa1 => exact fun _ _ _ h => h
  case hya1 => (refine Or.inl ⟨by rfl, ?_⟩; intro w' hSw; (try dsimp only at hSw); go_simp; (try (with_reducible rfl)))
  simp only [Act.put, List.setIfInBounds_toArray, List.set_cons_zero, List.set_cons_succ]
  refine wpAnyH_take (i := 2) (oi := ?oia2) (v := ?vva2) ?hia2 (by kernel_rfl) (by kernel_rfl) (by kernel_rfl) ?hqa2 ?hya2 hHeld ?_
  case hia2 => simp only [List.getElem?_toArray, List.getElem?_cons_succ, List.getElem?_cons_zero]; rfl
  case hqa2 => exact fun _ _ _ h => h
  case hya2 => (refine Or.inl ⟨by rfl, ?_⟩; intro w' hSw; (try dsimp only at hSw); go_simp; (try (with_reducible rfl)))
  simp only [Act.put, List.setIfInBounds_toArray, List.set_cons_zero, List.set_cons_succ]
  refine wpAnyH_take (i := 3) (oi := ?oia3) (v := ?vva3) ?hia3 (by kernel_rfl) (by kernel_rfl) (by kernel_rfl) ?hqa3 ?hya3 hHeld ?_
  case hia3 => simp only [List.getElem?_toArray, List.getElem?_cons_succ, List.getElem?_cons_zero]; rfl
  case hqa3 => exact fun _ _ _ h => h
  case hya3 => (refine Or.inl ⟨by rfl, ?_⟩; intro w' hSw; (try dsimp only at hSw); go_simp; (try (with_reducible rfl)))
  simp only [Act.put, List.setIfInBounds_toArray, List.set_cons_zero, List.set_cons_succ]
  refine wpAnyH_take (i := 4) (oi := ?oia4) (v := ?vva4) ?hia4 (by kernel_rfl) (by kernel_rfl) (by kernel_rfl) ?hqa4 ?hya4 hHeld ?_
  case hia4 => simp only [List.getElem?_toArray, List.getElem?_cons_succ, List.getElem?_cons_zero]; rfl
  case hqa4 => exact fun _ _ _ h => h
  case hya4 => (refine Or.inl ⟨by rfl, ?_⟩; intro w' hSw; (try dsimp only at hSw); go_simp; (try (with_reducible rfl)))
  simp only [Act.put, List.setIfInBounds_toArray, List.set_cons_zero, List.set_cons_succ]
  refine wpAnyH_take (i := 5) (oi := ?oia5) (v := ?vva5) ?hia5 (by kernel_rfl) (by kernel_rfl) (by kernel_rfl) ?hqa5 ?hya5 hHeld ?_
  case hia5 => simp only [List.getElem?_toArray, List.getElem?_cons_succ, List.getElem?_cons_zero]; rfl
  case hqa5 => exact fun _ _ _ h => h
  case hya5 => (refine Or.inl ⟨by rfl, ?_⟩; intro w' hSw; (try dsimp only at hSw); go_simp; (try (with_reducible rfl)))
  simp only [Act.put, List.setIfInBounds_toArray, List.set_cons_zero, List.set_cons_succ]
  refine wpAnyH_take (i := 6) (oi := ?oia6) (v := ?vva6) ?hia6 (by kernel_rfl) (by kernel_rfl) (by kernel_rfl) ?hqa6 ?hya6 hHeld ?_
  case hia6 => simp only [List.getElem?_toArray, List.getElem?_cons_succ, List.getElem?_cons_zero]; rfl
  case hqa6 => exact fun _ _ _ h => h
  case hya6 => (refine Or.inl ⟨by rfl, ?_⟩; intro w' hSw; (try dsimp only at hSw); go_simp; (try (with_reducible rfl)))
  simp only [Act.put, List.setIfInBounds_toArray, List.set_cons_zero, List.set_cons_succ]
  refine wpAnyH_take (i := 7) (oi := ?oia7) (v := ?vva7) ?hia7 (by kernel_rfl) (by kernel_rfl) (by kernel_rfl) ?hqa7 ?hya7 hHeld ?_
  case hia7 => simp only [List.getElem?_toArray, List.getElem?_cons_succ, List.getElem?_cons_zero]; rfl
  case hqa7 => exact fun _ _ _ h => h
  case hya7 => (refine Or.inl ⟨by rfl, ?_⟩; intro w' hSw; (try dsimp only at hSw); go_simp; (try (with_reducible rfl)))
  simp only [Act.put, List.setIfInBounds_toArray, List.set_cons_zero, List.set_cons_succ]
  refine wpAnyH_take (i := 8) (oi := ?oia8) (v := ?vva8) ?hia8 (by kernel_rfl) (by kernel_rfl) (by kernel_rfl) ?hqa8 ?hya8 hHeld ?_
  case hia8 => simp only [List.getElem?_toArray, List.getElem?_cons_succ, List.getElem?_cons_zero]; rfl
  case hqa8 => exact fun _ _ _ h => h
  case hya8 => (refine Or.inl ⟨by rfl, ?_⟩; intro w' hSw; (try dsimp only at hSw); go_simp; (try (with_reducible rfl)))
  simp only [Act.put, List.setIfInBounds_toArray, List.set_cons_zero, List.set_cons_succ]
  refine wpAnyH_take (i := 9) (oi := ?oia9) (v := ?vva9) ?hia9 (by kernel_rfl) (by kernel_rfl) (by kernel_rfl) ?hqa9 ?hya9 hHeld ?_
  case hia9 => simp only [List.getElem?_toArray, List.getElem?_cons_succ, List.getElem?_cons_zero]; rfl
  case hqa9 => exact fun _ _ _ h => h
  case hya9 => (refine Or.inl ⟨by rfl, ?_⟩; intro w' hSw; (try dsimp only at hSw); go_simp; (try (with_reducible rfl)))
  simp only [Act.put, List.setIfInBounds_toArray, List.set_cons_zero, List.set_cons_succ]
  refine wpAnyH_take (i := 10) (oi := ?oia10) (v := ?vva10) ?hia10 (by kernel_rfl) (by kernel_rfl) (by kernel_rfl) ?hqa10 ?hya10 hHeld ?_
  case hia10 => simp only [List.getElem?_toArray, List.getElem?_cons_succ, List.getElem?_cons_zero]; rfl
  case hqa10 => exact fun _ _ _ h => h
  case hya10 => (refine Or.inl ⟨by rfl, ?_⟩; intro w' hSw; (try dsimp only at hSw); go_simp; (try (with_reducible rfl)))
  simp only [Act.put, List.setIfInBounds_toArray, List.set_cons_zero, List.set_cons_succ]
  refine wpAnyH_take (i := 11) (oi := ?oia11) (v := ?vva11) ?hia11 (by kernel_rfl) (by kernel_rfl) (by kernel_rfl) ?hqa11 ?hya11 hHeld ?_
  case hia11 => simp only [List.getElem?_toArray, List.getElem?_cons_succ, List.getElem?_cons_zero]; rfl
  case hqa11 => exact fun _ _ _ h => h
  case hya11 => (refine Or.inl ⟨by rfl, ?_⟩; intro w' hSw; (try dsimp only at hSw); go_simp; (try (with_reducible rfl)))
  simp only [Act.put, List.setIfInBounds_toArray, List.set_cons_zero, List.set_cons_succ]
  refine wpAnyH_take (i := 12) (oi := ?oia12) (v := ?vva12) ?hia12 (by kernel_rfl) (by kernel_rfl) (by kernel_rfl) ?hqa12 ?hya12 hHeld ?_
  case hia12 => simp only [List.getElem?_toArray, List.getElem?_cons_succ, List.getElem?_cons_zero]; rfl
  case hqa12 => exact fun _ _ _ h => h
  case hya12 => (refine Or.inl ⟨by rfl, ?_⟩; intro w' hSw; (try dsimp only at hSw); go_simp; (try (with_reducible rfl)))
  simp only [Act.put, List.setIfInBounds_toArray, List.set_cons_zero, List.set_cons_succ]
  refine wpAnyH_take (i := 13) (oi := ?oia13) (v := ?vva13) ?hia13 (by kernel_rfl) (by kernel_rfl) (by kernel_rfl) ?hqa13 ?hya13 hHeld ?_
  case hia13 => simp only [List.getElem?_toArray, List.getElem?_cons_succ, List.getElem?_cons_zero]; rfl
  case hqa13 => exact fun _ _ _ h => h
  case hya13 => (refine Or.inl ⟨by rfl, ?_⟩; intro w' hSw; (try dsimp only at hSw); go_simp; (try (with_reducible rfl)))
  simp only [Act.put, List.setIfInBounds_toArray, List.set_cons_zero, List.set_cons_succ]
  refine wpAnyH_take (i := 14) (oi := ?oia14) (v := ?vva14) ?hia14 (by kernel_rfl) (by kernel_rfl) (by kernel_rfl) ?hqa14 ?hya14 hHeld ?_
  case hia14 => simp only [List.getElem?_toArray, List.getElem?_cons_succ, List.getElem?_cons_zero]; rfl
  case hqa14 => exact fun _ _ _ h => h
  case hya14 => (refine Or.inl ⟨by rfl, ?_⟩; intro w' hSw; (try dsimp only at hSw); go_simp; (try (with_reducible rfl)))
  simp only [Act.put, List.setIfInBounds_toArray, List.set_cons_zero, List.set_cons_succ]
  refine wpAnyH_take (i := 15) (oi := ?oia15) (v := ?vva15) ?hia15 (by kernel_rfl) (by kernel_rfl) (by kernel_rfl) ?hqa15 ?hya15 hHeld ?_
  case hia15 => simp only [List.getElem?_toArray, List.getElem?_cons_succ, List.getElem?_cons_zero]; rfl
  case hqa15 => exact fun _ _ _ h => h
  case hya15 => (refine Or.inl ⟨by rfl, ?_⟩; intro w' hSw; (try dsimp only at hSw); go_simp; (try (with_reducible rfl)))
  simp only [Act.put, List.setIfInBounds_toArray, List.set_cons_zero, List.set_cons_succ]
  refine wpAnyH_take (i := 16) (oi := ?oia16) (v := ?vva16) ?hia16 (by kernel_rfl) (by kernel_rfl) (by kernel_rfl) ?hqa16 ?hya16 hHeld ?_
  case hia16 => simp only [List.getElem?_toArray, List.getElem?_cons_succ, List.getElem?_cons_zero]; rfl
  case hqa16 => exact fun _ _ _ h => h
  case hya16 => (refine Or.inl ⟨by rfl, ?_⟩; intro w' hSw; (try dsimp only at hSw); go_simp; (try (with_reducible rfl)))
  simp only [Act.put, List.setIfInBounds_toArray, List.set_cons_zero, List.set_cons_succ]
  refine wpAnyH_take (i := 17) (oi := ?oia17) (v := ?vva17) ?hia17 (by kernel_rfl) (by kernel_rfl) (by kernel_rfl) ?hqa17 ?hya17 hHeld ?_
  case hia17 => simp only [List.getElem?_toArray, List.getElem?_cons_succ, List.getElem?_cons_zero]; rfl
  case hqa17 => exact fun _ _ _ h => h
  case hya17 => (refine Or.inl ⟨by rfl, ?_⟩; intro w' hSw; (try dsimp only at hSw); go_simp; (try (with_reducible rfl)))
  simp only [Act.put, List.setIfInBounds_toArray, List.set_cons_zero, List.set_cons_succ]
  refine wpAnyH_done (by kernel_rfl) ?_ _
  clear hHeld
  have HBL : Hid (∀ b, (Value.slice a2 n2 cap2).ownBlock = some b → b < w2.heap.size) := fun b hb => Nat.lt_of_lt_of_le (HNE.out.2.2.2.1 b hb) HB.out.size
  have HO2 : Hid (w2.ownsRow 0 32 3 (Value.slice a2 n2 cap2) n2 xs) := owns_of_heap HO.out (fun b hb => HB.out.block b (HNE.out.2.2.2.1 b hb))
  have pl : p < w2.heap.size := block_lt_of_cell d2
  have HK1 : Hid (∀ W1, ((w2.drew.drew).alloc (.cells ([.int .i64 2, .int .i64 vn, .int .i64 vb] : List Value).toArray 32)).grownBy W1 (Value.slice a2 n2 cap2).ownBlock → W1.cell? ⟨p, 1, none⟩ = some (Value.slice a2 n2 cap2) ∧ W1.frozen? ⟨p, 1, none⟩ = false) := fun W1 hg =>
    ⟨(hg.cell_far ⟨p, 1, none⟩ (by simp; omega) (Ne.symm HNE.out.1)).trans (keep_alloc d2 _), (hg.frozen_far ⟨p, 1, none⟩ (by simp; omega) (Ne.symm HNE.out.1)).trans (by rw [((Below.refl _ (w2.drew.drew)).alloc (Nat.le_refl _) _).frozen (p := ⟨p, 1, none⟩) pl]; exact y2)⟩
  go_wp2_with fail
  go_region_law ((refine step_append_lies _ (by rfl) _ _ 28 (by rfl) 0 32 i0 (.agg #[.int .i64 0, .int .i64 0, .int .i64 0]) 3 24 Try.underlying28 HI.out.1 HI.out.2.1 HI.out.2.2.1 HI.out.2.2.2 rfl (by omega) (Value.slice a2 n2 cap2) n2 xs (by rfl) (owns_of_heap HO2.out (fun b hb => Below.heap_alloc (w2.drew.drew) _ b (HBL.out b hb))) ⟨w2.heap.size, 0, none⟩ 1 1 [.int .i64 2, .int .i64 vn, .int .i64 vb] (by rfl) (by rfl) (World.news_of_block (heap_alloc_new (w2.drew.drew) _)) H1.out (by omega) (by have := HNE.out.2.2.2.2; unfold maxLen; omega) (by have := HNE.out.2.2.2.2; omega) (Nat.zero_le _) (w2.heap.size + 1) (by simp) ?_; intro g2 cap' w3 hown hgrow hat hlt; obtain ⟨k1, y1⟩ := HK1.out _ hgrow; have HQ : Hid ((((w2.drew.drew).alloc (.cells ([.int .i64 2, .int .i64 vn, .int .i64 vb] : List Value).toArray 32)).grownBy w3 (Value.slice a2 n2 cap2).ownBlock) ∧ w3.ownsRow 0 32 3 (.slice (some ⟨g2, 0, none⟩) (n2 + 1) cap') (n2 + 1) (xs ++ [.int .i64 2, .int .i64 vn, .int .i64 vb]) ∧ ((Value.slice a2 n2 cap2).ownBlock = some g2 ∨ g2 = w2.heap.size + 1) ∧ g2 < w3.heap.size) := ⟨hgrow, hown, hat, hlt⟩; clear hown hgrow hat hlt))
  all_goals
    have f1 : (w3.setCell ⟨p, 1, none⟩ (.slice (some ⟨g2, 0, none⟩) (n2 + 1) cap')).cell? ⟨p, 1, none⟩ = some (.slice (some ⟨g2, 0, none⟩) (n2 + 1) cap') := by go_simp
    have H0 : Hid (RowAt (w3.setCell ⟨p, 1, none⟩ (.slice (some ⟨g2, 0, none⟩) (n2 + 1) cap')) (w3.setCell ⟨p, 1, none⟩ (.slice (some ⟨g2, 0, none⟩) (n2 + 1) cap')) bb (wrt bs nn (fun i => 1000 + 8 * (n2 : Int) + i) 0)) := by
      refine ⟨rfl, rfl, rfl, Nat.le_refl _, fun k _ _ => rfl, ?_⟩
      have hlt := row_lt HRW.out
      have hsz := HB.out.size
      rw [heap_set_other (Ne.symm HNE.out.2.2.1), HQ.out.1.block bb (by simp; omega) (Ne.symm HNE.out.2.1), Below.heap_alloc (w2.drew.drew) _ bb (by simp; omega)]
      exact (HB.out.block bb hlt).trans HRW.out
    obtain ⟨W3, hW3⟩ : ∃ W3, W3 = w3.setCell ⟨p, 1, none⟩ (.slice (some ⟨g2, 0, none⟩) (n2 + 1) cap') := ⟨_, rfl⟩
    rw [← hW3] at f1 H0 ⊢
    have HW3 : Hid (W3 = w3.setCell ⟨p, 1, none⟩ (.slice (some ⟨g2, 0, none⟩) (n2 + 1) cap')) := hW3
    clear hW3 k1 y1 d2 y2 c0 c1 HK1 HO2 HBL HI
    go_wp2
    go_loopw [11] (fun v wr => ∃ i : Nat, i ≤ 8 ∧ v = .int .i64 i ∧ Hid (RowAt W3 wr bb (wrt bs nn (fun i => 1000 + 8 * (n2 : Int) + i) i))) (fun v _ => 8 - (intOf v).toNat)
    case atStart => exact ⟨0, by omega, rfl, H0⟩
    case round =>
      obtain ⟨i, hi, rfl, HA⟩ := hrel
      by_cases him : i < 8
      · have i0 : (0 : Int) ≤ i := by omega
        have i1 : (i : Int) < 8 := by omega
        have ci := HA.out.at (o := nn + i) (by rw [wrt_len, ← HM.out]; omega)
        have fi := HA.out.fz (nn + i)
        generalize (wrt bs nn (fun i => 1000 + 8 * (n2 : Int) + i) i)[nn + i]'(by rw [wrt_len, ← HM.out]; omega) = y at ci
        have x1 := HA.out.cell f1 HNE.out.2.2.1
        have hpb : ¬ p = bb := HNE.out.2.2.1
        have hpb' : ¬ bb = p := fun h => HNE.out.2.2.1 h.symm
        go_wp2
        go_roundw
        case rel =>
          refine ⟨i + 1, by omega, by simp, ?_⟩
          have h := (HA.out.set (nn + i) (-1)).set (nn + i) (1000 + 8 * (n2 : Int) + i)
          rw [List.set_set] at h
          exact h
        case measure => simp [intOf]; omega
      · have hie : i = 8 := by omega
        subst hie
        go_wp2
        go_ret
        exact ⟨rfl, g2, cap', w2.drew.drew, w3, ⟨HB.out.os, HB.out.tape, HB.out.output, HB.out.size, HB.out.block⟩, HQ.out.1, HQ.out.2.1, HQ.out.2.2.1, HQ.out.2.2.2, by rw [← HW3.out]; exact HA.out⟩

end Go.Proofs.Ytnklpccggbkknaa
