/- The document's own Load: the walks. -/
import Derived.Test.YtnklpccggbkknaaNStore2
import Derived.Deep.DeepCutAuto
namespace Go.Proofs.Ytnklpccggbkknaa
open Go.ChangeShapes Go.WideShapes Go.ChangeAt Go.RowKit Pl
set_option linter.unusedSimpArgs false
set_option linter.unusedVariables false

/-- Are the first i of these bytes numbers? -/
def allB (f : Nat → Int) : Nat → Bool
  | 0 => true
  | i + 1 => allB f i && decide (0 ≤ f i) && decide (f i < 256)
/-- Are the first i of these bytes parts of one pointer, in order? -/
def partB (f : Nat → Int) (p : Bool) : Nat → Bool
  | 0 => p
  | i + 1 => partB f p i && decide (1000 ≤ f i) && (f i == f 0 + i) && ((f 0).tmod 8 == 0)
theorem part_false (f : Nat → Int) : ∀ i, partB f false i = false
  | 0 => rfl
  | i + 1 => by simp [partB, part_false f i]
/-- The number that the first i bytes make. -/
def numB (f : Nat → Int) : Nat → Int
  | 0 => 0
  | i + 1 => bits .or .u64 (numB f i) (IntKind.u64.wrap (IntKind.u64.wrap (bits .and .i64 (f i) 255) * 2 ^ (8 * i)))
/-- What is read of c bytes; pv: the pointer that they are parts of. -/
def loadG (c : Nat) (f : Nat → Int) (pv : V) : V :=
  if allB f c = true then (if c = 1 then ofF (wrap64 (IntKind.i8.wrap (wrap64 (numB f 1)))) else if c = 4 then ofF (wrap64 (wrap32 (wrap64 (numB f 4)))) else ofF (wrap64 (numB f 8)))
  else if c = 8 ∧ partB f true 8 = true then pv else noV


set_option maxHeartbeats 2000000 in
theorem rload_no (p : Nat) (c uk un ub : Int) (w : World) (HR : Hid (∀ W, Below w.heap.size w W → Calls Try.prog 37 #[.pointer (some ⟨p, 0, none⟩), .int .i64 c, .agg #[.int .i64 uk, .int .i64 un, .int .i64 ub]] W (retP (.bool false) W))) :
    Calls Try.prog 14 #[.pointer (some ⟨p, 0, none⟩), .int .i64 c, .agg #[.int .i64 uk, .int .i64 un, .int .i64 ub]] w (retV noV false w) := by
  go_enter Try.func14, Try.ntmps14
  go_wp2_with fail
  refine (HR.out _ (by repeat (first | with_reducible exact Below.refl _ _ | with_reducible refine bel_alloc ?_ _ | with_reducible refine bel_set ?_ (by first | exact Nat.le_refl _ | (simp; done) | (simp; omega)) _ | with_reducible refine Below.drew ?_ | refine bel_trans ?_ (by assumption)))).mono ?_
  rintro e w1 ⟨rfl, hb1⟩
  have u0 : w1.cell? ⟨w.heap.size, 0, none⟩ = some (.int .i64 uk) := keep_cell hb1 (by go_simp)
  have u1 : w1.cell? ⟨w.heap.size, 1, none⟩ = some (.int .i64 un) := keep_cell hb1 (by go_simp)
  have u2 : w1.cell? ⟨w.heap.size, 2, none⟩ = some (.int .i64 ub) := keep_cell hb1 (by go_simp)
  have r0 : w1.cell? ⟨(w.heap.size + 1), 0, none⟩ = some (.int .i64 0) := keep_cell hb1 (by go_simp)
  have r1 : w1.cell? ⟨(w.heap.size + 1), 1, none⟩ = some (.int .i64 0) := keep_cell hb1 (by go_simp)
  have r2 : w1.cell? ⟨(w.heap.size + 1), 2, none⟩ = some (.int .i64 0) := keep_cell hb1 (by go_simp)
  have rf0 : w1.frozen? ⟨(w.heap.size + 1), 0, none⟩ = false := keep_frozen hb1 (v := .int .i64 0) (by go_simp) (by go_simp)
  have rf1 : w1.frozen? ⟨(w.heap.size + 1), 1, none⟩ = false := keep_frozen hb1 (v := .int .i64 0) (by go_simp) (by go_simp)
  have rf2 : w1.frozen? ⟨(w.heap.size + 1), 2, none⟩ = false := keep_frozen hb1 (v := .int .i64 0) (by go_simp) (by go_simp)
  have uL : w.heap.size < w1.heap.size := block_lt_of_cell u0
  have rL : (w.heap.size + 1) < w1.heap.size := block_lt_of_cell r0
  have HB : Hid (Below w.heap.size w w1) := (by repeat (first | with_reducible exact Below.refl _ _ | with_reducible refine bel_alloc ?_ _ | with_reducible refine bel_set ?_ (by first | exact Nat.le_refl _ | (simp; done) | (simp; omega)) _ | with_reducible refine Below.drew ?_ | refine bel_trans ?_ (by assumption)))
  clear hb1
  go_wp2
  exact end_V (by simp [results, Try.results14, go_sem, noV, r0, r1, r2]) rfl (bel_set (bel_set (bel_set HB.out (by simp) _) (by simp) _) (by simp) _)


set_option maxRecDepth 100000 in
set_option maxHeartbeats 8000000 in
theorem rload_in8 (p l cap g kk bb ln nn : Nat) (uk ub : Int) (f : Nat → Int) (w : World) (V1 pv : V) (g2 n2 cap2 : Nat) (HR : Hid (∀ W, Below w.heap.size w W → Calls Try.prog 37 #[.pointer (some ⟨p, 0, none⟩), .int .i64 8, .agg #[.int .i64 uk, .int .i64 (nn : Int), .int .i64 ub]] W (retP (.bool true) W)))
    (e0 : w.cell? ⟨p, 0, none⟩ = some (.slice (some ⟨g, 0, none⟩) l cap)) (e1 : w.cell? ⟨g, kk * 2, none⟩ = some (.slice (some ⟨bb, 0, none⟩) ln ln)) (hk : ub - 1 = kk) (hl : (kk : Int) < l) (hl2 : (l : Int) ≤ 100000) (hln : (ln : Int) ≤ 65536) (hnc : (nn : Int) + 8 ≤ ln) (hb64 : ∀ i, -10000000000000000 ≤ f i ∧ f i ≤ 10000000000000000) (hbc : ∀ i, i < 8 → w.cell? ⟨bb, nn + i, none⟩ = some (.int .i64 (f i))) 
    (HV : Hid (V1 = loadG 8 f pv)) (HPT : Hid (partB f true 8 = true → ∃ k2 : Nat, (f 0 - 1000).tdiv 8 = k2 ∧ (k2 : Int) < n2 ∧ (n2 : Int) ≤ 100000 ∧ w.cell? ⟨p, 1, none⟩ = some (.slice (some ⟨g2, 0, none⟩) n2 cap2) ∧ w.cell? ⟨g2, k2 * 3, none⟩ = some (.int .i64 pv.k) ∧ w.cell? ⟨g2, k2 * 3 + 1, none⟩ = some (.int .i64 pv.n) ∧ w.cell? ⟨g2, k2 * 3 + 2, none⟩ = some (.int .i64 pv.b))) :
    Calls Try.prog 14 #[.pointer (some ⟨p, 0, none⟩), .int .i64 8, .agg #[.int .i64 uk, .int .i64 (nn : Int), .int .i64 ub]] w (retV V1 true w) := by
  have hw1 : IntKind.i64.wrap (ub - 1) = (kk : Int) := by rw [i64w, hk]; unfold wrap64; omega
  have hw2 : IntKind.i64.wrap ((nn : Int) + 8) = (nn : Int) + 8 := by rw [i64w]; unfold wrap64; omega
  have kk0 : (0 : Int) ≤ kk := by omega
  have kkn : ((kk : Int)).toNat = kk := by omega
  have nn0 : (0 : Int) ≤ nn := by omega
  have nnh : (nn : Int) ≤ (nn : Int) + 8 := by omega
  have nnt : ((nn : Int) + 8).toNat = nn + 8 := by omega
  have nne : ¬ ln = nn := by omega
  have HBC : Hid (∀ i, i < 8 → w.cell? ⟨bb, nn + i, none⟩ = some (.int .i64 (f i))) := hbc
  clear hbc
  go_enter Try.func14, Try.ntmps14
  go_wp2_with fail
  refine (HR.out _ (by repeat (first | with_reducible exact Below.refl _ _ | with_reducible refine bel_alloc ?_ _ | with_reducible refine bel_set ?_ (by first | exact Nat.le_refl _ | (simp; done) | (simp; omega)) _ | with_reducible refine Below.drew ?_ | refine bel_trans ?_ (by assumption)))).mono ?_
  rintro e w1 ⟨rfl, hb1⟩
  have u0 : w1.cell? ⟨w.heap.size, 0, none⟩ = some (.int .i64 uk) := keep_cell hb1 (by go_simp)
  have u1 : w1.cell? ⟨w.heap.size, 1, none⟩ = some (.int .i64 (nn : Int)) := keep_cell hb1 (by go_simp)
  have u2 : w1.cell? ⟨w.heap.size, 2, none⟩ = some (.int .i64 ub) := keep_cell hb1 (by go_simp)
  have r0 : w1.cell? ⟨(w.heap.size + 1), 0, none⟩ = some (.int .i64 0) := keep_cell hb1 (by go_simp)
  have r1 : w1.cell? ⟨(w.heap.size + 1), 1, none⟩ = some (.int .i64 0) := keep_cell hb1 (by go_simp)
  have r2 : w1.cell? ⟨(w.heap.size + 1), 2, none⟩ = some (.int .i64 0) := keep_cell hb1 (by go_simp)
  have rf0 : w1.frozen? ⟨(w.heap.size + 1), 0, none⟩ = false := keep_frozen hb1 (v := .int .i64 0) (by go_simp) (by go_simp)
  have rf1 : w1.frozen? ⟨(w.heap.size + 1), 1, none⟩ = false := keep_frozen hb1 (v := .int .i64 0) (by go_simp) (by go_simp)
  have rf2 : w1.frozen? ⟨(w.heap.size + 1), 2, none⟩ = false := keep_frozen hb1 (v := .int .i64 0) (by go_simp) (by go_simp)
  have uL : w.heap.size < w1.heap.size := block_lt_of_cell u0
  have rL : (w.heap.size + 1) < w1.heap.size := block_lt_of_cell r0
  have HB : Hid (Below w.heap.size w w1) := (by repeat (first | with_reducible exact Below.refl _ _ | with_reducible refine bel_alloc ?_ _ | with_reducible refine bel_set ?_ (by first | exact Nat.le_refl _ | (simp; done) | (simp; omega)) _ | with_reducible refine Below.drew ?_ | refine bel_trans ?_ (by assumption)))
  clear hb1
  have c0 := keep_cell HB.out e0
  have c1 := keep_cell HB.out e1
  go_wp2_with fail
  clear HR hk
  refine wp_region_held_drew (S := (fun w' => w'.cell? ⟨w.heap.size, 1, none⟩ = some (.int .i64 (nn : Int)) ∧ w'.cell? ⟨w.heap.size, 2, none⟩ = some (.int .i64 ub) ∧ w'.cell? ⟨p, 0, none⟩ = some (.slice (some ⟨g, 0, none⟩) l cap) ∧ w'.cell? ⟨g, kk * 2, none⟩ = some (.slice (some ⟨bb, 0, none⟩) ln ln))) (by kernel_rfl) (⟨u1, u2, c0, c1⟩) (fun hHeld => ?_)
  refine wpAnyH_take (i := 0) (oi := ?oia0) (v := ?vva0) ?hia0 (by kernel_rfl) (by kernel_rfl) (by kernel_rfl) ?hqa0 ?hya0 hHeld ?_
  case hia0 => simp only [List.getElem?_toArray, List.getElem?_cons_succ, List.getElem?_cons_zero]; rfl
  case hqa0 => exact fun _ _ _ h => h
  case hya0 => (refine Or.inl ⟨by rfl, ?_⟩; intro w' hSw; (try dsimp only at hSw); go_simp; (try (with_reducible rfl)))
  simp only [Act.put, List.setIfInBounds_toArray, List.set_cons_zero, List.set_cons_succ]
  refine wpAnyH_take (i := 1) (oi := ?oia1) (v := ?vva1) ?hia1 (by kernel_rfl) (by kernel_rfl) (by kernel_rfl) ?hqa1 ?hya1 hHeld ?_
  case hia1 => simp only [List.getElem?_toArray, List.getElem?_cons_succ, List.getElem?_cons_zero]; rfl
  case hqa1 => exact fun _ _ _ h => h
  case hya1 => (refine Or.inl ⟨by rfl, ?_⟩; intro w' hSw; (try dsimp only at hSw); go_simp; (try (with_reducible rfl)))
  simp only [Act.put, List.setIfInBounds_toArray, List.set_cons_zero, List.set_cons_succ]
  refine wpAnyH_take (i := 2) (oi := ?oia2) (v := ?vva2) ?hia2 (by kernel_rfl) (by kernel_rfl) (by kernel_rfl) ?hqa2 ?hya2 hHeld ?_
  case hia2 => simp only [List.getElem?_toArray, List.getElem?_cons_succ, List.getElem?_cons_zero]; rfl
  case hqa2 => exact fun _ _ _ h => h
  case hya2 => (refine Or.inl ⟨by rfl, ?_⟩; intro w' hSw; (try dsimp only at hSw); go_simp; (try (with_reducible rfl)))
  simp only [Act.put, List.setIfInBounds_toArray, List.set_cons_zero, List.set_cons_succ]
  refine wpAnyH_take (i := 3) (oi := ?oia3) (v := ?vva3) ?hia3 (by kernel_rfl) (by kernel_rfl) (by kernel_rfl) ?hqa3 ?hya3 hHeld ?_
  case hia3 => simp only [List.getElem?_toArray, List.getElem?_cons_succ, List.getElem?_cons_zero]; rfl
  case hqa3 => exact fun _ _ _ h => h
  case hya3 => (refine Or.inl ⟨by rfl, ?_⟩; intro w' hSw; (try dsimp only at hSw); go_simp; (try (with_reducible rfl)))
  simp only [Act.put, List.setIfInBounds_toArray, List.set_cons_zero, List.set_cons_succ]
  refine wpAnyH_take (i := 4) (oi := ?oia4) (v := ?vva4) ?hia4 (by kernel_rfl) (by kernel_rfl) (by kernel_rfl) ?hqa4 ?hya4 hHeld ?_
  case hia4 => simp only [List.getElem?_toArray, List.getElem?_cons_succ, List.getElem?_cons_zero]; rfl
  case hqa4 => exact fun _ _ _ h => h
  case hya4 => (refine Or.inl ⟨by rfl, ?_⟩; intro w' hSw; (try dsimp only at hSw); go_simp; (try (with_reducible rfl)))
  simp only [Act.put, List.setIfInBounds_toArray, List.set_cons_zero, List.set_cons_succ]
  refine wpAnyH_take (i := 5) (oi := ?oia5) (v := ?vva5) ?hia5 (by kernel_rfl) (by kernel_rfl) (by kernel_rfl) ?hqa5 ?hya5 hHeld ?_
  case hia5 => simp only [List.getElem?_toArray, List.getElem?_cons_succ, List.getElem?_cons_zero]; rfl
  case hqa5 => exact fun _ _ _ h => h
  case hya5 => (refine Or.inl ⟨by rfl, ?_⟩; intro w' hSw; (try dsimp only at hSw); go_simp; (try (with_reducible rfl)))
  simp only [Act.put, List.setIfInBounds_toArray, List.set_cons_zero, List.set_cons_succ]
  refine wpAnyH_take (i := 6) (oi := ?oia6) (v := ?vva6) ?hia6 (by kernel_rfl) (by kernel_rfl) (by kernel_rfl) ?hqa6 ?hya6 hHeld ?_
  case hia6 => simp only [List.getElem?_toArray, List.getElem?_cons_succ, List.getElem?_cons_zero]; rfl
  case hqa6 => exact fun _ _ _ h => h
  case hya6 => (refine Or.inl ⟨by rfl, ?_⟩; intro w' hSw; (try dsimp only at hSw); go_simp; (try (with_reducible rfl)))
  simp only [Act.put, List.setIfInBounds_toArray, List.set_cons_zero, List.set_cons_succ]
  refine wpAnyH_take (i := 7) (oi := ?oia7) (v := ?vva7) ?hia7 (by kernel_rfl) (by kernel_rfl) (by kernel_rfl) ?hqa7 ?hya7 hHeld ?_
  case hia7 => simp only [List.getElem?_toArray, List.getElem?_cons_succ, List.getElem?_cons_zero]; rfl
  case hqa7 => exact fun _ _ _ h => h
  case hya7 => (refine Or.inl ⟨by rfl, ?_⟩; intro w' hSw; (try dsimp only at hSw); go_simp; (try (with_reducible rfl)))
  simp only [Act.put, List.setIfInBounds_toArray, List.set_cons_zero, List.set_cons_succ]
  refine wpAnyH_take (i := 8) (oi := ?oia8) (v := ?vva8) ?hia8 (by kernel_rfl) (by kernel_rfl) (by kernel_rfl) ?hqa8 ?hya8 hHeld ?_
  case hia8 => simp only [List.getElem?_toArray, List.getElem?_cons_succ, List.getElem?_cons_zero]; rfl
  case hqa8 => exact fun _ _ _ h => h
  case hya8 => (refine Or.inl ⟨by rfl, ?_⟩; intro w' hSw; (try dsimp only at hSw); go_simp; (try (with_reducible rfl)))
  simp only [Act.put, List.setIfInBounds_toArray, List.set_cons_zero, List.set_cons_succ]
  refine wpAnyH_take (i := 9) (oi := ?oia9) (v := ?vva9) ?hia9 (by kernel_rfl) (by kernel_rfl) (by kernel_rfl) ?hqa9 ?hya9 hHeld ?_
  case hia9 => simp only [List.getElem?_toArray, List.getElem?_cons_succ, List.getElem?_cons_zero]; rfl
  case hqa9 => exact fun _ _ _ h => h
  case hya9 => (refine Or.inl ⟨by rfl, ?_⟩; intro w' hSw; (try dsimp only at hSw); go_simp; (try (with_reducible rfl)))
  simp only [Act.put, List.setIfInBounds_toArray, List.set_cons_zero, List.set_cons_succ]
  refine wpAnyH_take (i := 10) (oi := ?oia10) (v := ?vva10) ?hia10 (by kernel_rfl) (by kernel_rfl) (by kernel_rfl) ?hqa10 ?hya10 hHeld ?_
  case hia10 => simp only [List.getElem?_toArray, List.getElem?_cons_succ, List.getElem?_cons_zero]; rfl
  case hqa10 => exact fun _ _ _ h => h
  case hya10 => (refine Or.inl ⟨by rfl, ?_⟩; intro w' hSw; (try dsimp only at hSw); go_simp; (try (with_reducible rfl)))
  simp only [Act.put, List.setIfInBounds_toArray, List.set_cons_zero, List.set_cons_succ]
  refine wpAnyH_take (i := 11) (oi := ?oia11) (v := ?vva11) ?hia11 (by kernel_rfl) (by kernel_rfl) (by kernel_rfl) ?hqa11 ?hya11 hHeld ?_
  case hia11 => simp only [List.getElem?_toArray, List.getElem?_cons_succ, List.getElem?_cons_zero]; rfl
  case hqa11 => exact fun _ _ _ h => h
  case hya11 => (refine Or.inl ⟨by rfl, ?_⟩; intro w' hSw; (try dsimp only at hSw); go_simp; (try (with_reducible rfl)))
  simp only [Act.put, List.setIfInBounds_toArray, List.set_cons_zero, List.set_cons_succ]
  refine wpAnyH_take (i := 12) (oi := ?oia12) (v := ?vva12) ?hia12 (by kernel_rfl) (by kernel_rfl) (by kernel_rfl) ?hqa12 ?hya12 hHeld ?_
  case hia12 => simp only [List.getElem?_toArray, List.getElem?_cons_succ, List.getElem?_cons_zero]; rfl
  case hqa12 => exact fun _ _ _ h => h
  case hya12 => (refine Or.inl ⟨by rfl, ?_⟩; intro w' hSw; (try dsimp only at hSw); go_simp; (try (with_reducible rfl)))
  simp only [Act.put, List.setIfInBounds_toArray, List.set_cons_zero, List.set_cons_succ]
  refine wpAnyH_take (i := 13) (oi := ?oia13) (v := ?vva13) ?hia13 (by kernel_rfl) (by kernel_rfl) (by kernel_rfl) ?hqa13 ?hya13 hHeld ?_
  case hia13 => simp only [List.getElem?_toArray, List.getElem?_cons_succ, List.getElem?_cons_zero]; rfl
  case hqa13 => exact fun _ _ _ h => h
  case hya13 => (refine Or.inl ⟨by rfl, ?_⟩; intro w' hSw; (try dsimp only at hSw); go_simp; (try (with_reducible rfl)))
  simp only [Act.put, List.setIfInBounds_toArray, List.set_cons_zero, List.set_cons_succ]
  refine wpAnyH_take (i := 14) (oi := ?oia14) (v := ?vva14) ?hia14 (by kernel_rfl) (by kernel_rfl) (by kernel_rfl) ?hqa14 ?hya14 hHeld ?_
  case hia14 => simp only [List.getElem?_toArray, List.getElem?_cons_succ, List.getElem?_cons_zero]; rfl
  case hqa14 => exact fun _ _ _ h => h
  case hya14 => (refine Or.inl ⟨by rfl, ?_⟩; intro w' hSw; (try dsimp only at hSw); go_simp; (try (with_reducible rfl)))
  simp only [Act.put, List.setIfInBounds_toArray, List.set_cons_zero, List.set_cons_succ]
  refine wpAnyH_take (i := 15) (oi := ?oia15) (v := ?vva15) ?hia15 (by kernel_rfl) (by kernel_rfl) (by kernel_rfl) ?hqa15 ?hya15 hHeld ?_
  case hia15 => simp only [List.getElem?_toArray, List.getElem?_cons_succ, List.getElem?_cons_zero]; rfl
  case hqa15 => exact fun _ _ _ h => h
  case hya15 => (refine Or.inl ⟨by rfl, ?_⟩; intro w' hSw; (try dsimp only at hSw); go_simp; (try (with_reducible rfl)))
  simp only [Act.put, List.setIfInBounds_toArray, List.set_cons_zero, List.set_cons_succ]
  refine wpAnyH_take (i := 16) (oi := ?oia16) (v := ?vva16) ?hia16 (by kernel_rfl) (by kernel_rfl) (by kernel_rfl) ?hqa16 ?hya16 hHeld ?_
  case hia16 => simp only [List.getElem?_toArray, List.getElem?_cons_succ, List.getElem?_cons_zero]; rfl
  case hqa16 => exact fun _ _ _ h => h
  case hya16 => (refine Or.inl ⟨by rfl, ?_⟩; intro w' hSw; (try dsimp only at hSw); go_simp; (try (with_reducible rfl)))
  simp only [Act.put, List.setIfInBounds_toArray, List.set_cons_zero, List.set_cons_succ]
  refine wpAnyH_take (i := 17) (oi := ?oia17) (v := ?vva17) ?hia17 (by kernel_rfl) (by kernel_rfl) (by kernel_rfl) ?hqa17 ?hya17 hHeld ?_
  case hia17 => simp only [List.getElem?_toArray, List.getElem?_cons_succ, List.getElem?_cons_zero]; rfl
  case hqa17 => exact fun _ _ _ h => h
  case hya17 => (refine Or.inl ⟨by rfl, ?_⟩; intro w' hSw; (try dsimp only at hSw); go_simp; (try (with_reducible rfl)))
  simp only [Act.put, List.setIfInBounds_toArray, List.set_cons_zero, List.set_cons_succ]
  refine wpAnyH_done (by kernel_rfl) ?_ _
  clear hHeld
  go_wp2
  go_loopw [9, 10, 11, 12] (fun nv av pv v wr => ∃ i : Nat, i ≤ 8 ∧ v = .int .i64 i ∧ nv = .int .u64 (numB f i) ∧ av = .bool (allB f i) ∧ pv = .bool (partB f true i) ∧ Hid (Below w1.heap.size w1 wr)) (fun _ _ _ v _ => 8 - (intOf v).toNat)
  case atStart => exact ⟨0, by omega, rfl, rfl, rfl, rfl, Below.drew (Below.refl _ _)⟩
  case round =>
    obtain ⟨i, hi, rfl, rfl, rfl, rfl, HBr⟩ := hrel
    by_cases hin : i < 8
    · have i0 : (0 : Int) ≤ i := by omega
      have i1 : (i : Int) < 8 := by omega
      have ci : wr.cell? ⟨bb, nn + i, none⟩ = some (.int .i64 (f i)) := keep_cell HBr.out (keep_cell HB.out (HBC.out i hin))
      have cz : wr.cell? ⟨bb, nn, none⟩ = some (.int .i64 (f 0)) := keep_cell HBr.out (keep_cell HB.out (HBC.out 0 (by omega)))
      have hwi : IntKind.i64.wrap (f 0 + i) = f 0 + i := by have := hb64 0; rw [i64w]; unfold wrap64; omega
      have hwm : IntKind.i64.wrap ((f 0).tmod 8) = (f 0).tmod 8 := by
        have h1 : (f 0).tmod 8 < 8 := Int.tmod_lt_of_pos _ (by decide)
        have h2 : -8 < (f 0).tmod 8 := by
          have := Int.tmod_lt_of_pos (-(f 0)) (show (0:Int) < 8 by decide)
          rw [Int.neg_tmod] at this; omega
        rw [i64w]; unfold wrap64; omega
      clear hb64
      go_upto_region 10 with fail
      go_cut [10] (fun sv w' => sv = .bool (allB f (i + 1)) ∧ w' = wr)
      case first =>
        cases hab : allB f i with
        | false =>
          have e : allB f (i + 1) = false := by simp [allB, hab]
          have HE : Hid (allB f (i + 1) = false) := e
          clear e hab
          go_wp2
          go_meet
          case rel => exact ⟨by rw [HE.out], rfl⟩
        | true =>
          by_cases q1 : 0 ≤ f i
          · have d1 : decide (0 ≤ f i) = true := decide_eq_true q1
            have e : allB f (i + 1) = decide (f i < 256) := by simp [allB, hab, q1]
            have HE : Hid (allB f (i + 1) = decide (f i < 256)) := e
            clear e hab q1
            go_wp2
            go_meet
            case rel => exact ⟨by rw [HE.out], rfl⟩
          · have d1 : decide (0 ≤ f i) = false := decide_eq_false q1
            have e : allB f (i + 1) = false := by simp [allB, q1]
            have HE : Hid (allB f (i + 1) = false) := e
            clear e hab q1
            go_wp2
            go_meet
            case rel => exact ⟨by rw [HE.out], rfl⟩
      case rest =>
        obtain ⟨rfl, rfl⟩ := hcut
        go_upto_region 11 with fail
        go_cut [11] (fun sv w' => sv = .bool (partB f true (i + 1)) ∧ Below w1.heap.size w1 w')
        case first =>
          cases hpb : partB f true i with
          | false =>
            have e : partB f true (i + 1) = false := by simp [partB, hpb]
            have HE : Hid (partB f true (i + 1) = false) := e
            clear e hpb
            go_wp2_with fail
            refine wp_region_held_drew (S := (fun w' => w'.cell? ⟨bb, nn + i, none⟩ = some (.int .i64 (f i)) ∧ w'.cell? ⟨bb, nn, none⟩ = some (.int .i64 (f 0)))) (by kernel_rfl) (⟨ci, cz⟩) (fun hHeld => ?_)
            refine wpAnyH_take (i := 0) (oi := ?oib0) (v := ?vvb0) ?hib0 (by kernel_rfl) (by kernel_rfl) (by kernel_rfl) ?hqb0 ?hyb0 hHeld ?_
            case hib0 => simp only [List.getElem?_toArray, List.getElem?_cons_succ, List.getElem?_cons_zero]; rfl
            case hqb0 => exact fun _ _ _ h => h
            case hyb0 => (refine Or.inl ⟨by rfl, ?_⟩; intro w' hSw; (try dsimp only at hSw); go_simp; (try (with_reducible rfl)))
            simp only [Act.put, List.setIfInBounds_toArray, List.set_cons_zero, List.set_cons_succ]
            refine wpAnyH_take (i := 1) (oi := ?oib1) (v := ?vvb1) ?hib1 (by kernel_rfl) (by kernel_rfl) (by kernel_rfl) ?hqb1 ?hyb1 hHeld ?_
            case hib1 => simp only [List.getElem?_toArray, List.getElem?_cons_succ, List.getElem?_cons_zero]; rfl
            case hqb1 => exact fun _ _ _ h => h
            case hyb1 => (refine Or.inl ⟨by rfl, ?_⟩; intro w' hSw; (try dsimp only at hSw); go_simp; (try (with_reducible rfl)))
            simp only [Act.put, List.setIfInBounds_toArray, List.set_cons_zero, List.set_cons_succ]
            refine wpAnyH_take (i := 2) (oi := ?oib2) (v := undef) ?hib2 (by kernel_rfl) (by kernel_rfl) (by kernel_rfl) ?hqb2 ?hyb2 hHeld ?_
            case hib2 => simp only [List.getElem?_toArray, List.getElem?_cons_succ, List.getElem?_cons_zero]; rfl
            case hqb2 => exact fun _ _ _ h => h
            case hyb2 => exact Or.inr ⟨by rfl, rfl⟩
            simp only [Act.put, List.setIfInBounds_toArray, List.set_cons_zero, List.set_cons_succ]
            refine wpAnyH_take (i := 3) (oi := ?oib3) (v := undef) ?hib3 (by kernel_rfl) (by kernel_rfl) (by kernel_rfl) ?hqb3 ?hyb3 hHeld ?_
            case hib3 => simp only [List.getElem?_toArray, List.getElem?_cons_succ, List.getElem?_cons_zero]; rfl
            case hqb3 => exact fun _ _ _ h => h
            case hyb3 => exact Or.inr ⟨by rfl, rfl⟩
            simp only [Act.put, List.setIfInBounds_toArray, List.set_cons_zero, List.set_cons_succ]
            refine wpAnyH_take (i := 4) (oi := ?oib4) (v := undef) ?hib4 (by kernel_rfl) (by kernel_rfl) (by kernel_rfl) ?hqb4 ?hyb4 hHeld ?_
            case hib4 => simp only [List.getElem?_toArray, List.getElem?_cons_succ, List.getElem?_cons_zero]; rfl
            case hqb4 => exact fun _ _ _ h => h
            case hyb4 => exact Or.inr ⟨by rfl, rfl⟩
            simp only [Act.put, List.setIfInBounds_toArray, List.set_cons_zero, List.set_cons_succ]
            refine wpAnyH_take (i := 5) (oi := ?oib5) (v := undef) ?hib5 (by kernel_rfl) (by kernel_rfl) (by kernel_rfl) ?hqb5 ?hyb5 hHeld ?_
            case hib5 => simp only [List.getElem?_toArray, List.getElem?_cons_succ, List.getElem?_cons_zero]; rfl
            case hqb5 => exact fun _ _ _ h => h
            case hyb5 => exact Or.inr ⟨by rfl, rfl⟩
            simp only [Act.put, List.setIfInBounds_toArray, List.set_cons_zero, List.set_cons_succ]
            refine wpAnyH_take (i := 6) (oi := ?oib6) (v := undef) ?hib6 (by kernel_rfl) (by kernel_rfl) (by kernel_rfl) ?hqb6 ?hyb6 hHeld ?_
            case hib6 => simp only [List.getElem?_toArray, List.getElem?_cons_succ, List.getElem?_cons_zero]; rfl
            case hqb6 => exact fun _ _ _ h => h
            case hyb6 => exact Or.inr ⟨by rfl, rfl⟩
            simp only [Act.put, List.setIfInBounds_toArray, List.set_cons_zero, List.set_cons_succ]
            refine wpAnyH_take (i := 7) (oi := ?oib7) (v := ?vvb7) ?hib7 (by kernel_rfl) (by kernel_rfl) (by kernel_rfl) ?hqb7 ?hyb7 hHeld ?_
            case hib7 => simp only [List.getElem?_toArray, List.getElem?_cons_succ, List.getElem?_cons_zero]; rfl
            case hqb7 => exact fun _ _ _ h => h
            case hyb7 => (refine Or.inl ⟨by rfl, ?_⟩; intro w' hSw; (try dsimp only at hSw); go_simp; (try (with_reducible rfl)))
            simp only [Act.put, List.setIfInBounds_toArray, List.set_cons_zero, List.set_cons_succ]
            refine wpAnyH_take (i := 8) (oi := ?oib8) (v := ?vvb8) ?hib8 (by kernel_rfl) (by kernel_rfl) (by kernel_rfl) ?hqb8 ?hyb8 hHeld ?_
            case hib8 => simp only [List.getElem?_toArray, List.getElem?_cons_succ, List.getElem?_cons_zero]; rfl
            case hqb8 => exact fun _ _ _ h => h
            case hyb8 => (refine Or.inl ⟨by rfl, ?_⟩; intro w' hSw; (try dsimp only at hSw); go_simp; (try (with_reducible rfl)))
            simp only [Act.put, List.setIfInBounds_toArray, List.set_cons_zero, List.set_cons_succ]
            refine wpAnyH_take (i := 9) (oi := ?oib9) (v := undef) ?hib9 (by kernel_rfl) (by kernel_rfl) (by kernel_rfl) ?hqb9 ?hyb9 hHeld ?_
            case hib9 => simp only [List.getElem?_toArray, List.getElem?_cons_succ, List.getElem?_cons_zero]; rfl
            case hqb9 => exact fun _ _ _ h => h
            case hyb9 => exact Or.inr ⟨by rfl, rfl⟩
            simp only [Act.put, List.setIfInBounds_toArray, List.set_cons_zero, List.set_cons_succ]
            refine wpAnyH_take (i := 10) (oi := ?oib10) (v := undef) ?hib10 (by kernel_rfl) (by kernel_rfl) (by kernel_rfl) ?hqb10 ?hyb10 hHeld ?_
            case hib10 => simp only [List.getElem?_toArray, List.getElem?_cons_succ, List.getElem?_cons_zero]; rfl
            case hqb10 => exact fun _ _ _ h => h
            case hyb10 => exact Or.inr ⟨by rfl, rfl⟩
            simp only [Act.put, List.setIfInBounds_toArray, List.set_cons_zero, List.set_cons_succ]
            refine wpAnyH_take (i := 11) (oi := ?oib11) (v := undef) ?hib11 (by kernel_rfl) (by kernel_rfl) (by kernel_rfl) ?hqb11 ?hyb11 hHeld ?_
            case hib11 => simp only [List.getElem?_toArray, List.getElem?_cons_succ, List.getElem?_cons_zero]; rfl
            case hqb11 => exact fun _ _ _ h => h
            case hyb11 => exact Or.inr ⟨by rfl, rfl⟩
            simp only [Act.put, List.setIfInBounds_toArray, List.set_cons_zero, List.set_cons_succ]
            refine wpAnyH_take (i := 12) (oi := ?oib12) (v := undef) ?hib12 (by kernel_rfl) (by kernel_rfl) (by kernel_rfl) ?hqb12 ?hyb12 hHeld ?_
            case hib12 => simp only [List.getElem?_toArray, List.getElem?_cons_succ, List.getElem?_cons_zero]; rfl
            case hqb12 => exact fun _ _ _ h => h
            case hyb12 => exact Or.inr ⟨by rfl, rfl⟩
            simp only [Act.put, List.setIfInBounds_toArray, List.set_cons_zero, List.set_cons_succ]
            refine wpAnyH_take (i := 13) (oi := ?oib13) (v := undef) ?hib13 (by kernel_rfl) (by kernel_rfl) (by kernel_rfl) ?hqb13 ?hyb13 hHeld ?_
            case hib13 => simp only [List.getElem?_toArray, List.getElem?_cons_succ, List.getElem?_cons_zero]; rfl
            case hqb13 => exact fun _ _ _ h => h
            case hyb13 => exact Or.inr ⟨by rfl, rfl⟩
            simp only [Act.put, List.setIfInBounds_toArray, List.set_cons_zero, List.set_cons_succ]
            refine wpAnyH_take (i := 14) (oi := ?oib14) (v := undef) ?hib14 (by kernel_rfl) (by kernel_rfl) (by kernel_rfl) ?hqb14 ?hyb14 hHeld ?_
            case hib14 => simp only [List.getElem?_toArray, List.getElem?_cons_succ, List.getElem?_cons_zero]; rfl
            case hqb14 => exact fun _ _ _ h => h
            case hyb14 => exact Or.inr ⟨by rfl, rfl⟩
            simp only [Act.put, List.setIfInBounds_toArray, List.set_cons_zero, List.set_cons_succ]
            refine wpAnyH_take (i := 15) (oi := ?oib15) (v := undef) ?hib15 (by kernel_rfl) (by kernel_rfl) (by kernel_rfl) ?hqb15 ?hyb15 hHeld ?_
            case hib15 => simp only [List.getElem?_toArray, List.getElem?_cons_succ, List.getElem?_cons_zero]; rfl
            case hqb15 => exact fun _ _ _ h => h
            case hyb15 => exact Or.inr ⟨by rfl, rfl⟩
            simp only [Act.put, List.setIfInBounds_toArray, List.set_cons_zero, List.set_cons_succ]
            refine wpAnyH_take (i := 16) (oi := ?oib16) (v := undef) ?hib16 (by kernel_rfl) (by kernel_rfl) (by kernel_rfl) ?hqb16 ?hyb16 hHeld ?_
            case hib16 => simp only [List.getElem?_toArray, List.getElem?_cons_succ, List.getElem?_cons_zero]; rfl
            case hqb16 => exact fun _ _ _ h => h
            case hyb16 => exact Or.inr ⟨by rfl, rfl⟩
            simp only [Act.put, List.setIfInBounds_toArray, List.set_cons_zero, List.set_cons_succ]
            refine wpAnyH_take (i := 17) (oi := ?oib17) (v := undef) ?hib17 (by kernel_rfl) (by kernel_rfl) (by kernel_rfl) ?hqb17 ?hyb17 hHeld ?_
            case hib17 => simp only [List.getElem?_toArray, List.getElem?_cons_succ, List.getElem?_cons_zero]; rfl
            case hqb17 => exact fun _ _ _ h => h
            case hyb17 => exact Or.inr ⟨by rfl, rfl⟩
            simp only [Act.put, List.setIfInBounds_toArray, List.set_cons_zero, List.set_cons_succ]
            refine wpAnyH_take (i := 18) (oi := ?oib18) (v := undef) ?hib18 (by kernel_rfl) (by kernel_rfl) (by kernel_rfl) ?hqb18 ?hyb18 hHeld ?_
            case hib18 => simp only [List.getElem?_toArray, List.getElem?_cons_succ, List.getElem?_cons_zero]; rfl
            case hqb18 => exact fun _ _ _ h => h
            case hyb18 => exact Or.inr ⟨by rfl, rfl⟩
            simp only [Act.put, List.setIfInBounds_toArray, List.set_cons_zero, List.set_cons_succ]
            refine wpAnyH_take (i := 19) (oi := ?oib19) (v := ?vvb19) ?hib19 (by kernel_rfl) (by kernel_rfl) (by kernel_rfl) ?hqb19 ?hyb19 hHeld ?_
            case hib19 => simp only [List.getElem?_toArray, List.getElem?_cons_succ, List.getElem?_cons_zero]; rfl
            case hqb19 => exact fun _ _ _ h => h
            case hyb19 => (refine Or.inl ⟨by rfl, ?_⟩; intro w' hSw; (try dsimp only at hSw); go_simp; (try (with_reducible rfl)))
            simp only [Act.put, List.setIfInBounds_toArray, List.set_cons_zero, List.set_cons_succ]
            refine wpAnyH_take (i := 20) (oi := ?oib20) (v := ?vvb20) ?hib20 (by kernel_rfl) (by kernel_rfl) (by kernel_rfl) ?hqb20 ?hyb20 hHeld ?_
            case hib20 => simp only [List.getElem?_toArray, List.getElem?_cons_succ, List.getElem?_cons_zero]; rfl
            case hqb20 => exact fun _ _ _ h => h
            case hyb20 => (refine Or.inl ⟨by rfl, ?_⟩; intro w' hSw; (try dsimp only at hSw); go_simp; (try (with_reducible rfl)))
            simp only [Act.put, List.setIfInBounds_toArray, List.set_cons_zero, List.set_cons_succ]
            refine wpAnyH_take (i := 21) (oi := ?oib21) (v := undef) ?hib21 (by kernel_rfl) (by kernel_rfl) (by kernel_rfl) ?hqb21 ?hyb21 hHeld ?_
            case hib21 => simp only [List.getElem?_toArray, List.getElem?_cons_succ, List.getElem?_cons_zero]; rfl
            case hqb21 => exact fun _ _ _ h => h
            case hyb21 => exact Or.inr ⟨by rfl, rfl⟩
            simp only [Act.put, List.setIfInBounds_toArray, List.set_cons_zero, List.set_cons_succ]
            refine wpAnyH_take (i := 22) (oi := ?oib22) (v := undef) ?hib22 (by kernel_rfl) (by kernel_rfl) (by kernel_rfl) ?hqb22 ?hyb22 hHeld ?_
            case hib22 => simp only [List.getElem?_toArray, List.getElem?_cons_succ, List.getElem?_cons_zero]; rfl
            case hqb22 => exact fun _ _ _ h => h
            case hyb22 => exact Or.inr ⟨by rfl, rfl⟩
            simp only [Act.put, List.setIfInBounds_toArray, List.set_cons_zero, List.set_cons_succ]
            refine wpAnyH_take (i := 23) (oi := ?oib23) (v := undef) ?hib23 (by kernel_rfl) (by kernel_rfl) (by kernel_rfl) ?hqb23 ?hyb23 hHeld ?_
            case hib23 => simp only [List.getElem?_toArray, List.getElem?_cons_succ, List.getElem?_cons_zero]; rfl
            case hqb23 => exact fun _ _ _ h => h
            case hyb23 => exact Or.inr ⟨by rfl, rfl⟩
            simp only [Act.put, List.setIfInBounds_toArray, List.set_cons_zero, List.set_cons_succ]
            refine wpAnyH_take (i := 24) (oi := ?oib24) (v := undef) ?hib24 (by kernel_rfl) (by kernel_rfl) (by kernel_rfl) ?hqb24 ?hyb24 hHeld ?_
            case hib24 => simp only [List.getElem?_toArray, List.getElem?_cons_succ, List.getElem?_cons_zero]; rfl
            case hqb24 => exact fun _ _ _ h => h
            case hyb24 => exact Or.inr ⟨by rfl, rfl⟩
            simp only [Act.put, List.setIfInBounds_toArray, List.set_cons_zero, List.set_cons_succ]
            refine wpAnyH_take (i := 25) (oi := ?oib25) (v := undef) ?hib25 (by kernel_rfl) (by kernel_rfl) (by kernel_rfl) ?hqb25 ?hyb25 hHeld ?_
            case hib25 => simp only [List.getElem?_toArray, List.getElem?_cons_succ, List.getElem?_cons_zero]; rfl
            case hqb25 => exact fun _ _ _ h => h
            case hyb25 => exact Or.inr ⟨by rfl, rfl⟩
            simp only [Act.put, List.setIfInBounds_toArray, List.set_cons_zero, List.set_cons_succ]
            refine wpAnyH_take (i := 26) (oi := ?oib26) (v := ?vvb26) ?hib26 (by kernel_rfl) (by kernel_rfl) (by kernel_rfl) ?hqb26 ?hyb26 hHeld ?_
            case hib26 => simp only [List.getElem?_toArray, List.getElem?_cons_succ, List.getElem?_cons_zero]; rfl
            case hqb26 => exact fun _ _ _ h => h
            case hyb26 => (refine Or.inl ⟨by rfl, ?_⟩; intro w' hSw; (try dsimp only at hSw); go_simp; (try (with_reducible rfl)))
            simp only [Act.put, List.setIfInBounds_toArray, List.set_cons_zero, List.set_cons_succ]
            refine wpAnyH_take (i := 27) (oi := ?oib27) (v := ?vvb27) ?hib27 (by kernel_rfl) (by kernel_rfl) (by kernel_rfl) ?hqb27 ?hyb27 hHeld ?_
            case hib27 => simp only [List.getElem?_toArray, List.getElem?_cons_succ, List.getElem?_cons_zero]; rfl
            case hqb27 => exact fun _ _ _ h => h
            case hyb27 => (refine Or.inl ⟨by rfl, ?_⟩; intro w' hSw; (try dsimp only at hSw); go_simp; (try (with_reducible rfl)))
            simp only [Act.put, List.setIfInBounds_toArray, List.set_cons_zero, List.set_cons_succ]
            refine wpAnyH_done (by kernel_rfl) ?_ _
            go_wp2
            go_meet
            case rel => exact ⟨by rw [HE.out], Below.drew HBr.out⟩
          | true =>
            by_cases q1 : 1000 ≤ f i
            · have d1 : decide (1000 ≤ f i) = true := decide_eq_true q1
              by_cases q2 : f i = f 0 + i
              · have d2 : (f i == f 0 + i) = true := by simpa using q2
                by_cases q3 : (f 0).tmod 8 = 0
                · have d3 : ((f 0).tmod 8 == 0) = true := by simpa using q3
                  have e : partB f true (i + 1) = true := by simp only [partB, hpb, d1, d2, d3, Bool.and_self]
                  have HE : Hid (partB f true (i + 1) = true) := e
                  clear e hpb q1 q2 q3
                  go_wp2_with fail
                  refine wp_region_held_drew (S := (fun w' => w'.cell? ⟨bb, nn + i, none⟩ = some (.int .i64 (f i)) ∧ w'.cell? ⟨bb, nn, none⟩ = some (.int .i64 (f 0)))) (by kernel_rfl) (⟨ci, cz⟩) (fun hHeld => ?_)
                  refine wpAnyH_take (i := 0) (oi := ?oic0) (v := ?vvc0) ?hic0 (by kernel_rfl) (by kernel_rfl) (by kernel_rfl) ?hqc0 ?hyc0 hHeld ?_
                  case hic0 => simp only [List.getElem?_toArray, List.getElem?_cons_succ, List.getElem?_cons_zero]; rfl
                  case hqc0 => exact fun _ _ _ h => h
                  case hyc0 => (refine Or.inl ⟨by rfl, ?_⟩; intro w' hSw; (try dsimp only at hSw); go_simp; (try (with_reducible rfl)))
                  simp only [Act.put, List.setIfInBounds_toArray, List.set_cons_zero, List.set_cons_succ]
                  refine wpAnyH_take (i := 1) (oi := ?oic1) (v := ?vvc1) ?hic1 (by kernel_rfl) (by kernel_rfl) (by kernel_rfl) ?hqc1 ?hyc1 hHeld ?_
                  case hic1 => simp only [List.getElem?_toArray, List.getElem?_cons_succ, List.getElem?_cons_zero]; rfl
                  case hqc1 => exact fun _ _ _ h => h
                  case hyc1 => (refine Or.inl ⟨by rfl, ?_⟩; intro w' hSw; (try dsimp only at hSw); go_simp; (try (with_reducible rfl)))
                  simp only [Act.put, List.setIfInBounds_toArray, List.set_cons_zero, List.set_cons_succ]
                  refine wpAnyH_take (i := 2) (oi := ?oic2) (v := ?vvc2) ?hic2 (by kernel_rfl) (by kernel_rfl) (by kernel_rfl) ?hqc2 ?hyc2 hHeld ?_
                  case hic2 => simp only [List.getElem?_toArray, List.getElem?_cons_succ, List.getElem?_cons_zero]; rfl
                  case hqc2 => exact fun _ _ _ h => h
                  case hyc2 => (refine Or.inl ⟨by rfl, ?_⟩; intro w' hSw; (try dsimp only at hSw); go_simp; (try (with_reducible rfl)))
                  simp only [Act.put, List.setIfInBounds_toArray, List.set_cons_zero, List.set_cons_succ]
                  refine wpAnyH_take (i := 3) (oi := ?oic3) (v := ?vvc3) ?hic3 (by kernel_rfl) (by kernel_rfl) (by kernel_rfl) ?hqc3 ?hyc3 hHeld ?_
                  case hic3 => simp only [List.getElem?_toArray, List.getElem?_cons_succ, List.getElem?_cons_zero]; rfl
                  case hqc3 => exact fun _ _ _ h => h
                  case hyc3 => (refine Or.inl ⟨by rfl, ?_⟩; intro w' hSw; (try dsimp only at hSw); go_simp; (try (with_reducible rfl)))
                  simp only [Act.put, List.setIfInBounds_toArray, List.set_cons_zero, List.set_cons_succ]
                  refine wpAnyH_take (i := 4) (oi := ?oic4) (v := ?vvc4) ?hic4 (by kernel_rfl) (by kernel_rfl) (by kernel_rfl) ?hqc4 ?hyc4 hHeld ?_
                  case hic4 => simp only [List.getElem?_toArray, List.getElem?_cons_succ, List.getElem?_cons_zero]; rfl
                  case hqc4 => exact fun _ _ _ h => h
                  case hyc4 => (refine Or.inl ⟨by rfl, ?_⟩; intro w' hSw; (try dsimp only at hSw); go_simp; (try (with_reducible rfl)))
                  simp only [Act.put, List.setIfInBounds_toArray, List.set_cons_zero, List.set_cons_succ]
                  refine wpAnyH_take (i := 5) (oi := ?oic5) (v := ?vvc5) ?hic5 (by kernel_rfl) (by kernel_rfl) (by kernel_rfl) ?hqc5 ?hyc5 hHeld ?_
                  case hic5 => simp only [List.getElem?_toArray, List.getElem?_cons_succ, List.getElem?_cons_zero]; rfl
                  case hqc5 => exact fun _ _ _ h => h
                  case hyc5 => (refine Or.inl ⟨by rfl, ?_⟩; intro w' hSw; (try dsimp only at hSw); go_simp; (try (with_reducible rfl)))
                  simp only [Act.put, List.setIfInBounds_toArray, List.set_cons_zero, List.set_cons_succ]
                  refine wpAnyH_take (i := 6) (oi := ?oic6) (v := ?vvc6) ?hic6 (by kernel_rfl) (by kernel_rfl) (by kernel_rfl) ?hqc6 ?hyc6 hHeld ?_
                  case hic6 => simp only [List.getElem?_toArray, List.getElem?_cons_succ, List.getElem?_cons_zero]; rfl
                  case hqc6 => exact fun _ _ _ h => h
                  case hyc6 => (refine Or.inl ⟨by rfl, ?_⟩; intro w' hSw; (try dsimp only at hSw); go_simp; (try (with_reducible rfl)))
                  simp only [Act.put, List.setIfInBounds_toArray, List.set_cons_zero, List.set_cons_succ]
                  refine wpAnyH_take (i := 7) (oi := ?oic7) (v := ?vvc7) ?hic7 (by kernel_rfl) (by kernel_rfl) (by kernel_rfl) ?hqc7 ?hyc7 hHeld ?_
                  case hic7 => simp only [List.getElem?_toArray, List.getElem?_cons_succ, List.getElem?_cons_zero]; rfl
                  case hqc7 => exact fun _ _ _ h => h
                  case hyc7 => (refine Or.inl ⟨by rfl, ?_⟩; intro w' hSw; (try dsimp only at hSw); go_simp; (try (with_reducible rfl)))
                  simp only [Act.put, List.setIfInBounds_toArray, List.set_cons_zero, List.set_cons_succ]
                  refine wpAnyH_take (i := 8) (oi := ?oic8) (v := ?vvc8) ?hic8 (by kernel_rfl) (by kernel_rfl) (by kernel_rfl) ?hqc8 ?hyc8 hHeld ?_
                  case hic8 => simp only [List.getElem?_toArray, List.getElem?_cons_succ, List.getElem?_cons_zero]; rfl
                  case hqc8 => exact fun _ _ _ h => h
                  case hyc8 => (refine Or.inl ⟨by rfl, ?_⟩; intro w' hSw; (try dsimp only at hSw); go_simp; (try (with_reducible rfl)))
                  simp only [Act.put, List.setIfInBounds_toArray, List.set_cons_zero, List.set_cons_succ]
                  refine wpAnyH_take (i := 9) (oi := ?oic9) (v := ?vvc9) ?hic9 (by kernel_rfl) (by kernel_rfl) (by kernel_rfl) ?hqc9 ?hyc9 hHeld ?_
                  case hic9 => simp only [List.getElem?_toArray, List.getElem?_cons_succ, List.getElem?_cons_zero]; rfl
                  case hqc9 => exact fun _ _ _ h => h
                  case hyc9 => (refine Or.inl ⟨by rfl, ?_⟩; intro w' hSw; (try dsimp only at hSw); go_simp; (try (with_reducible rfl)))
                  simp only [Act.put, List.setIfInBounds_toArray, List.set_cons_zero, List.set_cons_succ]
                  refine wpAnyH_take (i := 10) (oi := ?oic10) (v := ?vvc10) ?hic10 (by kernel_rfl) (by kernel_rfl) (by kernel_rfl) ?hqc10 ?hyc10 hHeld ?_
                  case hic10 => simp only [List.getElem?_toArray, List.getElem?_cons_succ, List.getElem?_cons_zero]; rfl
                  case hqc10 => exact fun _ _ _ h => h
                  case hyc10 => (refine Or.inl ⟨by rfl, ?_⟩; intro w' hSw; (try dsimp only at hSw); go_simp; (try (with_reducible rfl)))
                  simp only [Act.put, List.setIfInBounds_toArray, List.set_cons_zero, List.set_cons_succ]
                  refine wpAnyH_take (i := 11) (oi := ?oic11) (v := ?vvc11) ?hic11 (by kernel_rfl) (by kernel_rfl) (by kernel_rfl) ?hqc11 ?hyc11 hHeld ?_
                  case hic11 => simp only [List.getElem?_toArray, List.getElem?_cons_succ, List.getElem?_cons_zero]; rfl
                  case hqc11 => exact fun _ _ _ h => h
                  case hyc11 => (refine Or.inl ⟨by rfl, ?_⟩; intro w' hSw; (try dsimp only at hSw); go_simp; (try (with_reducible rfl)))
                  simp only [Act.put, List.setIfInBounds_toArray, List.set_cons_zero, List.set_cons_succ]
                  refine wpAnyH_take (i := 12) (oi := ?oic12) (v := ?vvc12) ?hic12 (by kernel_rfl) (by kernel_rfl) (by kernel_rfl) ?hqc12 ?hyc12 hHeld ?_
                  case hic12 => simp only [List.getElem?_toArray, List.getElem?_cons_succ, List.getElem?_cons_zero]; rfl
                  case hqc12 => exact fun _ _ _ h => h
                  case hyc12 => (refine Or.inl ⟨by rfl, ?_⟩; intro w' hSw; (try dsimp only at hSw); go_simp; (try (with_reducible rfl)))
                  simp only [Act.put, List.setIfInBounds_toArray, List.set_cons_zero, List.set_cons_succ]
                  refine wpAnyH_take (i := 13) (oi := ?oic13) (v := ?vvc13) ?hic13 (by kernel_rfl) (by kernel_rfl) (by kernel_rfl) ?hqc13 ?hyc13 hHeld ?_
                  case hic13 => simp only [List.getElem?_toArray, List.getElem?_cons_succ, List.getElem?_cons_zero]; rfl
                  case hqc13 => exact fun _ _ _ h => h
                  case hyc13 => (refine Or.inl ⟨by rfl, ?_⟩; intro w' hSw; (try dsimp only at hSw); go_simp; (try (with_reducible rfl)))
                  simp only [Act.put, List.setIfInBounds_toArray, List.set_cons_zero, List.set_cons_succ]
                  refine wpAnyH_take (i := 14) (oi := ?oic14) (v := ?vvc14) ?hic14 (by kernel_rfl) (by kernel_rfl) (by kernel_rfl) ?hqc14 ?hyc14 hHeld ?_
                  case hic14 => simp only [List.getElem?_toArray, List.getElem?_cons_succ, List.getElem?_cons_zero]; rfl
                  case hqc14 => exact fun _ _ _ h => h
                  case hyc14 => (refine Or.inl ⟨by rfl, ?_⟩; intro w' hSw; (try dsimp only at hSw); go_simp; (try (with_reducible rfl)))
                  simp only [Act.put, List.setIfInBounds_toArray, List.set_cons_zero, List.set_cons_succ]
                  refine wpAnyH_take (i := 15) (oi := ?oic15) (v := ?vvc15) ?hic15 (by kernel_rfl) (by kernel_rfl) (by kernel_rfl) ?hqc15 ?hyc15 hHeld ?_
                  case hic15 => simp only [List.getElem?_toArray, List.getElem?_cons_succ, List.getElem?_cons_zero]; rfl
                  case hqc15 => exact fun _ _ _ h => h
                  case hyc15 => (refine Or.inl ⟨by rfl, ?_⟩; intro w' hSw; (try dsimp only at hSw); go_simp; (try (with_reducible rfl)))
                  simp only [Act.put, List.setIfInBounds_toArray, List.set_cons_zero, List.set_cons_succ]
                  refine wpAnyH_take (i := 16) (oi := ?oic16) (v := ?vvc16) ?hic16 (by kernel_rfl) (by kernel_rfl) (by kernel_rfl) ?hqc16 ?hyc16 hHeld ?_
                  case hic16 => simp only [List.getElem?_toArray, List.getElem?_cons_succ, List.getElem?_cons_zero]; rfl
                  case hqc16 => exact fun _ _ _ h => h
                  case hyc16 => (refine Or.inl ⟨by rfl, ?_⟩; intro w' hSw; (try dsimp only at hSw); go_simp; (try (with_reducible rfl)))
                  simp only [Act.put, List.setIfInBounds_toArray, List.set_cons_zero, List.set_cons_succ]
                  refine wpAnyH_take (i := 17) (oi := ?oic17) (v := ?vvc17) ?hic17 (by kernel_rfl) (by kernel_rfl) (by kernel_rfl) ?hqc17 ?hyc17 hHeld ?_
                  case hic17 => simp only [List.getElem?_toArray, List.getElem?_cons_succ, List.getElem?_cons_zero]; rfl
                  case hqc17 => exact fun _ _ _ h => h
                  case hyc17 => (refine Or.inl ⟨by rfl, ?_⟩; intro w' hSw; (try dsimp only at hSw); go_simp; (try (with_reducible rfl)))
                  simp only [Act.put, List.setIfInBounds_toArray, List.set_cons_zero, List.set_cons_succ]
                  refine wpAnyH_take (i := 18) (oi := ?oic18) (v := ?vvc18) ?hic18 (by kernel_rfl) (by kernel_rfl) (by kernel_rfl) ?hqc18 ?hyc18 hHeld ?_
                  case hic18 => simp only [List.getElem?_toArray, List.getElem?_cons_succ, List.getElem?_cons_zero]; rfl
                  case hqc18 => exact fun _ _ _ h => h
                  case hyc18 => (refine Or.inl ⟨by rfl, ?_⟩; intro w' hSw; (try dsimp only at hSw); go_simp; (try (with_reducible rfl)))
                  simp only [Act.put, List.setIfInBounds_toArray, List.set_cons_zero, List.set_cons_succ]
                  refine wpAnyH_take (i := 19) (oi := ?oic19) (v := ?vvc19) ?hic19 (by kernel_rfl) (by kernel_rfl) (by kernel_rfl) ?hqc19 ?hyc19 hHeld ?_
                  case hic19 => simp only [List.getElem?_toArray, List.getElem?_cons_succ, List.getElem?_cons_zero]; rfl
                  case hqc19 => exact fun _ _ _ h => h
                  case hyc19 => (refine Or.inl ⟨by rfl, ?_⟩; intro w' hSw; (try dsimp only at hSw); go_simp; (try (with_reducible rfl)))
                  simp only [Act.put, List.setIfInBounds_toArray, List.set_cons_zero, List.set_cons_succ]
                  refine wpAnyH_take (i := 20) (oi := ?oic20) (v := ?vvc20) ?hic20 (by kernel_rfl) (by kernel_rfl) (by kernel_rfl) ?hqc20 ?hyc20 hHeld ?_
                  case hic20 => simp only [List.getElem?_toArray, List.getElem?_cons_succ, List.getElem?_cons_zero]; rfl
                  case hqc20 => exact fun _ _ _ h => h
                  case hyc20 => (refine Or.inl ⟨by rfl, ?_⟩; intro w' hSw; (try dsimp only at hSw); go_simp; (try (with_reducible rfl)))
                  simp only [Act.put, List.setIfInBounds_toArray, List.set_cons_zero, List.set_cons_succ]
                  refine wpAnyH_take (i := 21) (oi := ?oic21) (v := ?vvc21) ?hic21 (by kernel_rfl) (by kernel_rfl) (by kernel_rfl) ?hqc21 ?hyc21 hHeld ?_
                  case hic21 => simp only [List.getElem?_toArray, List.getElem?_cons_succ, List.getElem?_cons_zero]; rfl
                  case hqc21 => exact fun _ _ _ h => h
                  case hyc21 => (refine Or.inl ⟨by rfl, ?_⟩; intro w' hSw; (try dsimp only at hSw); go_simp; (try (with_reducible rfl)))
                  simp only [Act.put, List.setIfInBounds_toArray, List.set_cons_zero, List.set_cons_succ]
                  refine wpAnyH_take (i := 22) (oi := ?oic22) (v := ?vvc22) ?hic22 (by kernel_rfl) (by kernel_rfl) (by kernel_rfl) ?hqc22 ?hyc22 hHeld ?_
                  case hic22 => simp only [List.getElem?_toArray, List.getElem?_cons_succ, List.getElem?_cons_zero]; rfl
                  case hqc22 => exact fun _ _ _ h => h
                  case hyc22 => (refine Or.inl ⟨by rfl, ?_⟩; intro w' hSw; (try dsimp only at hSw); go_simp; (try (with_reducible rfl)))
                  simp only [Act.put, List.setIfInBounds_toArray, List.set_cons_zero, List.set_cons_succ]
                  refine wpAnyH_take (i := 23) (oi := ?oic23) (v := ?vvc23) ?hic23 (by kernel_rfl) (by kernel_rfl) (by kernel_rfl) ?hqc23 ?hyc23 hHeld ?_
                  case hic23 => simp only [List.getElem?_toArray, List.getElem?_cons_succ, List.getElem?_cons_zero]; rfl
                  case hqc23 => exact fun _ _ _ h => h
                  case hyc23 => (refine Or.inl ⟨by rfl, ?_⟩; intro w' hSw; (try dsimp only at hSw); go_simp; (try (with_reducible rfl)))
                  simp only [Act.put, List.setIfInBounds_toArray, List.set_cons_zero, List.set_cons_succ]
                  refine wpAnyH_take (i := 24) (oi := ?oic24) (v := ?vvc24) ?hic24 (by kernel_rfl) (by kernel_rfl) (by kernel_rfl) ?hqc24 ?hyc24 hHeld ?_
                  case hic24 => simp only [List.getElem?_toArray, List.getElem?_cons_succ, List.getElem?_cons_zero]; rfl
                  case hqc24 => exact fun _ _ _ h => h
                  case hyc24 => (refine Or.inl ⟨by rfl, ?_⟩; intro w' hSw; (try dsimp only at hSw); go_simp; (try (with_reducible rfl)))
                  simp only [Act.put, List.setIfInBounds_toArray, List.set_cons_zero, List.set_cons_succ]
                  refine wpAnyH_take (i := 25) (oi := ?oic25) (v := ?vvc25) ?hic25 (by kernel_rfl) (by kernel_rfl) (by kernel_rfl) ?hqc25 ?hyc25 hHeld ?_
                  case hic25 => simp only [List.getElem?_toArray, List.getElem?_cons_succ, List.getElem?_cons_zero]; rfl
                  case hqc25 => exact fun _ _ _ h => h
                  case hyc25 => (refine Or.inl ⟨by rfl, ?_⟩; intro w' hSw; (try dsimp only at hSw); go_simp; (try (with_reducible rfl)))
                  simp only [Act.put, List.setIfInBounds_toArray, List.set_cons_zero, List.set_cons_succ]
                  refine wpAnyH_take (i := 26) (oi := ?oic26) (v := ?vvc26) ?hic26 (by kernel_rfl) (by kernel_rfl) (by kernel_rfl) ?hqc26 ?hyc26 hHeld ?_
                  case hic26 => simp only [List.getElem?_toArray, List.getElem?_cons_succ, List.getElem?_cons_zero]; rfl
                  case hqc26 => exact fun _ _ _ h => h
                  case hyc26 => (refine Or.inl ⟨by rfl, ?_⟩; intro w' hSw; (try dsimp only at hSw); go_simp; (try (with_reducible rfl)))
                  simp only [Act.put, List.setIfInBounds_toArray, List.set_cons_zero, List.set_cons_succ]
                  refine wpAnyH_take (i := 27) (oi := ?oic27) (v := ?vvc27) ?hic27 (by kernel_rfl) (by kernel_rfl) (by kernel_rfl) ?hqc27 ?hyc27 hHeld ?_
                  case hic27 => simp only [List.getElem?_toArray, List.getElem?_cons_succ, List.getElem?_cons_zero]; rfl
                  case hqc27 => exact fun _ _ _ h => h
                  case hyc27 => (refine Or.inl ⟨by rfl, ?_⟩; intro w' hSw; (try dsimp only at hSw); go_simp; (try (with_reducible rfl)))
                  simp only [Act.put, List.setIfInBounds_toArray, List.set_cons_zero, List.set_cons_succ]
                  refine wpAnyH_done (by kernel_rfl) ?_ _
                  go_wp2
                  go_meet
                  case rel => exact ⟨by rw [HE.out], Below.drew HBr.out⟩
                · have d3 : ((f 0).tmod 8 == 0) = false := by simpa using q3
                  have e : partB f true (i + 1) = false := by simp only [partB, hpb, d1, d2, d3, Bool.and_self, Bool.and_false]
                  have HE : Hid (partB f true (i + 1) = false) := e
                  clear e hpb q1 q2 q3
                  go_wp2_with fail
                  refine wp_region_held_drew (S := (fun w' => w'.cell? ⟨bb, nn + i, none⟩ = some (.int .i64 (f i)) ∧ w'.cell? ⟨bb, nn, none⟩ = some (.int .i64 (f 0)))) (by kernel_rfl) (⟨ci, cz⟩) (fun hHeld => ?_)
                  refine wpAnyH_take (i := 0) (oi := ?oid0) (v := ?vvd0) ?hid0 (by kernel_rfl) (by kernel_rfl) (by kernel_rfl) ?hqd0 ?hyd0 hHeld ?_
                  case hid0 => simp only [List.getElem?_toArray, List.getElem?_cons_succ, List.getElem?_cons_zero]; rfl
                  case hqd0 => exact fun _ _ _ h => h
                  case hyd0 => (refine Or.inl ⟨by rfl, ?_⟩; intro w' hSw; (try dsimp only at hSw); go_simp; (try (with_reducible rfl)))
                  simp only [Act.put, List.setIfInBounds_toArray, List.set_cons_zero, List.set_cons_succ]
                  refine wpAnyH_take (i := 1) (oi := ?oid1) (v := ?vvd1) ?hid1 (by kernel_rfl) (by kernel_rfl) (by kernel_rfl) ?hqd1 ?hyd1 hHeld ?_
                  case hid1 => simp only [List.getElem?_toArray, List.getElem?_cons_succ, List.getElem?_cons_zero]; rfl
                  case hqd1 => exact fun _ _ _ h => h
                  case hyd1 => (refine Or.inl ⟨by rfl, ?_⟩; intro w' hSw; (try dsimp only at hSw); go_simp; (try (with_reducible rfl)))
                  simp only [Act.put, List.setIfInBounds_toArray, List.set_cons_zero, List.set_cons_succ]
                  refine wpAnyH_take (i := 2) (oi := ?oid2) (v := ?vvd2) ?hid2 (by kernel_rfl) (by kernel_rfl) (by kernel_rfl) ?hqd2 ?hyd2 hHeld ?_
                  case hid2 => simp only [List.getElem?_toArray, List.getElem?_cons_succ, List.getElem?_cons_zero]; rfl
                  case hqd2 => exact fun _ _ _ h => h
                  case hyd2 => (refine Or.inl ⟨by rfl, ?_⟩; intro w' hSw; (try dsimp only at hSw); go_simp; (try (with_reducible rfl)))
                  simp only [Act.put, List.setIfInBounds_toArray, List.set_cons_zero, List.set_cons_succ]
                  refine wpAnyH_take (i := 3) (oi := ?oid3) (v := ?vvd3) ?hid3 (by kernel_rfl) (by kernel_rfl) (by kernel_rfl) ?hqd3 ?hyd3 hHeld ?_
                  case hid3 => simp only [List.getElem?_toArray, List.getElem?_cons_succ, List.getElem?_cons_zero]; rfl
                  case hqd3 => exact fun _ _ _ h => h
                  case hyd3 => (refine Or.inl ⟨by rfl, ?_⟩; intro w' hSw; (try dsimp only at hSw); go_simp; (try (with_reducible rfl)))
                  simp only [Act.put, List.setIfInBounds_toArray, List.set_cons_zero, List.set_cons_succ]
                  refine wpAnyH_take (i := 4) (oi := ?oid4) (v := ?vvd4) ?hid4 (by kernel_rfl) (by kernel_rfl) (by kernel_rfl) ?hqd4 ?hyd4 hHeld ?_
                  case hid4 => simp only [List.getElem?_toArray, List.getElem?_cons_succ, List.getElem?_cons_zero]; rfl
                  case hqd4 => exact fun _ _ _ h => h
                  case hyd4 => (refine Or.inl ⟨by rfl, ?_⟩; intro w' hSw; (try dsimp only at hSw); go_simp; (try (with_reducible rfl)))
                  simp only [Act.put, List.setIfInBounds_toArray, List.set_cons_zero, List.set_cons_succ]
                  refine wpAnyH_take (i := 5) (oi := ?oid5) (v := ?vvd5) ?hid5 (by kernel_rfl) (by kernel_rfl) (by kernel_rfl) ?hqd5 ?hyd5 hHeld ?_
                  case hid5 => simp only [List.getElem?_toArray, List.getElem?_cons_succ, List.getElem?_cons_zero]; rfl
                  case hqd5 => exact fun _ _ _ h => h
                  case hyd5 => (refine Or.inl ⟨by rfl, ?_⟩; intro w' hSw; (try dsimp only at hSw); go_simp; (try (with_reducible rfl)))
                  simp only [Act.put, List.setIfInBounds_toArray, List.set_cons_zero, List.set_cons_succ]
                  refine wpAnyH_take (i := 6) (oi := ?oid6) (v := ?vvd6) ?hid6 (by kernel_rfl) (by kernel_rfl) (by kernel_rfl) ?hqd6 ?hyd6 hHeld ?_
                  case hid6 => simp only [List.getElem?_toArray, List.getElem?_cons_succ, List.getElem?_cons_zero]; rfl
                  case hqd6 => exact fun _ _ _ h => h
                  case hyd6 => (refine Or.inl ⟨by rfl, ?_⟩; intro w' hSw; (try dsimp only at hSw); go_simp; (try (with_reducible rfl)))
                  simp only [Act.put, List.setIfInBounds_toArray, List.set_cons_zero, List.set_cons_succ]
                  refine wpAnyH_take (i := 7) (oi := ?oid7) (v := ?vvd7) ?hid7 (by kernel_rfl) (by kernel_rfl) (by kernel_rfl) ?hqd7 ?hyd7 hHeld ?_
                  case hid7 => simp only [List.getElem?_toArray, List.getElem?_cons_succ, List.getElem?_cons_zero]; rfl
                  case hqd7 => exact fun _ _ _ h => h
                  case hyd7 => (refine Or.inl ⟨by rfl, ?_⟩; intro w' hSw; (try dsimp only at hSw); go_simp; (try (with_reducible rfl)))
                  simp only [Act.put, List.setIfInBounds_toArray, List.set_cons_zero, List.set_cons_succ]
                  refine wpAnyH_take (i := 8) (oi := ?oid8) (v := ?vvd8) ?hid8 (by kernel_rfl) (by kernel_rfl) (by kernel_rfl) ?hqd8 ?hyd8 hHeld ?_
                  case hid8 => simp only [List.getElem?_toArray, List.getElem?_cons_succ, List.getElem?_cons_zero]; rfl
                  case hqd8 => exact fun _ _ _ h => h
                  case hyd8 => (refine Or.inl ⟨by rfl, ?_⟩; intro w' hSw; (try dsimp only at hSw); go_simp; (try (with_reducible rfl)))
                  simp only [Act.put, List.setIfInBounds_toArray, List.set_cons_zero, List.set_cons_succ]
                  refine wpAnyH_take (i := 9) (oi := ?oid9) (v := ?vvd9) ?hid9 (by kernel_rfl) (by kernel_rfl) (by kernel_rfl) ?hqd9 ?hyd9 hHeld ?_
                  case hid9 => simp only [List.getElem?_toArray, List.getElem?_cons_succ, List.getElem?_cons_zero]; rfl
                  case hqd9 => exact fun _ _ _ h => h
                  case hyd9 => (refine Or.inl ⟨by rfl, ?_⟩; intro w' hSw; (try dsimp only at hSw); go_simp; (try (with_reducible rfl)))
                  simp only [Act.put, List.setIfInBounds_toArray, List.set_cons_zero, List.set_cons_succ]
                  refine wpAnyH_take (i := 10) (oi := ?oid10) (v := ?vvd10) ?hid10 (by kernel_rfl) (by kernel_rfl) (by kernel_rfl) ?hqd10 ?hyd10 hHeld ?_
                  case hid10 => simp only [List.getElem?_toArray, List.getElem?_cons_succ, List.getElem?_cons_zero]; rfl
                  case hqd10 => exact fun _ _ _ h => h
                  case hyd10 => (refine Or.inl ⟨by rfl, ?_⟩; intro w' hSw; (try dsimp only at hSw); go_simp; (try (with_reducible rfl)))
                  simp only [Act.put, List.setIfInBounds_toArray, List.set_cons_zero, List.set_cons_succ]
                  refine wpAnyH_take (i := 11) (oi := ?oid11) (v := ?vvd11) ?hid11 (by kernel_rfl) (by kernel_rfl) (by kernel_rfl) ?hqd11 ?hyd11 hHeld ?_
                  case hid11 => simp only [List.getElem?_toArray, List.getElem?_cons_succ, List.getElem?_cons_zero]; rfl
                  case hqd11 => exact fun _ _ _ h => h
                  case hyd11 => (refine Or.inl ⟨by rfl, ?_⟩; intro w' hSw; (try dsimp only at hSw); go_simp; (try (with_reducible rfl)))
                  simp only [Act.put, List.setIfInBounds_toArray, List.set_cons_zero, List.set_cons_succ]
                  refine wpAnyH_take (i := 12) (oi := ?oid12) (v := ?vvd12) ?hid12 (by kernel_rfl) (by kernel_rfl) (by kernel_rfl) ?hqd12 ?hyd12 hHeld ?_
                  case hid12 => simp only [List.getElem?_toArray, List.getElem?_cons_succ, List.getElem?_cons_zero]; rfl
                  case hqd12 => exact fun _ _ _ h => h
                  case hyd12 => (refine Or.inl ⟨by rfl, ?_⟩; intro w' hSw; (try dsimp only at hSw); go_simp; (try (with_reducible rfl)))
                  simp only [Act.put, List.setIfInBounds_toArray, List.set_cons_zero, List.set_cons_succ]
                  refine wpAnyH_take (i := 13) (oi := ?oid13) (v := ?vvd13) ?hid13 (by kernel_rfl) (by kernel_rfl) (by kernel_rfl) ?hqd13 ?hyd13 hHeld ?_
                  case hid13 => simp only [List.getElem?_toArray, List.getElem?_cons_succ, List.getElem?_cons_zero]; rfl
                  case hqd13 => exact fun _ _ _ h => h
                  case hyd13 => (refine Or.inl ⟨by rfl, ?_⟩; intro w' hSw; (try dsimp only at hSw); go_simp; (try (with_reducible rfl)))
                  simp only [Act.put, List.setIfInBounds_toArray, List.set_cons_zero, List.set_cons_succ]
                  refine wpAnyH_take (i := 14) (oi := ?oid14) (v := ?vvd14) ?hid14 (by kernel_rfl) (by kernel_rfl) (by kernel_rfl) ?hqd14 ?hyd14 hHeld ?_
                  case hid14 => simp only [List.getElem?_toArray, List.getElem?_cons_succ, List.getElem?_cons_zero]; rfl
                  case hqd14 => exact fun _ _ _ h => h
                  case hyd14 => (refine Or.inl ⟨by rfl, ?_⟩; intro w' hSw; (try dsimp only at hSw); go_simp; (try (with_reducible rfl)))
                  simp only [Act.put, List.setIfInBounds_toArray, List.set_cons_zero, List.set_cons_succ]
                  refine wpAnyH_take (i := 15) (oi := ?oid15) (v := ?vvd15) ?hid15 (by kernel_rfl) (by kernel_rfl) (by kernel_rfl) ?hqd15 ?hyd15 hHeld ?_
                  case hid15 => simp only [List.getElem?_toArray, List.getElem?_cons_succ, List.getElem?_cons_zero]; rfl
                  case hqd15 => exact fun _ _ _ h => h
                  case hyd15 => (refine Or.inl ⟨by rfl, ?_⟩; intro w' hSw; (try dsimp only at hSw); go_simp; (try (with_reducible rfl)))
                  simp only [Act.put, List.setIfInBounds_toArray, List.set_cons_zero, List.set_cons_succ]
                  refine wpAnyH_take (i := 16) (oi := ?oid16) (v := ?vvd16) ?hid16 (by kernel_rfl) (by kernel_rfl) (by kernel_rfl) ?hqd16 ?hyd16 hHeld ?_
                  case hid16 => simp only [List.getElem?_toArray, List.getElem?_cons_succ, List.getElem?_cons_zero]; rfl
                  case hqd16 => exact fun _ _ _ h => h
                  case hyd16 => (refine Or.inl ⟨by rfl, ?_⟩; intro w' hSw; (try dsimp only at hSw); go_simp; (try (with_reducible rfl)))
                  simp only [Act.put, List.setIfInBounds_toArray, List.set_cons_zero, List.set_cons_succ]
                  refine wpAnyH_take (i := 17) (oi := ?oid17) (v := ?vvd17) ?hid17 (by kernel_rfl) (by kernel_rfl) (by kernel_rfl) ?hqd17 ?hyd17 hHeld ?_
                  case hid17 => simp only [List.getElem?_toArray, List.getElem?_cons_succ, List.getElem?_cons_zero]; rfl
                  case hqd17 => exact fun _ _ _ h => h
                  case hyd17 => (refine Or.inl ⟨by rfl, ?_⟩; intro w' hSw; (try dsimp only at hSw); go_simp; (try (with_reducible rfl)))
                  simp only [Act.put, List.setIfInBounds_toArray, List.set_cons_zero, List.set_cons_succ]
                  refine wpAnyH_take (i := 18) (oi := ?oid18) (v := ?vvd18) ?hid18 (by kernel_rfl) (by kernel_rfl) (by kernel_rfl) ?hqd18 ?hyd18 hHeld ?_
                  case hid18 => simp only [List.getElem?_toArray, List.getElem?_cons_succ, List.getElem?_cons_zero]; rfl
                  case hqd18 => exact fun _ _ _ h => h
                  case hyd18 => (refine Or.inl ⟨by rfl, ?_⟩; intro w' hSw; (try dsimp only at hSw); go_simp; (try (with_reducible rfl)))
                  simp only [Act.put, List.setIfInBounds_toArray, List.set_cons_zero, List.set_cons_succ]
                  refine wpAnyH_take (i := 19) (oi := ?oid19) (v := ?vvd19) ?hid19 (by kernel_rfl) (by kernel_rfl) (by kernel_rfl) ?hqd19 ?hyd19 hHeld ?_
                  case hid19 => simp only [List.getElem?_toArray, List.getElem?_cons_succ, List.getElem?_cons_zero]; rfl
                  case hqd19 => exact fun _ _ _ h => h
                  case hyd19 => (refine Or.inl ⟨by rfl, ?_⟩; intro w' hSw; (try dsimp only at hSw); go_simp; (try (with_reducible rfl)))
                  simp only [Act.put, List.setIfInBounds_toArray, List.set_cons_zero, List.set_cons_succ]
                  refine wpAnyH_take (i := 20) (oi := ?oid20) (v := ?vvd20) ?hid20 (by kernel_rfl) (by kernel_rfl) (by kernel_rfl) ?hqd20 ?hyd20 hHeld ?_
                  case hid20 => simp only [List.getElem?_toArray, List.getElem?_cons_succ, List.getElem?_cons_zero]; rfl
                  case hqd20 => exact fun _ _ _ h => h
                  case hyd20 => (refine Or.inl ⟨by rfl, ?_⟩; intro w' hSw; (try dsimp only at hSw); go_simp; (try (with_reducible rfl)))
                  simp only [Act.put, List.setIfInBounds_toArray, List.set_cons_zero, List.set_cons_succ]
                  refine wpAnyH_take (i := 21) (oi := ?oid21) (v := ?vvd21) ?hid21 (by kernel_rfl) (by kernel_rfl) (by kernel_rfl) ?hqd21 ?hyd21 hHeld ?_
                  case hid21 => simp only [List.getElem?_toArray, List.getElem?_cons_succ, List.getElem?_cons_zero]; rfl
                  case hqd21 => exact fun _ _ _ h => h
                  case hyd21 => (refine Or.inl ⟨by rfl, ?_⟩; intro w' hSw; (try dsimp only at hSw); go_simp; (try (with_reducible rfl)))
                  simp only [Act.put, List.setIfInBounds_toArray, List.set_cons_zero, List.set_cons_succ]
                  refine wpAnyH_take (i := 22) (oi := ?oid22) (v := ?vvd22) ?hid22 (by kernel_rfl) (by kernel_rfl) (by kernel_rfl) ?hqd22 ?hyd22 hHeld ?_
                  case hid22 => simp only [List.getElem?_toArray, List.getElem?_cons_succ, List.getElem?_cons_zero]; rfl
                  case hqd22 => exact fun _ _ _ h => h
                  case hyd22 => (refine Or.inl ⟨by rfl, ?_⟩; intro w' hSw; (try dsimp only at hSw); go_simp; (try (with_reducible rfl)))
                  simp only [Act.put, List.setIfInBounds_toArray, List.set_cons_zero, List.set_cons_succ]
                  refine wpAnyH_take (i := 23) (oi := ?oid23) (v := ?vvd23) ?hid23 (by kernel_rfl) (by kernel_rfl) (by kernel_rfl) ?hqd23 ?hyd23 hHeld ?_
                  case hid23 => simp only [List.getElem?_toArray, List.getElem?_cons_succ, List.getElem?_cons_zero]; rfl
                  case hqd23 => exact fun _ _ _ h => h
                  case hyd23 => (refine Or.inl ⟨by rfl, ?_⟩; intro w' hSw; (try dsimp only at hSw); go_simp; (try (with_reducible rfl)))
                  simp only [Act.put, List.setIfInBounds_toArray, List.set_cons_zero, List.set_cons_succ]
                  refine wpAnyH_take (i := 24) (oi := ?oid24) (v := ?vvd24) ?hid24 (by kernel_rfl) (by kernel_rfl) (by kernel_rfl) ?hqd24 ?hyd24 hHeld ?_
                  case hid24 => simp only [List.getElem?_toArray, List.getElem?_cons_succ, List.getElem?_cons_zero]; rfl
                  case hqd24 => exact fun _ _ _ h => h
                  case hyd24 => (refine Or.inl ⟨by rfl, ?_⟩; intro w' hSw; (try dsimp only at hSw); go_simp; (try (with_reducible rfl)))
                  simp only [Act.put, List.setIfInBounds_toArray, List.set_cons_zero, List.set_cons_succ]
                  refine wpAnyH_take (i := 25) (oi := ?oid25) (v := ?vvd25) ?hid25 (by kernel_rfl) (by kernel_rfl) (by kernel_rfl) ?hqd25 ?hyd25 hHeld ?_
                  case hid25 => simp only [List.getElem?_toArray, List.getElem?_cons_succ, List.getElem?_cons_zero]; rfl
                  case hqd25 => exact fun _ _ _ h => h
                  case hyd25 => (refine Or.inl ⟨by rfl, ?_⟩; intro w' hSw; (try dsimp only at hSw); go_simp; (try (with_reducible rfl)))
                  simp only [Act.put, List.setIfInBounds_toArray, List.set_cons_zero, List.set_cons_succ]
                  refine wpAnyH_take (i := 26) (oi := ?oid26) (v := ?vvd26) ?hid26 (by kernel_rfl) (by kernel_rfl) (by kernel_rfl) ?hqd26 ?hyd26 hHeld ?_
                  case hid26 => simp only [List.getElem?_toArray, List.getElem?_cons_succ, List.getElem?_cons_zero]; rfl
                  case hqd26 => exact fun _ _ _ h => h
                  case hyd26 => (refine Or.inl ⟨by rfl, ?_⟩; intro w' hSw; (try dsimp only at hSw); go_simp; (try (with_reducible rfl)))
                  simp only [Act.put, List.setIfInBounds_toArray, List.set_cons_zero, List.set_cons_succ]
                  refine wpAnyH_take (i := 27) (oi := ?oid27) (v := ?vvd27) ?hid27 (by kernel_rfl) (by kernel_rfl) (by kernel_rfl) ?hqd27 ?hyd27 hHeld ?_
                  case hid27 => simp only [List.getElem?_toArray, List.getElem?_cons_succ, List.getElem?_cons_zero]; rfl
                  case hqd27 => exact fun _ _ _ h => h
                  case hyd27 => (refine Or.inl ⟨by rfl, ?_⟩; intro w' hSw; (try dsimp only at hSw); go_simp; (try (with_reducible rfl)))
                  simp only [Act.put, List.setIfInBounds_toArray, List.set_cons_zero, List.set_cons_succ]
                  refine wpAnyH_done (by kernel_rfl) ?_ _
                  go_wp2
                  go_meet
                  case rel => exact ⟨by rw [HE.out], Below.drew HBr.out⟩
              · have d2 : (f i == f 0 + i) = false := by simpa using q2
                have e : partB f true (i + 1) = false := by simp only [partB, hpb, d1, d2, Bool.and_self, Bool.and_false, Bool.false_and]
                have HE : Hid (partB f true (i + 1) = false) := e
                clear e hpb q1 q2
                go_wp2_with fail
                refine wp_region_held_drew (S := (fun w' => w'.cell? ⟨bb, nn + i, none⟩ = some (.int .i64 (f i)) ∧ w'.cell? ⟨bb, nn, none⟩ = some (.int .i64 (f 0)))) (by kernel_rfl) (⟨ci, cz⟩) (fun hHeld => ?_)
                refine wpAnyH_take (i := 0) (oi := ?oie0) (v := ?vve0) ?hie0 (by kernel_rfl) (by kernel_rfl) (by kernel_rfl) ?hqe0 ?hye0 hHeld ?_
                case hie0 => simp only [List.getElem?_toArray, List.getElem?_cons_succ, List.getElem?_cons_zero]; rfl
                case hqe0 => exact fun _ _ _ h => h
                case hye0 => (refine Or.inl ⟨by rfl, ?_⟩; intro w' hSw; (try dsimp only at hSw); go_simp; (try (with_reducible rfl)))
                simp only [Act.put, List.setIfInBounds_toArray, List.set_cons_zero, List.set_cons_succ]
                refine wpAnyH_take (i := 1) (oi := ?oie1) (v := ?vve1) ?hie1 (by kernel_rfl) (by kernel_rfl) (by kernel_rfl) ?hqe1 ?hye1 hHeld ?_
                case hie1 => simp only [List.getElem?_toArray, List.getElem?_cons_succ, List.getElem?_cons_zero]; rfl
                case hqe1 => exact fun _ _ _ h => h
                case hye1 => (refine Or.inl ⟨by rfl, ?_⟩; intro w' hSw; (try dsimp only at hSw); go_simp; (try (with_reducible rfl)))
                simp only [Act.put, List.setIfInBounds_toArray, List.set_cons_zero, List.set_cons_succ]
                refine wpAnyH_take (i := 2) (oi := ?oie2) (v := ?vve2) ?hie2 (by kernel_rfl) (by kernel_rfl) (by kernel_rfl) ?hqe2 ?hye2 hHeld ?_
                case hie2 => simp only [List.getElem?_toArray, List.getElem?_cons_succ, List.getElem?_cons_zero]; rfl
                case hqe2 => exact fun _ _ _ h => h
                case hye2 => (refine Or.inl ⟨by rfl, ?_⟩; intro w' hSw; (try dsimp only at hSw); go_simp; (try (with_reducible rfl)))
                simp only [Act.put, List.setIfInBounds_toArray, List.set_cons_zero, List.set_cons_succ]
                refine wpAnyH_take (i := 3) (oi := ?oie3) (v := ?vve3) ?hie3 (by kernel_rfl) (by kernel_rfl) (by kernel_rfl) ?hqe3 ?hye3 hHeld ?_
                case hie3 => simp only [List.getElem?_toArray, List.getElem?_cons_succ, List.getElem?_cons_zero]; rfl
                case hqe3 => exact fun _ _ _ h => h
                case hye3 => (refine Or.inl ⟨by rfl, ?_⟩; intro w' hSw; (try dsimp only at hSw); go_simp; (try (with_reducible rfl)))
                simp only [Act.put, List.setIfInBounds_toArray, List.set_cons_zero, List.set_cons_succ]
                refine wpAnyH_take (i := 4) (oi := ?oie4) (v := ?vve4) ?hie4 (by kernel_rfl) (by kernel_rfl) (by kernel_rfl) ?hqe4 ?hye4 hHeld ?_
                case hie4 => simp only [List.getElem?_toArray, List.getElem?_cons_succ, List.getElem?_cons_zero]; rfl
                case hqe4 => exact fun _ _ _ h => h
                case hye4 => (refine Or.inl ⟨by rfl, ?_⟩; intro w' hSw; (try dsimp only at hSw); go_simp; (try (with_reducible rfl)))
                simp only [Act.put, List.setIfInBounds_toArray, List.set_cons_zero, List.set_cons_succ]
                refine wpAnyH_take (i := 5) (oi := ?oie5) (v := ?vve5) ?hie5 (by kernel_rfl) (by kernel_rfl) (by kernel_rfl) ?hqe5 ?hye5 hHeld ?_
                case hie5 => simp only [List.getElem?_toArray, List.getElem?_cons_succ, List.getElem?_cons_zero]; rfl
                case hqe5 => exact fun _ _ _ h => h
                case hye5 => (refine Or.inl ⟨by rfl, ?_⟩; intro w' hSw; (try dsimp only at hSw); go_simp; (try (with_reducible rfl)))
                simp only [Act.put, List.setIfInBounds_toArray, List.set_cons_zero, List.set_cons_succ]
                refine wpAnyH_take (i := 6) (oi := ?oie6) (v := ?vve6) ?hie6 (by kernel_rfl) (by kernel_rfl) (by kernel_rfl) ?hqe6 ?hye6 hHeld ?_
                case hie6 => simp only [List.getElem?_toArray, List.getElem?_cons_succ, List.getElem?_cons_zero]; rfl
                case hqe6 => exact fun _ _ _ h => h
                case hye6 => (refine Or.inl ⟨by rfl, ?_⟩; intro w' hSw; (try dsimp only at hSw); go_simp; (try (with_reducible rfl)))
                simp only [Act.put, List.setIfInBounds_toArray, List.set_cons_zero, List.set_cons_succ]
                refine wpAnyH_take (i := 7) (oi := ?oie7) (v := ?vve7) ?hie7 (by kernel_rfl) (by kernel_rfl) (by kernel_rfl) ?hqe7 ?hye7 hHeld ?_
                case hie7 => simp only [List.getElem?_toArray, List.getElem?_cons_succ, List.getElem?_cons_zero]; rfl
                case hqe7 => exact fun _ _ _ h => h
                case hye7 => (refine Or.inl ⟨by rfl, ?_⟩; intro w' hSw; (try dsimp only at hSw); go_simp; (try (with_reducible rfl)))
                simp only [Act.put, List.setIfInBounds_toArray, List.set_cons_zero, List.set_cons_succ]
                refine wpAnyH_take (i := 8) (oi := ?oie8) (v := ?vve8) ?hie8 (by kernel_rfl) (by kernel_rfl) (by kernel_rfl) ?hqe8 ?hye8 hHeld ?_
                case hie8 => simp only [List.getElem?_toArray, List.getElem?_cons_succ, List.getElem?_cons_zero]; rfl
                case hqe8 => exact fun _ _ _ h => h
                case hye8 => (refine Or.inl ⟨by rfl, ?_⟩; intro w' hSw; (try dsimp only at hSw); go_simp; (try (with_reducible rfl)))
                simp only [Act.put, List.setIfInBounds_toArray, List.set_cons_zero, List.set_cons_succ]
                refine wpAnyH_take (i := 9) (oi := ?oie9) (v := ?vve9) ?hie9 (by kernel_rfl) (by kernel_rfl) (by kernel_rfl) ?hqe9 ?hye9 hHeld ?_
                case hie9 => simp only [List.getElem?_toArray, List.getElem?_cons_succ, List.getElem?_cons_zero]; rfl
                case hqe9 => exact fun _ _ _ h => h
                case hye9 => (refine Or.inl ⟨by rfl, ?_⟩; intro w' hSw; (try dsimp only at hSw); go_simp; (try (with_reducible rfl)))
                simp only [Act.put, List.setIfInBounds_toArray, List.set_cons_zero, List.set_cons_succ]
                refine wpAnyH_take (i := 10) (oi := ?oie10) (v := ?vve10) ?hie10 (by kernel_rfl) (by kernel_rfl) (by kernel_rfl) ?hqe10 ?hye10 hHeld ?_
                case hie10 => simp only [List.getElem?_toArray, List.getElem?_cons_succ, List.getElem?_cons_zero]; rfl
                case hqe10 => exact fun _ _ _ h => h
                case hye10 => (refine Or.inl ⟨by rfl, ?_⟩; intro w' hSw; (try dsimp only at hSw); go_simp; (try (with_reducible rfl)))
                simp only [Act.put, List.setIfInBounds_toArray, List.set_cons_zero, List.set_cons_succ]
                refine wpAnyH_take (i := 11) (oi := ?oie11) (v := ?vve11) ?hie11 (by kernel_rfl) (by kernel_rfl) (by kernel_rfl) ?hqe11 ?hye11 hHeld ?_
                case hie11 => simp only [List.getElem?_toArray, List.getElem?_cons_succ, List.getElem?_cons_zero]; rfl
                case hqe11 => exact fun _ _ _ h => h
                case hye11 => (refine Or.inl ⟨by rfl, ?_⟩; intro w' hSw; (try dsimp only at hSw); go_simp; (try (with_reducible rfl)))
                simp only [Act.put, List.setIfInBounds_toArray, List.set_cons_zero, List.set_cons_succ]
                refine wpAnyH_take (i := 12) (oi := ?oie12) (v := ?vve12) ?hie12 (by kernel_rfl) (by kernel_rfl) (by kernel_rfl) ?hqe12 ?hye12 hHeld ?_
                case hie12 => simp only [List.getElem?_toArray, List.getElem?_cons_succ, List.getElem?_cons_zero]; rfl
                case hqe12 => exact fun _ _ _ h => h
                case hye12 => (refine Or.inl ⟨by rfl, ?_⟩; intro w' hSw; (try dsimp only at hSw); go_simp; (try (with_reducible rfl)))
                simp only [Act.put, List.setIfInBounds_toArray, List.set_cons_zero, List.set_cons_succ]
                refine wpAnyH_take (i := 13) (oi := ?oie13) (v := ?vve13) ?hie13 (by kernel_rfl) (by kernel_rfl) (by kernel_rfl) ?hqe13 ?hye13 hHeld ?_
                case hie13 => simp only [List.getElem?_toArray, List.getElem?_cons_succ, List.getElem?_cons_zero]; rfl
                case hqe13 => exact fun _ _ _ h => h
                case hye13 => (refine Or.inl ⟨by rfl, ?_⟩; intro w' hSw; (try dsimp only at hSw); go_simp; (try (with_reducible rfl)))
                simp only [Act.put, List.setIfInBounds_toArray, List.set_cons_zero, List.set_cons_succ]
                refine wpAnyH_take (i := 14) (oi := ?oie14) (v := ?vve14) ?hie14 (by kernel_rfl) (by kernel_rfl) (by kernel_rfl) ?hqe14 ?hye14 hHeld ?_
                case hie14 => simp only [List.getElem?_toArray, List.getElem?_cons_succ, List.getElem?_cons_zero]; rfl
                case hqe14 => exact fun _ _ _ h => h
                case hye14 => (refine Or.inl ⟨by rfl, ?_⟩; intro w' hSw; (try dsimp only at hSw); go_simp; (try (with_reducible rfl)))
                simp only [Act.put, List.setIfInBounds_toArray, List.set_cons_zero, List.set_cons_succ]
                refine wpAnyH_take (i := 15) (oi := ?oie15) (v := ?vve15) ?hie15 (by kernel_rfl) (by kernel_rfl) (by kernel_rfl) ?hqe15 ?hye15 hHeld ?_
                case hie15 => simp only [List.getElem?_toArray, List.getElem?_cons_succ, List.getElem?_cons_zero]; rfl
                case hqe15 => exact fun _ _ _ h => h
                case hye15 => (refine Or.inl ⟨by rfl, ?_⟩; intro w' hSw; (try dsimp only at hSw); go_simp; (try (with_reducible rfl)))
                simp only [Act.put, List.setIfInBounds_toArray, List.set_cons_zero, List.set_cons_succ]
                refine wpAnyH_take (i := 16) (oi := ?oie16) (v := ?vve16) ?hie16 (by kernel_rfl) (by kernel_rfl) (by kernel_rfl) ?hqe16 ?hye16 hHeld ?_
                case hie16 => simp only [List.getElem?_toArray, List.getElem?_cons_succ, List.getElem?_cons_zero]; rfl
                case hqe16 => exact fun _ _ _ h => h
                case hye16 => (refine Or.inl ⟨by rfl, ?_⟩; intro w' hSw; (try dsimp only at hSw); go_simp; (try (with_reducible rfl)))
                simp only [Act.put, List.setIfInBounds_toArray, List.set_cons_zero, List.set_cons_succ]
                refine wpAnyH_take (i := 17) (oi := ?oie17) (v := ?vve17) ?hie17 (by kernel_rfl) (by kernel_rfl) (by kernel_rfl) ?hqe17 ?hye17 hHeld ?_
                case hie17 => simp only [List.getElem?_toArray, List.getElem?_cons_succ, List.getElem?_cons_zero]; rfl
                case hqe17 => exact fun _ _ _ h => h
                case hye17 => (refine Or.inl ⟨by rfl, ?_⟩; intro w' hSw; (try dsimp only at hSw); go_simp; (try (with_reducible rfl)))
                simp only [Act.put, List.setIfInBounds_toArray, List.set_cons_zero, List.set_cons_succ]
                refine wpAnyH_take (i := 18) (oi := ?oie18) (v := ?vve18) ?hie18 (by kernel_rfl) (by kernel_rfl) (by kernel_rfl) ?hqe18 ?hye18 hHeld ?_
                case hie18 => simp only [List.getElem?_toArray, List.getElem?_cons_succ, List.getElem?_cons_zero]; rfl
                case hqe18 => exact fun _ _ _ h => h
                case hye18 => (refine Or.inl ⟨by rfl, ?_⟩; intro w' hSw; (try dsimp only at hSw); go_simp; (try (with_reducible rfl)))
                simp only [Act.put, List.setIfInBounds_toArray, List.set_cons_zero, List.set_cons_succ]
                refine wpAnyH_take (i := 19) (oi := ?oie19) (v := ?vve19) ?hie19 (by kernel_rfl) (by kernel_rfl) (by kernel_rfl) ?hqe19 ?hye19 hHeld ?_
                case hie19 => simp only [List.getElem?_toArray, List.getElem?_cons_succ, List.getElem?_cons_zero]; rfl
                case hqe19 => exact fun _ _ _ h => h
                case hye19 => (refine Or.inl ⟨by rfl, ?_⟩; intro w' hSw; (try dsimp only at hSw); go_simp; (try (with_reducible rfl)))
                simp only [Act.put, List.setIfInBounds_toArray, List.set_cons_zero, List.set_cons_succ]
                refine wpAnyH_take (i := 20) (oi := ?oie20) (v := ?vve20) ?hie20 (by kernel_rfl) (by kernel_rfl) (by kernel_rfl) ?hqe20 ?hye20 hHeld ?_
                case hie20 => simp only [List.getElem?_toArray, List.getElem?_cons_succ, List.getElem?_cons_zero]; rfl
                case hqe20 => exact fun _ _ _ h => h
                case hye20 => (refine Or.inl ⟨by rfl, ?_⟩; intro w' hSw; (try dsimp only at hSw); go_simp; (try (with_reducible rfl)))
                simp only [Act.put, List.setIfInBounds_toArray, List.set_cons_zero, List.set_cons_succ]
                refine wpAnyH_take (i := 21) (oi := ?oie21) (v := undef) ?hie21 (by kernel_rfl) (by kernel_rfl) (by kernel_rfl) ?hqe21 ?hye21 hHeld ?_
                case hie21 => simp only [List.getElem?_toArray, List.getElem?_cons_succ, List.getElem?_cons_zero]; rfl
                case hqe21 => exact fun _ _ _ h => h
                case hye21 => exact Or.inr ⟨by rfl, rfl⟩
                simp only [Act.put, List.setIfInBounds_toArray, List.set_cons_zero, List.set_cons_succ]
                refine wpAnyH_take (i := 22) (oi := ?oie22) (v := undef) ?hie22 (by kernel_rfl) (by kernel_rfl) (by kernel_rfl) ?hqe22 ?hye22 hHeld ?_
                case hie22 => simp only [List.getElem?_toArray, List.getElem?_cons_succ, List.getElem?_cons_zero]; rfl
                case hqe22 => exact fun _ _ _ h => h
                case hye22 => exact Or.inr ⟨by rfl, rfl⟩
                simp only [Act.put, List.setIfInBounds_toArray, List.set_cons_zero, List.set_cons_succ]
                refine wpAnyH_take (i := 23) (oi := ?oie23) (v := undef) ?hie23 (by kernel_rfl) (by kernel_rfl) (by kernel_rfl) ?hqe23 ?hye23 hHeld ?_
                case hie23 => simp only [List.getElem?_toArray, List.getElem?_cons_succ, List.getElem?_cons_zero]; rfl
                case hqe23 => exact fun _ _ _ h => h
                case hye23 => exact Or.inr ⟨by rfl, rfl⟩
                simp only [Act.put, List.setIfInBounds_toArray, List.set_cons_zero, List.set_cons_succ]
                refine wpAnyH_take (i := 24) (oi := ?oie24) (v := undef) ?hie24 (by kernel_rfl) (by kernel_rfl) (by kernel_rfl) ?hqe24 ?hye24 hHeld ?_
                case hie24 => simp only [List.getElem?_toArray, List.getElem?_cons_succ, List.getElem?_cons_zero]; rfl
                case hqe24 => exact fun _ _ _ h => h
                case hye24 => exact Or.inr ⟨by rfl, rfl⟩
                simp only [Act.put, List.setIfInBounds_toArray, List.set_cons_zero, List.set_cons_succ]
                refine wpAnyH_take (i := 25) (oi := ?oie25) (v := undef) ?hie25 (by kernel_rfl) (by kernel_rfl) (by kernel_rfl) ?hqe25 ?hye25 hHeld ?_
                case hie25 => simp only [List.getElem?_toArray, List.getElem?_cons_succ, List.getElem?_cons_zero]; rfl
                case hqe25 => exact fun _ _ _ h => h
                case hye25 => exact Or.inr ⟨by rfl, rfl⟩
                simp only [Act.put, List.setIfInBounds_toArray, List.set_cons_zero, List.set_cons_succ]
                refine wpAnyH_take (i := 26) (oi := ?oie26) (v := ?vve26) ?hie26 (by kernel_rfl) (by kernel_rfl) (by kernel_rfl) ?hqe26 ?hye26 hHeld ?_
                case hie26 => simp only [List.getElem?_toArray, List.getElem?_cons_succ, List.getElem?_cons_zero]; rfl
                case hqe26 => exact fun _ _ _ h => h
                case hye26 => (refine Or.inl ⟨by rfl, ?_⟩; intro w' hSw; (try dsimp only at hSw); go_simp; (try (with_reducible rfl)))
                simp only [Act.put, List.setIfInBounds_toArray, List.set_cons_zero, List.set_cons_succ]
                refine wpAnyH_take (i := 27) (oi := ?oie27) (v := ?vve27) ?hie27 (by kernel_rfl) (by kernel_rfl) (by kernel_rfl) ?hqe27 ?hye27 hHeld ?_
                case hie27 => simp only [List.getElem?_toArray, List.getElem?_cons_succ, List.getElem?_cons_zero]; rfl
                case hqe27 => exact fun _ _ _ h => h
                case hye27 => (refine Or.inl ⟨by rfl, ?_⟩; intro w' hSw; (try dsimp only at hSw); go_simp; (try (with_reducible rfl)))
                simp only [Act.put, List.setIfInBounds_toArray, List.set_cons_zero, List.set_cons_succ]
                refine wpAnyH_done (by kernel_rfl) ?_ _
                go_wp2
                go_meet
                case rel => exact ⟨by rw [HE.out], Below.drew HBr.out⟩
            · have d1 : decide (1000 ≤ f i) = false := decide_eq_false q1
              have e : partB f true (i + 1) = false := by simp only [partB, hpb, d1, Bool.and_false, Bool.false_and]
              have HE : Hid (partB f true (i + 1) = false) := e
              clear e hpb q1
              go_wp2_with fail
              refine wp_region_held_drew (S := (fun w' => w'.cell? ⟨bb, nn + i, none⟩ = some (.int .i64 (f i)) ∧ w'.cell? ⟨bb, nn, none⟩ = some (.int .i64 (f 0)))) (by kernel_rfl) (⟨ci, cz⟩) (fun hHeld => ?_)
              refine wpAnyH_take (i := 0) (oi := ?oif0) (v := ?vvf0) ?hif0 (by kernel_rfl) (by kernel_rfl) (by kernel_rfl) ?hqf0 ?hyf0 hHeld ?_
              case hif0 => simp only [List.getElem?_toArray, List.getElem?_cons_succ, List.getElem?_cons_zero]; rfl
              case hqf0 => exact fun _ _ _ h => h
              case hyf0 => (refine Or.inl ⟨by rfl, ?_⟩; intro w' hSw; (try dsimp only at hSw); go_simp; (try (with_reducible rfl)))
              simp only [Act.put, List.setIfInBounds_toArray, List.set_cons_zero, List.set_cons_succ]
              refine wpAnyH_take (i := 1) (oi := ?oif1) (v := ?vvf1) ?hif1 (by kernel_rfl) (by kernel_rfl) (by kernel_rfl) ?hqf1 ?hyf1 hHeld ?_
              case hif1 => simp only [List.getElem?_toArray, List.getElem?_cons_succ, List.getElem?_cons_zero]; rfl
              case hqf1 => exact fun _ _ _ h => h
              case hyf1 => (refine Or.inl ⟨by rfl, ?_⟩; intro w' hSw; (try dsimp only at hSw); go_simp; (try (with_reducible rfl)))
              simp only [Act.put, List.setIfInBounds_toArray, List.set_cons_zero, List.set_cons_succ]
              refine wpAnyH_take (i := 2) (oi := ?oif2) (v := ?vvf2) ?hif2 (by kernel_rfl) (by kernel_rfl) (by kernel_rfl) ?hqf2 ?hyf2 hHeld ?_
              case hif2 => simp only [List.getElem?_toArray, List.getElem?_cons_succ, List.getElem?_cons_zero]; rfl
              case hqf2 => exact fun _ _ _ h => h
              case hyf2 => (refine Or.inl ⟨by rfl, ?_⟩; intro w' hSw; (try dsimp only at hSw); go_simp; (try (with_reducible rfl)))
              simp only [Act.put, List.setIfInBounds_toArray, List.set_cons_zero, List.set_cons_succ]
              refine wpAnyH_take (i := 3) (oi := ?oif3) (v := ?vvf3) ?hif3 (by kernel_rfl) (by kernel_rfl) (by kernel_rfl) ?hqf3 ?hyf3 hHeld ?_
              case hif3 => simp only [List.getElem?_toArray, List.getElem?_cons_succ, List.getElem?_cons_zero]; rfl
              case hqf3 => exact fun _ _ _ h => h
              case hyf3 => (refine Or.inl ⟨by rfl, ?_⟩; intro w' hSw; (try dsimp only at hSw); go_simp; (try (with_reducible rfl)))
              simp only [Act.put, List.setIfInBounds_toArray, List.set_cons_zero, List.set_cons_succ]
              refine wpAnyH_take (i := 4) (oi := ?oif4) (v := ?vvf4) ?hif4 (by kernel_rfl) (by kernel_rfl) (by kernel_rfl) ?hqf4 ?hyf4 hHeld ?_
              case hif4 => simp only [List.getElem?_toArray, List.getElem?_cons_succ, List.getElem?_cons_zero]; rfl
              case hqf4 => exact fun _ _ _ h => h
              case hyf4 => (refine Or.inl ⟨by rfl, ?_⟩; intro w' hSw; (try dsimp only at hSw); go_simp; (try (with_reducible rfl)))
              simp only [Act.put, List.setIfInBounds_toArray, List.set_cons_zero, List.set_cons_succ]
              refine wpAnyH_take (i := 5) (oi := ?oif5) (v := ?vvf5) ?hif5 (by kernel_rfl) (by kernel_rfl) (by kernel_rfl) ?hqf5 ?hyf5 hHeld ?_
              case hif5 => simp only [List.getElem?_toArray, List.getElem?_cons_succ, List.getElem?_cons_zero]; rfl
              case hqf5 => exact fun _ _ _ h => h
              case hyf5 => (refine Or.inl ⟨by rfl, ?_⟩; intro w' hSw; (try dsimp only at hSw); go_simp; (try (with_reducible rfl)))
              simp only [Act.put, List.setIfInBounds_toArray, List.set_cons_zero, List.set_cons_succ]
              refine wpAnyH_take (i := 6) (oi := ?oif6) (v := ?vvf6) ?hif6 (by kernel_rfl) (by kernel_rfl) (by kernel_rfl) ?hqf6 ?hyf6 hHeld ?_
              case hif6 => simp only [List.getElem?_toArray, List.getElem?_cons_succ, List.getElem?_cons_zero]; rfl
              case hqf6 => exact fun _ _ _ h => h
              case hyf6 => (refine Or.inl ⟨by rfl, ?_⟩; intro w' hSw; (try dsimp only at hSw); go_simp; (try (with_reducible rfl)))
              simp only [Act.put, List.setIfInBounds_toArray, List.set_cons_zero, List.set_cons_succ]
              refine wpAnyH_take (i := 7) (oi := ?oif7) (v := ?vvf7) ?hif7 (by kernel_rfl) (by kernel_rfl) (by kernel_rfl) ?hqf7 ?hyf7 hHeld ?_
              case hif7 => simp only [List.getElem?_toArray, List.getElem?_cons_succ, List.getElem?_cons_zero]; rfl
              case hqf7 => exact fun _ _ _ h => h
              case hyf7 => (refine Or.inl ⟨by rfl, ?_⟩; intro w' hSw; (try dsimp only at hSw); go_simp; (try (with_reducible rfl)))
              simp only [Act.put, List.setIfInBounds_toArray, List.set_cons_zero, List.set_cons_succ]
              refine wpAnyH_take (i := 8) (oi := ?oif8) (v := ?vvf8) ?hif8 (by kernel_rfl) (by kernel_rfl) (by kernel_rfl) ?hqf8 ?hyf8 hHeld ?_
              case hif8 => simp only [List.getElem?_toArray, List.getElem?_cons_succ, List.getElem?_cons_zero]; rfl
              case hqf8 => exact fun _ _ _ h => h
              case hyf8 => (refine Or.inl ⟨by rfl, ?_⟩; intro w' hSw; (try dsimp only at hSw); go_simp; (try (with_reducible rfl)))
              simp only [Act.put, List.setIfInBounds_toArray, List.set_cons_zero, List.set_cons_succ]
              refine wpAnyH_take (i := 9) (oi := ?oif9) (v := undef) ?hif9 (by kernel_rfl) (by kernel_rfl) (by kernel_rfl) ?hqf9 ?hyf9 hHeld ?_
              case hif9 => simp only [List.getElem?_toArray, List.getElem?_cons_succ, List.getElem?_cons_zero]; rfl
              case hqf9 => exact fun _ _ _ h => h
              case hyf9 => exact Or.inr ⟨by rfl, rfl⟩
              simp only [Act.put, List.setIfInBounds_toArray, List.set_cons_zero, List.set_cons_succ]
              refine wpAnyH_take (i := 10) (oi := ?oif10) (v := undef) ?hif10 (by kernel_rfl) (by kernel_rfl) (by kernel_rfl) ?hqf10 ?hyf10 hHeld ?_
              case hif10 => simp only [List.getElem?_toArray, List.getElem?_cons_succ, List.getElem?_cons_zero]; rfl
              case hqf10 => exact fun _ _ _ h => h
              case hyf10 => exact Or.inr ⟨by rfl, rfl⟩
              simp only [Act.put, List.setIfInBounds_toArray, List.set_cons_zero, List.set_cons_succ]
              refine wpAnyH_take (i := 11) (oi := ?oif11) (v := undef) ?hif11 (by kernel_rfl) (by kernel_rfl) (by kernel_rfl) ?hqf11 ?hyf11 hHeld ?_
              case hif11 => simp only [List.getElem?_toArray, List.getElem?_cons_succ, List.getElem?_cons_zero]; rfl
              case hqf11 => exact fun _ _ _ h => h
              case hyf11 => exact Or.inr ⟨by rfl, rfl⟩
              simp only [Act.put, List.setIfInBounds_toArray, List.set_cons_zero, List.set_cons_succ]
              refine wpAnyH_take (i := 12) (oi := ?oif12) (v := undef) ?hif12 (by kernel_rfl) (by kernel_rfl) (by kernel_rfl) ?hqf12 ?hyf12 hHeld ?_
              case hif12 => simp only [List.getElem?_toArray, List.getElem?_cons_succ, List.getElem?_cons_zero]; rfl
              case hqf12 => exact fun _ _ _ h => h
              case hyf12 => exact Or.inr ⟨by rfl, rfl⟩
              simp only [Act.put, List.setIfInBounds_toArray, List.set_cons_zero, List.set_cons_succ]
              refine wpAnyH_take (i := 13) (oi := ?oif13) (v := undef) ?hif13 (by kernel_rfl) (by kernel_rfl) (by kernel_rfl) ?hqf13 ?hyf13 hHeld ?_
              case hif13 => simp only [List.getElem?_toArray, List.getElem?_cons_succ, List.getElem?_cons_zero]; rfl
              case hqf13 => exact fun _ _ _ h => h
              case hyf13 => exact Or.inr ⟨by rfl, rfl⟩
              simp only [Act.put, List.setIfInBounds_toArray, List.set_cons_zero, List.set_cons_succ]
              refine wpAnyH_take (i := 14) (oi := ?oif14) (v := undef) ?hif14 (by kernel_rfl) (by kernel_rfl) (by kernel_rfl) ?hqf14 ?hyf14 hHeld ?_
              case hif14 => simp only [List.getElem?_toArray, List.getElem?_cons_succ, List.getElem?_cons_zero]; rfl
              case hqf14 => exact fun _ _ _ h => h
              case hyf14 => exact Or.inr ⟨by rfl, rfl⟩
              simp only [Act.put, List.setIfInBounds_toArray, List.set_cons_zero, List.set_cons_succ]
              refine wpAnyH_take (i := 15) (oi := ?oif15) (v := undef) ?hif15 (by kernel_rfl) (by kernel_rfl) (by kernel_rfl) ?hqf15 ?hyf15 hHeld ?_
              case hif15 => simp only [List.getElem?_toArray, List.getElem?_cons_succ, List.getElem?_cons_zero]; rfl
              case hqf15 => exact fun _ _ _ h => h
              case hyf15 => exact Or.inr ⟨by rfl, rfl⟩
              simp only [Act.put, List.setIfInBounds_toArray, List.set_cons_zero, List.set_cons_succ]
              refine wpAnyH_take (i := 16) (oi := ?oif16) (v := undef) ?hif16 (by kernel_rfl) (by kernel_rfl) (by kernel_rfl) ?hqf16 ?hyf16 hHeld ?_
              case hif16 => simp only [List.getElem?_toArray, List.getElem?_cons_succ, List.getElem?_cons_zero]; rfl
              case hqf16 => exact fun _ _ _ h => h
              case hyf16 => exact Or.inr ⟨by rfl, rfl⟩
              simp only [Act.put, List.setIfInBounds_toArray, List.set_cons_zero, List.set_cons_succ]
              refine wpAnyH_take (i := 17) (oi := ?oif17) (v := undef) ?hif17 (by kernel_rfl) (by kernel_rfl) (by kernel_rfl) ?hqf17 ?hyf17 hHeld ?_
              case hif17 => simp only [List.getElem?_toArray, List.getElem?_cons_succ, List.getElem?_cons_zero]; rfl
              case hqf17 => exact fun _ _ _ h => h
              case hyf17 => exact Or.inr ⟨by rfl, rfl⟩
              simp only [Act.put, List.setIfInBounds_toArray, List.set_cons_zero, List.set_cons_succ]
              refine wpAnyH_take (i := 18) (oi := ?oif18) (v := undef) ?hif18 (by kernel_rfl) (by kernel_rfl) (by kernel_rfl) ?hqf18 ?hyf18 hHeld ?_
              case hif18 => simp only [List.getElem?_toArray, List.getElem?_cons_succ, List.getElem?_cons_zero]; rfl
              case hqf18 => exact fun _ _ _ h => h
              case hyf18 => exact Or.inr ⟨by rfl, rfl⟩
              simp only [Act.put, List.setIfInBounds_toArray, List.set_cons_zero, List.set_cons_succ]
              refine wpAnyH_take (i := 19) (oi := ?oif19) (v := ?vvf19) ?hif19 (by kernel_rfl) (by kernel_rfl) (by kernel_rfl) ?hqf19 ?hyf19 hHeld ?_
              case hif19 => simp only [List.getElem?_toArray, List.getElem?_cons_succ, List.getElem?_cons_zero]; rfl
              case hqf19 => exact fun _ _ _ h => h
              case hyf19 => (refine Or.inl ⟨by rfl, ?_⟩; intro w' hSw; (try dsimp only at hSw); go_simp; (try (with_reducible rfl)))
              simp only [Act.put, List.setIfInBounds_toArray, List.set_cons_zero, List.set_cons_succ]
              refine wpAnyH_take (i := 20) (oi := ?oif20) (v := ?vvf20) ?hif20 (by kernel_rfl) (by kernel_rfl) (by kernel_rfl) ?hqf20 ?hyf20 hHeld ?_
              case hif20 => simp only [List.getElem?_toArray, List.getElem?_cons_succ, List.getElem?_cons_zero]; rfl
              case hqf20 => exact fun _ _ _ h => h
              case hyf20 => (refine Or.inl ⟨by rfl, ?_⟩; intro w' hSw; (try dsimp only at hSw); go_simp; (try (with_reducible rfl)))
              simp only [Act.put, List.setIfInBounds_toArray, List.set_cons_zero, List.set_cons_succ]
              refine wpAnyH_take (i := 21) (oi := ?oif21) (v := undef) ?hif21 (by kernel_rfl) (by kernel_rfl) (by kernel_rfl) ?hqf21 ?hyf21 hHeld ?_
              case hif21 => simp only [List.getElem?_toArray, List.getElem?_cons_succ, List.getElem?_cons_zero]; rfl
              case hqf21 => exact fun _ _ _ h => h
              case hyf21 => exact Or.inr ⟨by rfl, rfl⟩
              simp only [Act.put, List.setIfInBounds_toArray, List.set_cons_zero, List.set_cons_succ]
              refine wpAnyH_take (i := 22) (oi := ?oif22) (v := undef) ?hif22 (by kernel_rfl) (by kernel_rfl) (by kernel_rfl) ?hqf22 ?hyf22 hHeld ?_
              case hif22 => simp only [List.getElem?_toArray, List.getElem?_cons_succ, List.getElem?_cons_zero]; rfl
              case hqf22 => exact fun _ _ _ h => h
              case hyf22 => exact Or.inr ⟨by rfl, rfl⟩
              simp only [Act.put, List.setIfInBounds_toArray, List.set_cons_zero, List.set_cons_succ]
              refine wpAnyH_take (i := 23) (oi := ?oif23) (v := undef) ?hif23 (by kernel_rfl) (by kernel_rfl) (by kernel_rfl) ?hqf23 ?hyf23 hHeld ?_
              case hif23 => simp only [List.getElem?_toArray, List.getElem?_cons_succ, List.getElem?_cons_zero]; rfl
              case hqf23 => exact fun _ _ _ h => h
              case hyf23 => exact Or.inr ⟨by rfl, rfl⟩
              simp only [Act.put, List.setIfInBounds_toArray, List.set_cons_zero, List.set_cons_succ]
              refine wpAnyH_take (i := 24) (oi := ?oif24) (v := undef) ?hif24 (by kernel_rfl) (by kernel_rfl) (by kernel_rfl) ?hqf24 ?hyf24 hHeld ?_
              case hif24 => simp only [List.getElem?_toArray, List.getElem?_cons_succ, List.getElem?_cons_zero]; rfl
              case hqf24 => exact fun _ _ _ h => h
              case hyf24 => exact Or.inr ⟨by rfl, rfl⟩
              simp only [Act.put, List.setIfInBounds_toArray, List.set_cons_zero, List.set_cons_succ]
              refine wpAnyH_take (i := 25) (oi := ?oif25) (v := undef) ?hif25 (by kernel_rfl) (by kernel_rfl) (by kernel_rfl) ?hqf25 ?hyf25 hHeld ?_
              case hif25 => simp only [List.getElem?_toArray, List.getElem?_cons_succ, List.getElem?_cons_zero]; rfl
              case hqf25 => exact fun _ _ _ h => h
              case hyf25 => exact Or.inr ⟨by rfl, rfl⟩
              simp only [Act.put, List.setIfInBounds_toArray, List.set_cons_zero, List.set_cons_succ]
              refine wpAnyH_take (i := 26) (oi := ?oif26) (v := ?vvf26) ?hif26 (by kernel_rfl) (by kernel_rfl) (by kernel_rfl) ?hqf26 ?hyf26 hHeld ?_
              case hif26 => simp only [List.getElem?_toArray, List.getElem?_cons_succ, List.getElem?_cons_zero]; rfl
              case hqf26 => exact fun _ _ _ h => h
              case hyf26 => (refine Or.inl ⟨by rfl, ?_⟩; intro w' hSw; (try dsimp only at hSw); go_simp; (try (with_reducible rfl)))
              simp only [Act.put, List.setIfInBounds_toArray, List.set_cons_zero, List.set_cons_succ]
              refine wpAnyH_take (i := 27) (oi := ?oif27) (v := ?vvf27) ?hif27 (by kernel_rfl) (by kernel_rfl) (by kernel_rfl) ?hqf27 ?hyf27 hHeld ?_
              case hif27 => simp only [List.getElem?_toArray, List.getElem?_cons_succ, List.getElem?_cons_zero]; rfl
              case hqf27 => exact fun _ _ _ h => h
              case hyf27 => (refine Or.inl ⟨by rfl, ?_⟩; intro w' hSw; (try dsimp only at hSw); go_simp; (try (with_reducible rfl)))
              simp only [Act.put, List.setIfInBounds_toArray, List.set_cons_zero, List.set_cons_succ]
              refine wpAnyH_done (by kernel_rfl) ?_ _
              go_wp2
              go_meet
              case rel => exact ⟨by rw [HE.out], Below.drew HBr.out⟩
        case rest =>
          obtain ⟨rfl, hbn⟩ := hcut
          have cn : wc.cell? ⟨bb, nn + i, none⟩ = some (.int .i64 (f i)) := keep_cell hbn (keep_cell HB.out (HBC.out i hin))
          have HBn : Hid (Below w1.heap.size w1 wc) := hbn
          clear hbn ci cz hwi hwm HBr
          go_wp2
          go_roundw
          case rel => exact ⟨i + 1, by omega, by simp, rfl, rfl, rfl, HBn⟩
          case measure => simp [intOf]; omega
    · have hie : i = 8 := by omega
      subst hie
      clear hin hi
      have s0 := keep_cell HBr.out r0
      have s1 := keep_cell HBr.out r1
      have s2 := keep_cell HBr.out r2
      have sf0 := keep_frozen HBr.out r0 rf0
      have sf1 := keep_frozen HBr.out r1 rf1
      have sf2 := keep_frozen HBr.out r2 rf2
      have sL : w.heap.size + 1 < wr.heap.size := block_lt_of_cell s0
      have HBw : Hid (Below w.heap.size w wr) := bel_trans HB.out HBr.out
      clear r0 r1 r2 rf0 rf1 rf2 u0 u1 u2 c0 c1 uL rL
      cases ha : allB f 8 with
      | true =>
        have hV : V1 = ofF (wrap64 (numB f 8)) := by rw [HV.out]; simp [loadG, ha]
        subst hV
        clear ha
        go_wp2_with fail
        refine (rof_any _ _).mono ?_
        rintro e w3 ⟨rfl, hb3⟩
        have HBf : Hid (Below w.heap.size w w3) := bel_trans HBw.out hb3
        have t0 := keep_cell hb3 s0
        have t1 := keep_cell hb3 s1
        have t2 := keep_cell hb3 s2
        have tf0 := keep_frozen hb3 s0 sf0
        have tf1 := keep_frozen hb3 s1 sf1
        have tf2 := keep_frozen hb3 s2 sf2
        clear hb3 s0 s1 s2 sf0 sf1 sf2
        go_wp2
        exact end_V (by simp [results, Try.results14, go_sem, ofF, t0, t1, t2]) rfl (bel_set (bel_set (bel_set HBf.out (by simp) _) (by simp) _) (by simp) _)
      | false =>
        cases hp : partB f true 8 with
        | true =>
          have hV : V1 = pv := by rw [HV.out]; simp [loadG, ha, hp]
          subst hV
          obtain ⟨k2, hk2, hkn, k3, e2, x0, x1, x2⟩ := HPT.out hp
          clear ha hp
          have j2 : wr.cell? ⟨p, 1, none⟩ = some (.slice (some ⟨g2, 0, none⟩) n2 cap2) := keep_cell HBw.out e2
          have jz : wr.cell? ⟨bb, nn, none⟩ = some (.int .i64 (f 0)) := keep_cell HBw.out (HBC.out 0 (by omega))
          have j3 := keep_cell HBw.out x0
          have j4 := keep_cell HBw.out x1
          have j5 := keep_cell HBw.out x2
          have hq1 : IntKind.i64.wrap (f 0 - 1000) = f 0 - 1000 := by have := hb64 0; rw [i64w]; unfold wrap64; omega
          have hq2 : IntKind.i64.wrap ((f 0 - 1000).tdiv 8) = (k2 : Int) := by rw [i64w, hk2]; unfold wrap64; omega
          have k20 : (0 : Int) ≤ k2 := by omega
          have kk2 : ((k2 : Int)).toNat = k2 := by omega
          have hkl : (k2 : Int) < n2 := by omega
          have hne1 : ¬ (p = w.heap.size + 1) := by have := block_lt_of_cell e2; simp only at this; omega
          clear hb64 hk2 x0 x1 x2 e2
          go_wp2_with fail
          go_region
          all_goals
            go_wp2
            exact end_V (by simp [results, Try.results14, go_sem, s0, s1, s2]) rfl (bel_set (bel_set (bel_set (Below.drew HBw.out) (by simp) _) (by simp) _) (by simp) _)
        | false =>
          have hV : V1 = noV := by rw [HV.out]; simp [loadG, ha, hp]
          subst hV
          clear ha hp
          go_wp2
          exact end_V (by simp [results, Try.results14, go_sem, noV, s0, s1, s2]) rfl (bel_set (bel_set (bel_set HBw.out (by simp) _) (by simp) _) (by simp) _)



set_option maxRecDepth 100000 in
set_option maxHeartbeats 8000000 in
theorem rload_in1 (p l cap g kk bb ln nn : Nat) (uk ub : Int) (f : Nat → Int) (w : World) (V1 pv : V) (HR : Hid (∀ W, Below w.heap.size w W → Calls Try.prog 37 #[.pointer (some ⟨p, 0, none⟩), .int .i64 1, .agg #[.int .i64 uk, .int .i64 (nn : Int), .int .i64 ub]] W (retP (.bool true) W)))
    (e0 : w.cell? ⟨p, 0, none⟩ = some (.slice (some ⟨g, 0, none⟩) l cap)) (e1 : w.cell? ⟨g, kk * 2, none⟩ = some (.slice (some ⟨bb, 0, none⟩) ln ln)) (hk : ub - 1 = kk) (hl : (kk : Int) < l) (hl2 : (l : Int) ≤ 100000) (hln : (ln : Int) ≤ 65536) (hnc : (nn : Int) + 1 ≤ ln) (hb64 : ∀ i, -10000000000000000 ≤ f i ∧ f i ≤ 10000000000000000) (hbc : ∀ i, i < 1 → w.cell? ⟨bb, nn + i, none⟩ = some (.int .i64 (f i))) 
    (HV : Hid (V1 = loadG 1 f pv)) :
    Calls Try.prog 14 #[.pointer (some ⟨p, 0, none⟩), .int .i64 1, .agg #[.int .i64 uk, .int .i64 (nn : Int), .int .i64 ub]] w (retV V1 true w) := by
  have hw1 : IntKind.i64.wrap (ub - 1) = (kk : Int) := by rw [i64w, hk]; unfold wrap64; omega
  have hw2 : IntKind.i64.wrap ((nn : Int) + 1) = (nn : Int) + 1 := by rw [i64w]; unfold wrap64; omega
  have kk0 : (0 : Int) ≤ kk := by omega
  have kkn : ((kk : Int)).toNat = kk := by omega
  have nn0 : (0 : Int) ≤ nn := by omega
  have nnh : (nn : Int) ≤ (nn : Int) + 1 := by omega
  have nnt : ((nn : Int) + 1).toNat = nn + 1 := by omega
  have nne : ¬ ln = nn := by omega
  have HBC : Hid (∀ i, i < 1 → w.cell? ⟨bb, nn + i, none⟩ = some (.int .i64 (f i))) := hbc
  clear hbc
  go_enter Try.func14, Try.ntmps14
  go_wp2_with fail
  refine (HR.out _ (by repeat (first | with_reducible exact Below.refl _ _ | with_reducible refine bel_alloc ?_ _ | with_reducible refine bel_set ?_ (by first | exact Nat.le_refl _ | (simp; done) | (simp; omega)) _ | with_reducible refine Below.drew ?_ | refine bel_trans ?_ (by assumption)))).mono ?_
  rintro e w1 ⟨rfl, hb1⟩
  have u0 : w1.cell? ⟨w.heap.size, 0, none⟩ = some (.int .i64 uk) := keep_cell hb1 (by go_simp)
  have u1 : w1.cell? ⟨w.heap.size, 1, none⟩ = some (.int .i64 (nn : Int)) := keep_cell hb1 (by go_simp)
  have u2 : w1.cell? ⟨w.heap.size, 2, none⟩ = some (.int .i64 ub) := keep_cell hb1 (by go_simp)
  have r0 : w1.cell? ⟨(w.heap.size + 1), 0, none⟩ = some (.int .i64 0) := keep_cell hb1 (by go_simp)
  have r1 : w1.cell? ⟨(w.heap.size + 1), 1, none⟩ = some (.int .i64 0) := keep_cell hb1 (by go_simp)
  have r2 : w1.cell? ⟨(w.heap.size + 1), 2, none⟩ = some (.int .i64 0) := keep_cell hb1 (by go_simp)
  have rf0 : w1.frozen? ⟨(w.heap.size + 1), 0, none⟩ = false := keep_frozen hb1 (v := .int .i64 0) (by go_simp) (by go_simp)
  have rf1 : w1.frozen? ⟨(w.heap.size + 1), 1, none⟩ = false := keep_frozen hb1 (v := .int .i64 0) (by go_simp) (by go_simp)
  have rf2 : w1.frozen? ⟨(w.heap.size + 1), 2, none⟩ = false := keep_frozen hb1 (v := .int .i64 0) (by go_simp) (by go_simp)
  have uL : w.heap.size < w1.heap.size := block_lt_of_cell u0
  have rL : (w.heap.size + 1) < w1.heap.size := block_lt_of_cell r0
  have HB : Hid (Below w.heap.size w w1) := (by repeat (first | with_reducible exact Below.refl _ _ | with_reducible refine bel_alloc ?_ _ | with_reducible refine bel_set ?_ (by first | exact Nat.le_refl _ | (simp; done) | (simp; omega)) _ | with_reducible refine Below.drew ?_ | refine bel_trans ?_ (by assumption)))
  clear hb1
  have c0 := keep_cell HB.out e0
  have c1 := keep_cell HB.out e1
  go_wp2_with fail
  clear HR hk
  refine wp_region_held_drew (S := (fun w' => w'.cell? ⟨w.heap.size, 1, none⟩ = some (.int .i64 (nn : Int)) ∧ w'.cell? ⟨w.heap.size, 2, none⟩ = some (.int .i64 ub) ∧ w'.cell? ⟨p, 0, none⟩ = some (.slice (some ⟨g, 0, none⟩) l cap) ∧ w'.cell? ⟨g, kk * 2, none⟩ = some (.slice (some ⟨bb, 0, none⟩) ln ln))) (by kernel_rfl) (⟨u1, u2, c0, c1⟩) (fun hHeld => ?_)
  refine wpAnyH_take (i := 0) (oi := ?oig0) (v := ?vvg0) ?hig0 (by kernel_rfl) (by kernel_rfl) (by kernel_rfl) ?hqg0 ?hyg0 hHeld ?_
  case hig0 => simp only [List.getElem?_toArray, List.getElem?_cons_succ, List.getElem?_cons_zero]; rfl
  case hqg0 => exact fun _ _ _ h => h
  case hyg0 => (refine Or.inl ⟨by rfl, ?_⟩; intro w' hSw; (try dsimp only at hSw); go_simp; (try (with_reducible rfl)))
  simp only [Act.put, List.setIfInBounds_toArray, List.set_cons_zero, List.set_cons_succ]
  refine wpAnyH_take (i := 1) (oi := ?oig1) (v := ?vvg1) ?hig1 (by kernel_rfl) (by kernel_rfl) (by kernel_rfl) ?hqg1 ?hyg1 hHeld ?_
  case hig1 => simp only [List.getElem?_toArray, List.getElem?_cons_succ, List.getElem?_cons_zero]; rfl
  case hqg1 => exact fun _ _ _ h => h
  case hyg1 => (refine Or.inl ⟨by rfl, ?_⟩; intro w' hSw; (try dsimp only at hSw); go_simp; (try (with_reducible rfl)))
  simp only [Act.put, List.setIfInBounds_toArray, List.set_cons_zero, List.set_cons_succ]
  refine wpAnyH_take (i := 2) (oi := ?oig2) (v := ?vvg2) ?hig2 (by kernel_rfl) (by kernel_rfl) (by kernel_rfl) ?hqg2 ?hyg2 hHeld ?_
  case hig2 => simp only [List.getElem?_toArray, List.getElem?_cons_succ, List.getElem?_cons_zero]; rfl
  case hqg2 => exact fun _ _ _ h => h
  case hyg2 => (refine Or.inl ⟨by rfl, ?_⟩; intro w' hSw; (try dsimp only at hSw); go_simp; (try (with_reducible rfl)))
  simp only [Act.put, List.setIfInBounds_toArray, List.set_cons_zero, List.set_cons_succ]
  refine wpAnyH_take (i := 3) (oi := ?oig3) (v := ?vvg3) ?hig3 (by kernel_rfl) (by kernel_rfl) (by kernel_rfl) ?hqg3 ?hyg3 hHeld ?_
  case hig3 => simp only [List.getElem?_toArray, List.getElem?_cons_succ, List.getElem?_cons_zero]; rfl
  case hqg3 => exact fun _ _ _ h => h
  case hyg3 => (refine Or.inl ⟨by rfl, ?_⟩; intro w' hSw; (try dsimp only at hSw); go_simp; (try (with_reducible rfl)))
  simp only [Act.put, List.setIfInBounds_toArray, List.set_cons_zero, List.set_cons_succ]
  refine wpAnyH_take (i := 4) (oi := ?oig4) (v := ?vvg4) ?hig4 (by kernel_rfl) (by kernel_rfl) (by kernel_rfl) ?hqg4 ?hyg4 hHeld ?_
  case hig4 => simp only [List.getElem?_toArray, List.getElem?_cons_succ, List.getElem?_cons_zero]; rfl
  case hqg4 => exact fun _ _ _ h => h
  case hyg4 => (refine Or.inl ⟨by rfl, ?_⟩; intro w' hSw; (try dsimp only at hSw); go_simp; (try (with_reducible rfl)))
  simp only [Act.put, List.setIfInBounds_toArray, List.set_cons_zero, List.set_cons_succ]
  refine wpAnyH_take (i := 5) (oi := ?oig5) (v := ?vvg5) ?hig5 (by kernel_rfl) (by kernel_rfl) (by kernel_rfl) ?hqg5 ?hyg5 hHeld ?_
  case hig5 => simp only [List.getElem?_toArray, List.getElem?_cons_succ, List.getElem?_cons_zero]; rfl
  case hqg5 => exact fun _ _ _ h => h
  case hyg5 => (refine Or.inl ⟨by rfl, ?_⟩; intro w' hSw; (try dsimp only at hSw); go_simp; (try (with_reducible rfl)))
  simp only [Act.put, List.setIfInBounds_toArray, List.set_cons_zero, List.set_cons_succ]
  refine wpAnyH_take (i := 6) (oi := ?oig6) (v := ?vvg6) ?hig6 (by kernel_rfl) (by kernel_rfl) (by kernel_rfl) ?hqg6 ?hyg6 hHeld ?_
  case hig6 => simp only [List.getElem?_toArray, List.getElem?_cons_succ, List.getElem?_cons_zero]; rfl
  case hqg6 => exact fun _ _ _ h => h
  case hyg6 => (refine Or.inl ⟨by rfl, ?_⟩; intro w' hSw; (try dsimp only at hSw); go_simp; (try (with_reducible rfl)))
  simp only [Act.put, List.setIfInBounds_toArray, List.set_cons_zero, List.set_cons_succ]
  refine wpAnyH_take (i := 7) (oi := ?oig7) (v := ?vvg7) ?hig7 (by kernel_rfl) (by kernel_rfl) (by kernel_rfl) ?hqg7 ?hyg7 hHeld ?_
  case hig7 => simp only [List.getElem?_toArray, List.getElem?_cons_succ, List.getElem?_cons_zero]; rfl
  case hqg7 => exact fun _ _ _ h => h
  case hyg7 => (refine Or.inl ⟨by rfl, ?_⟩; intro w' hSw; (try dsimp only at hSw); go_simp; (try (with_reducible rfl)))
  simp only [Act.put, List.setIfInBounds_toArray, List.set_cons_zero, List.set_cons_succ]
  refine wpAnyH_take (i := 8) (oi := ?oig8) (v := ?vvg8) ?hig8 (by kernel_rfl) (by kernel_rfl) (by kernel_rfl) ?hqg8 ?hyg8 hHeld ?_
  case hig8 => simp only [List.getElem?_toArray, List.getElem?_cons_succ, List.getElem?_cons_zero]; rfl
  case hqg8 => exact fun _ _ _ h => h
  case hyg8 => (refine Or.inl ⟨by rfl, ?_⟩; intro w' hSw; (try dsimp only at hSw); go_simp; (try (with_reducible rfl)))
  simp only [Act.put, List.setIfInBounds_toArray, List.set_cons_zero, List.set_cons_succ]
  refine wpAnyH_take (i := 9) (oi := ?oig9) (v := ?vvg9) ?hig9 (by kernel_rfl) (by kernel_rfl) (by kernel_rfl) ?hqg9 ?hyg9 hHeld ?_
  case hig9 => simp only [List.getElem?_toArray, List.getElem?_cons_succ, List.getElem?_cons_zero]; rfl
  case hqg9 => exact fun _ _ _ h => h
  case hyg9 => (refine Or.inl ⟨by rfl, ?_⟩; intro w' hSw; (try dsimp only at hSw); go_simp; (try (with_reducible rfl)))
  simp only [Act.put, List.setIfInBounds_toArray, List.set_cons_zero, List.set_cons_succ]
  refine wpAnyH_take (i := 10) (oi := ?oig10) (v := ?vvg10) ?hig10 (by kernel_rfl) (by kernel_rfl) (by kernel_rfl) ?hqg10 ?hyg10 hHeld ?_
  case hig10 => simp only [List.getElem?_toArray, List.getElem?_cons_succ, List.getElem?_cons_zero]; rfl
  case hqg10 => exact fun _ _ _ h => h
  case hyg10 => (refine Or.inl ⟨by rfl, ?_⟩; intro w' hSw; (try dsimp only at hSw); go_simp; (try (with_reducible rfl)))
  simp only [Act.put, List.setIfInBounds_toArray, List.set_cons_zero, List.set_cons_succ]
  refine wpAnyH_take (i := 11) (oi := ?oig11) (v := ?vvg11) ?hig11 (by kernel_rfl) (by kernel_rfl) (by kernel_rfl) ?hqg11 ?hyg11 hHeld ?_
  case hig11 => simp only [List.getElem?_toArray, List.getElem?_cons_succ, List.getElem?_cons_zero]; rfl
  case hqg11 => exact fun _ _ _ h => h
  case hyg11 => (refine Or.inl ⟨by rfl, ?_⟩; intro w' hSw; (try dsimp only at hSw); go_simp; (try (with_reducible rfl)))
  simp only [Act.put, List.setIfInBounds_toArray, List.set_cons_zero, List.set_cons_succ]
  refine wpAnyH_take (i := 12) (oi := ?oig12) (v := ?vvg12) ?hig12 (by kernel_rfl) (by kernel_rfl) (by kernel_rfl) ?hqg12 ?hyg12 hHeld ?_
  case hig12 => simp only [List.getElem?_toArray, List.getElem?_cons_succ, List.getElem?_cons_zero]; rfl
  case hqg12 => exact fun _ _ _ h => h
  case hyg12 => (refine Or.inl ⟨by rfl, ?_⟩; intro w' hSw; (try dsimp only at hSw); go_simp; (try (with_reducible rfl)))
  simp only [Act.put, List.setIfInBounds_toArray, List.set_cons_zero, List.set_cons_succ]
  refine wpAnyH_take (i := 13) (oi := ?oig13) (v := ?vvg13) ?hig13 (by kernel_rfl) (by kernel_rfl) (by kernel_rfl) ?hqg13 ?hyg13 hHeld ?_
  case hig13 => simp only [List.getElem?_toArray, List.getElem?_cons_succ, List.getElem?_cons_zero]; rfl
  case hqg13 => exact fun _ _ _ h => h
  case hyg13 => (refine Or.inl ⟨by rfl, ?_⟩; intro w' hSw; (try dsimp only at hSw); go_simp; (try (with_reducible rfl)))
  simp only [Act.put, List.setIfInBounds_toArray, List.set_cons_zero, List.set_cons_succ]
  refine wpAnyH_take (i := 14) (oi := ?oig14) (v := ?vvg14) ?hig14 (by kernel_rfl) (by kernel_rfl) (by kernel_rfl) ?hqg14 ?hyg14 hHeld ?_
  case hig14 => simp only [List.getElem?_toArray, List.getElem?_cons_succ, List.getElem?_cons_zero]; rfl
  case hqg14 => exact fun _ _ _ h => h
  case hyg14 => (refine Or.inl ⟨by rfl, ?_⟩; intro w' hSw; (try dsimp only at hSw); go_simp; (try (with_reducible rfl)))
  simp only [Act.put, List.setIfInBounds_toArray, List.set_cons_zero, List.set_cons_succ]
  refine wpAnyH_take (i := 15) (oi := ?oig15) (v := ?vvg15) ?hig15 (by kernel_rfl) (by kernel_rfl) (by kernel_rfl) ?hqg15 ?hyg15 hHeld ?_
  case hig15 => simp only [List.getElem?_toArray, List.getElem?_cons_succ, List.getElem?_cons_zero]; rfl
  case hqg15 => exact fun _ _ _ h => h
  case hyg15 => (refine Or.inl ⟨by rfl, ?_⟩; intro w' hSw; (try dsimp only at hSw); go_simp; (try (with_reducible rfl)))
  simp only [Act.put, List.setIfInBounds_toArray, List.set_cons_zero, List.set_cons_succ]
  refine wpAnyH_take (i := 16) (oi := ?oig16) (v := ?vvg16) ?hig16 (by kernel_rfl) (by kernel_rfl) (by kernel_rfl) ?hqg16 ?hyg16 hHeld ?_
  case hig16 => simp only [List.getElem?_toArray, List.getElem?_cons_succ, List.getElem?_cons_zero]; rfl
  case hqg16 => exact fun _ _ _ h => h
  case hyg16 => (refine Or.inl ⟨by rfl, ?_⟩; intro w' hSw; (try dsimp only at hSw); go_simp; (try (with_reducible rfl)))
  simp only [Act.put, List.setIfInBounds_toArray, List.set_cons_zero, List.set_cons_succ]
  refine wpAnyH_take (i := 17) (oi := ?oig17) (v := ?vvg17) ?hig17 (by kernel_rfl) (by kernel_rfl) (by kernel_rfl) ?hqg17 ?hyg17 hHeld ?_
  case hig17 => simp only [List.getElem?_toArray, List.getElem?_cons_succ, List.getElem?_cons_zero]; rfl
  case hqg17 => exact fun _ _ _ h => h
  case hyg17 => (refine Or.inl ⟨by rfl, ?_⟩; intro w' hSw; (try dsimp only at hSw); go_simp; (try (with_reducible rfl)))
  simp only [Act.put, List.setIfInBounds_toArray, List.set_cons_zero, List.set_cons_succ]
  refine wpAnyH_done (by kernel_rfl) ?_ _
  clear hHeld
  go_wp2
  go_loopw [9, 10, 11, 12] (fun nv av pv v wr => ∃ i : Nat, i ≤ 1 ∧ v = .int .i64 i ∧ nv = .int .u64 (numB f i) ∧ av = .bool (allB f i) ∧ pv = .bool (partB f false i) ∧ Hid (Below w1.heap.size w1 wr)) (fun _ _ _ v _ => 1 - (intOf v).toNat)
  case atStart => exact ⟨0, by omega, rfl, rfl, rfl, rfl, Below.drew (Below.refl _ _)⟩
  case round =>
    obtain ⟨i, hi, rfl, rfl, rfl, rfl, HBr⟩ := hrel
    by_cases hin : i < 1
    · have i0 : (0 : Int) ≤ i := by omega
      have i1 : (i : Int) < 1 := by omega
      have ci : wr.cell? ⟨bb, nn + i, none⟩ = some (.int .i64 (f i)) := keep_cell HBr.out (keep_cell HB.out (HBC.out i hin))
      have cz : wr.cell? ⟨bb, nn, none⟩ = some (.int .i64 (f 0)) := keep_cell HBr.out (keep_cell HB.out (HBC.out 0 (by omega)))
      have hwi : IntKind.i64.wrap (f 0 + i) = f 0 + i := by have := hb64 0; rw [i64w]; unfold wrap64; omega
      have hwm : IntKind.i64.wrap ((f 0).tmod 8) = (f 0).tmod 8 := by
        have h1 : (f 0).tmod 8 < 8 := Int.tmod_lt_of_pos _ (by decide)
        have h2 : -8 < (f 0).tmod 8 := by
          have := Int.tmod_lt_of_pos (-(f 0)) (show (0:Int) < 8 by decide)
          rw [Int.neg_tmod] at this; omega
        rw [i64w]; unfold wrap64; omega
      clear hb64
      go_upto_region 10 with fail
      go_cut [10] (fun sv w' => sv = .bool (allB f (i + 1)) ∧ w' = wr)
      case first =>
        cases hab : allB f i with
        | false =>
          have e : allB f (i + 1) = false := by simp [allB, hab]
          have HE : Hid (allB f (i + 1) = false) := e
          clear e hab
          go_wp2
          go_meet
          case rel => exact ⟨by rw [HE.out], rfl⟩
        | true =>
          by_cases q1 : 0 ≤ f i
          · have d1 : decide (0 ≤ f i) = true := decide_eq_true q1
            have e : allB f (i + 1) = decide (f i < 256) := by simp [allB, hab, q1]
            have HE : Hid (allB f (i + 1) = decide (f i < 256)) := e
            clear e hab q1
            go_wp2
            go_meet
            case rel => exact ⟨by rw [HE.out], rfl⟩
          · have d1 : decide (0 ≤ f i) = false := decide_eq_false q1
            have e : allB f (i + 1) = false := by simp [allB, q1]
            have HE : Hid (allB f (i + 1) = false) := e
            clear e hab q1
            go_wp2
            go_meet
            case rel => exact ⟨by rw [HE.out], rfl⟩
      case rest =>
        obtain ⟨rfl, rfl⟩ := hcut
        go_upto_region 11 with fail
        go_cut [11] (fun sv w' => sv = .bool (partB f false (i + 1)) ∧ Below w1.heap.size w1 w')
        case first =>
          have HE : Hid (partB f false (i + 1) = false) := part_false f (i + 1)
          have e0 : partB f false i = false := part_false f i
          rw [e0]
          clear e0
          go_wp2_with fail
          refine wp_region_held_drew (S := (fun w' => w'.cell? ⟨bb, nn + i, none⟩ = some (.int .i64 (f i)) ∧ w'.cell? ⟨bb, nn, none⟩ = some (.int .i64 (f 0)))) (by kernel_rfl) (⟨ci, cz⟩) (fun hHeld => ?_)
          refine wpAnyH_take (i := 0) (oi := ?oih0) (v := ?vvh0) ?hih0 (by kernel_rfl) (by kernel_rfl) (by kernel_rfl) ?hqh0 ?hyh0 hHeld ?_
          case hih0 => simp only [List.getElem?_toArray, List.getElem?_cons_succ, List.getElem?_cons_zero]; rfl
          case hqh0 => exact fun _ _ _ h => h
          case hyh0 => (refine Or.inl ⟨by rfl, ?_⟩; intro w' hSw; (try dsimp only at hSw); go_simp; (try (with_reducible rfl)))
          simp only [Act.put, List.setIfInBounds_toArray, List.set_cons_zero, List.set_cons_succ]
          refine wpAnyH_take (i := 1) (oi := ?oih1) (v := ?vvh1) ?hih1 (by kernel_rfl) (by kernel_rfl) (by kernel_rfl) ?hqh1 ?hyh1 hHeld ?_
          case hih1 => simp only [List.getElem?_toArray, List.getElem?_cons_succ, List.getElem?_cons_zero]; rfl
          case hqh1 => exact fun _ _ _ h => h
          case hyh1 => (refine Or.inl ⟨by rfl, ?_⟩; intro w' hSw; (try dsimp only at hSw); go_simp; (try (with_reducible rfl)))
          simp only [Act.put, List.setIfInBounds_toArray, List.set_cons_zero, List.set_cons_succ]
          refine wpAnyH_take (i := 2) (oi := ?oih2) (v := undef) ?hih2 (by kernel_rfl) (by kernel_rfl) (by kernel_rfl) ?hqh2 ?hyh2 hHeld ?_
          case hih2 => simp only [List.getElem?_toArray, List.getElem?_cons_succ, List.getElem?_cons_zero]; rfl
          case hqh2 => exact fun _ _ _ h => h
          case hyh2 => exact Or.inr ⟨by rfl, rfl⟩
          simp only [Act.put, List.setIfInBounds_toArray, List.set_cons_zero, List.set_cons_succ]
          refine wpAnyH_take (i := 3) (oi := ?oih3) (v := undef) ?hih3 (by kernel_rfl) (by kernel_rfl) (by kernel_rfl) ?hqh3 ?hyh3 hHeld ?_
          case hih3 => simp only [List.getElem?_toArray, List.getElem?_cons_succ, List.getElem?_cons_zero]; rfl
          case hqh3 => exact fun _ _ _ h => h
          case hyh3 => exact Or.inr ⟨by rfl, rfl⟩
          simp only [Act.put, List.setIfInBounds_toArray, List.set_cons_zero, List.set_cons_succ]
          refine wpAnyH_take (i := 4) (oi := ?oih4) (v := undef) ?hih4 (by kernel_rfl) (by kernel_rfl) (by kernel_rfl) ?hqh4 ?hyh4 hHeld ?_
          case hih4 => simp only [List.getElem?_toArray, List.getElem?_cons_succ, List.getElem?_cons_zero]; rfl
          case hqh4 => exact fun _ _ _ h => h
          case hyh4 => exact Or.inr ⟨by rfl, rfl⟩
          simp only [Act.put, List.setIfInBounds_toArray, List.set_cons_zero, List.set_cons_succ]
          refine wpAnyH_take (i := 5) (oi := ?oih5) (v := undef) ?hih5 (by kernel_rfl) (by kernel_rfl) (by kernel_rfl) ?hqh5 ?hyh5 hHeld ?_
          case hih5 => simp only [List.getElem?_toArray, List.getElem?_cons_succ, List.getElem?_cons_zero]; rfl
          case hqh5 => exact fun _ _ _ h => h
          case hyh5 => exact Or.inr ⟨by rfl, rfl⟩
          simp only [Act.put, List.setIfInBounds_toArray, List.set_cons_zero, List.set_cons_succ]
          refine wpAnyH_take (i := 6) (oi := ?oih6) (v := undef) ?hih6 (by kernel_rfl) (by kernel_rfl) (by kernel_rfl) ?hqh6 ?hyh6 hHeld ?_
          case hih6 => simp only [List.getElem?_toArray, List.getElem?_cons_succ, List.getElem?_cons_zero]; rfl
          case hqh6 => exact fun _ _ _ h => h
          case hyh6 => exact Or.inr ⟨by rfl, rfl⟩
          simp only [Act.put, List.setIfInBounds_toArray, List.set_cons_zero, List.set_cons_succ]
          refine wpAnyH_take (i := 7) (oi := ?oih7) (v := ?vvh7) ?hih7 (by kernel_rfl) (by kernel_rfl) (by kernel_rfl) ?hqh7 ?hyh7 hHeld ?_
          case hih7 => simp only [List.getElem?_toArray, List.getElem?_cons_succ, List.getElem?_cons_zero]; rfl
          case hqh7 => exact fun _ _ _ h => h
          case hyh7 => (refine Or.inl ⟨by rfl, ?_⟩; intro w' hSw; (try dsimp only at hSw); go_simp; (try (with_reducible rfl)))
          simp only [Act.put, List.setIfInBounds_toArray, List.set_cons_zero, List.set_cons_succ]
          refine wpAnyH_take (i := 8) (oi := ?oih8) (v := ?vvh8) ?hih8 (by kernel_rfl) (by kernel_rfl) (by kernel_rfl) ?hqh8 ?hyh8 hHeld ?_
          case hih8 => simp only [List.getElem?_toArray, List.getElem?_cons_succ, List.getElem?_cons_zero]; rfl
          case hqh8 => exact fun _ _ _ h => h
          case hyh8 => (refine Or.inl ⟨by rfl, ?_⟩; intro w' hSw; (try dsimp only at hSw); go_simp; (try (with_reducible rfl)))
          simp only [Act.put, List.setIfInBounds_toArray, List.set_cons_zero, List.set_cons_succ]
          refine wpAnyH_take (i := 9) (oi := ?oih9) (v := undef) ?hih9 (by kernel_rfl) (by kernel_rfl) (by kernel_rfl) ?hqh9 ?hyh9 hHeld ?_
          case hih9 => simp only [List.getElem?_toArray, List.getElem?_cons_succ, List.getElem?_cons_zero]; rfl
          case hqh9 => exact fun _ _ _ h => h
          case hyh9 => exact Or.inr ⟨by rfl, rfl⟩
          simp only [Act.put, List.setIfInBounds_toArray, List.set_cons_zero, List.set_cons_succ]
          refine wpAnyH_take (i := 10) (oi := ?oih10) (v := undef) ?hih10 (by kernel_rfl) (by kernel_rfl) (by kernel_rfl) ?hqh10 ?hyh10 hHeld ?_
          case hih10 => simp only [List.getElem?_toArray, List.getElem?_cons_succ, List.getElem?_cons_zero]; rfl
          case hqh10 => exact fun _ _ _ h => h
          case hyh10 => exact Or.inr ⟨by rfl, rfl⟩
          simp only [Act.put, List.setIfInBounds_toArray, List.set_cons_zero, List.set_cons_succ]
          refine wpAnyH_take (i := 11) (oi := ?oih11) (v := undef) ?hih11 (by kernel_rfl) (by kernel_rfl) (by kernel_rfl) ?hqh11 ?hyh11 hHeld ?_
          case hih11 => simp only [List.getElem?_toArray, List.getElem?_cons_succ, List.getElem?_cons_zero]; rfl
          case hqh11 => exact fun _ _ _ h => h
          case hyh11 => exact Or.inr ⟨by rfl, rfl⟩
          simp only [Act.put, List.setIfInBounds_toArray, List.set_cons_zero, List.set_cons_succ]
          refine wpAnyH_take (i := 12) (oi := ?oih12) (v := undef) ?hih12 (by kernel_rfl) (by kernel_rfl) (by kernel_rfl) ?hqh12 ?hyh12 hHeld ?_
          case hih12 => simp only [List.getElem?_toArray, List.getElem?_cons_succ, List.getElem?_cons_zero]; rfl
          case hqh12 => exact fun _ _ _ h => h
          case hyh12 => exact Or.inr ⟨by rfl, rfl⟩
          simp only [Act.put, List.setIfInBounds_toArray, List.set_cons_zero, List.set_cons_succ]
          refine wpAnyH_take (i := 13) (oi := ?oih13) (v := undef) ?hih13 (by kernel_rfl) (by kernel_rfl) (by kernel_rfl) ?hqh13 ?hyh13 hHeld ?_
          case hih13 => simp only [List.getElem?_toArray, List.getElem?_cons_succ, List.getElem?_cons_zero]; rfl
          case hqh13 => exact fun _ _ _ h => h
          case hyh13 => exact Or.inr ⟨by rfl, rfl⟩
          simp only [Act.put, List.setIfInBounds_toArray, List.set_cons_zero, List.set_cons_succ]
          refine wpAnyH_take (i := 14) (oi := ?oih14) (v := undef) ?hih14 (by kernel_rfl) (by kernel_rfl) (by kernel_rfl) ?hqh14 ?hyh14 hHeld ?_
          case hih14 => simp only [List.getElem?_toArray, List.getElem?_cons_succ, List.getElem?_cons_zero]; rfl
          case hqh14 => exact fun _ _ _ h => h
          case hyh14 => exact Or.inr ⟨by rfl, rfl⟩
          simp only [Act.put, List.setIfInBounds_toArray, List.set_cons_zero, List.set_cons_succ]
          refine wpAnyH_take (i := 15) (oi := ?oih15) (v := undef) ?hih15 (by kernel_rfl) (by kernel_rfl) (by kernel_rfl) ?hqh15 ?hyh15 hHeld ?_
          case hih15 => simp only [List.getElem?_toArray, List.getElem?_cons_succ, List.getElem?_cons_zero]; rfl
          case hqh15 => exact fun _ _ _ h => h
          case hyh15 => exact Or.inr ⟨by rfl, rfl⟩
          simp only [Act.put, List.setIfInBounds_toArray, List.set_cons_zero, List.set_cons_succ]
          refine wpAnyH_take (i := 16) (oi := ?oih16) (v := undef) ?hih16 (by kernel_rfl) (by kernel_rfl) (by kernel_rfl) ?hqh16 ?hyh16 hHeld ?_
          case hih16 => simp only [List.getElem?_toArray, List.getElem?_cons_succ, List.getElem?_cons_zero]; rfl
          case hqh16 => exact fun _ _ _ h => h
          case hyh16 => exact Or.inr ⟨by rfl, rfl⟩
          simp only [Act.put, List.setIfInBounds_toArray, List.set_cons_zero, List.set_cons_succ]
          refine wpAnyH_take (i := 17) (oi := ?oih17) (v := undef) ?hih17 (by kernel_rfl) (by kernel_rfl) (by kernel_rfl) ?hqh17 ?hyh17 hHeld ?_
          case hih17 => simp only [List.getElem?_toArray, List.getElem?_cons_succ, List.getElem?_cons_zero]; rfl
          case hqh17 => exact fun _ _ _ h => h
          case hyh17 => exact Or.inr ⟨by rfl, rfl⟩
          simp only [Act.put, List.setIfInBounds_toArray, List.set_cons_zero, List.set_cons_succ]
          refine wpAnyH_take (i := 18) (oi := ?oih18) (v := undef) ?hih18 (by kernel_rfl) (by kernel_rfl) (by kernel_rfl) ?hqh18 ?hyh18 hHeld ?_
          case hih18 => simp only [List.getElem?_toArray, List.getElem?_cons_succ, List.getElem?_cons_zero]; rfl
          case hqh18 => exact fun _ _ _ h => h
          case hyh18 => exact Or.inr ⟨by rfl, rfl⟩
          simp only [Act.put, List.setIfInBounds_toArray, List.set_cons_zero, List.set_cons_succ]
          refine wpAnyH_take (i := 19) (oi := ?oih19) (v := ?vvh19) ?hih19 (by kernel_rfl) (by kernel_rfl) (by kernel_rfl) ?hqh19 ?hyh19 hHeld ?_
          case hih19 => simp only [List.getElem?_toArray, List.getElem?_cons_succ, List.getElem?_cons_zero]; rfl
          case hqh19 => exact fun _ _ _ h => h
          case hyh19 => (refine Or.inl ⟨by rfl, ?_⟩; intro w' hSw; (try dsimp only at hSw); go_simp; (try (with_reducible rfl)))
          simp only [Act.put, List.setIfInBounds_toArray, List.set_cons_zero, List.set_cons_succ]
          refine wpAnyH_take (i := 20) (oi := ?oih20) (v := ?vvh20) ?hih20 (by kernel_rfl) (by kernel_rfl) (by kernel_rfl) ?hqh20 ?hyh20 hHeld ?_
          case hih20 => simp only [List.getElem?_toArray, List.getElem?_cons_succ, List.getElem?_cons_zero]; rfl
          case hqh20 => exact fun _ _ _ h => h
          case hyh20 => (refine Or.inl ⟨by rfl, ?_⟩; intro w' hSw; (try dsimp only at hSw); go_simp; (try (with_reducible rfl)))
          simp only [Act.put, List.setIfInBounds_toArray, List.set_cons_zero, List.set_cons_succ]
          refine wpAnyH_take (i := 21) (oi := ?oih21) (v := undef) ?hih21 (by kernel_rfl) (by kernel_rfl) (by kernel_rfl) ?hqh21 ?hyh21 hHeld ?_
          case hih21 => simp only [List.getElem?_toArray, List.getElem?_cons_succ, List.getElem?_cons_zero]; rfl
          case hqh21 => exact fun _ _ _ h => h
          case hyh21 => exact Or.inr ⟨by rfl, rfl⟩
          simp only [Act.put, List.setIfInBounds_toArray, List.set_cons_zero, List.set_cons_succ]
          refine wpAnyH_take (i := 22) (oi := ?oih22) (v := undef) ?hih22 (by kernel_rfl) (by kernel_rfl) (by kernel_rfl) ?hqh22 ?hyh22 hHeld ?_
          case hih22 => simp only [List.getElem?_toArray, List.getElem?_cons_succ, List.getElem?_cons_zero]; rfl
          case hqh22 => exact fun _ _ _ h => h
          case hyh22 => exact Or.inr ⟨by rfl, rfl⟩
          simp only [Act.put, List.setIfInBounds_toArray, List.set_cons_zero, List.set_cons_succ]
          refine wpAnyH_take (i := 23) (oi := ?oih23) (v := undef) ?hih23 (by kernel_rfl) (by kernel_rfl) (by kernel_rfl) ?hqh23 ?hyh23 hHeld ?_
          case hih23 => simp only [List.getElem?_toArray, List.getElem?_cons_succ, List.getElem?_cons_zero]; rfl
          case hqh23 => exact fun _ _ _ h => h
          case hyh23 => exact Or.inr ⟨by rfl, rfl⟩
          simp only [Act.put, List.setIfInBounds_toArray, List.set_cons_zero, List.set_cons_succ]
          refine wpAnyH_take (i := 24) (oi := ?oih24) (v := undef) ?hih24 (by kernel_rfl) (by kernel_rfl) (by kernel_rfl) ?hqh24 ?hyh24 hHeld ?_
          case hih24 => simp only [List.getElem?_toArray, List.getElem?_cons_succ, List.getElem?_cons_zero]; rfl
          case hqh24 => exact fun _ _ _ h => h
          case hyh24 => exact Or.inr ⟨by rfl, rfl⟩
          simp only [Act.put, List.setIfInBounds_toArray, List.set_cons_zero, List.set_cons_succ]
          refine wpAnyH_take (i := 25) (oi := ?oih25) (v := undef) ?hih25 (by kernel_rfl) (by kernel_rfl) (by kernel_rfl) ?hqh25 ?hyh25 hHeld ?_
          case hih25 => simp only [List.getElem?_toArray, List.getElem?_cons_succ, List.getElem?_cons_zero]; rfl
          case hqh25 => exact fun _ _ _ h => h
          case hyh25 => exact Or.inr ⟨by rfl, rfl⟩
          simp only [Act.put, List.setIfInBounds_toArray, List.set_cons_zero, List.set_cons_succ]
          refine wpAnyH_take (i := 26) (oi := ?oih26) (v := ?vvh26) ?hih26 (by kernel_rfl) (by kernel_rfl) (by kernel_rfl) ?hqh26 ?hyh26 hHeld ?_
          case hih26 => simp only [List.getElem?_toArray, List.getElem?_cons_succ, List.getElem?_cons_zero]; rfl
          case hqh26 => exact fun _ _ _ h => h
          case hyh26 => (refine Or.inl ⟨by rfl, ?_⟩; intro w' hSw; (try dsimp only at hSw); go_simp; (try (with_reducible rfl)))
          simp only [Act.put, List.setIfInBounds_toArray, List.set_cons_zero, List.set_cons_succ]
          refine wpAnyH_take (i := 27) (oi := ?oih27) (v := ?vvh27) ?hih27 (by kernel_rfl) (by kernel_rfl) (by kernel_rfl) ?hqh27 ?hyh27 hHeld ?_
          case hih27 => simp only [List.getElem?_toArray, List.getElem?_cons_succ, List.getElem?_cons_zero]; rfl
          case hqh27 => exact fun _ _ _ h => h
          case hyh27 => (refine Or.inl ⟨by rfl, ?_⟩; intro w' hSw; (try dsimp only at hSw); go_simp; (try (with_reducible rfl)))
          simp only [Act.put, List.setIfInBounds_toArray, List.set_cons_zero, List.set_cons_succ]
          refine wpAnyH_done (by kernel_rfl) ?_ _
          go_wp2
          go_meet
          case rel => exact ⟨by rw [HE.out], Below.drew HBr.out⟩
        case rest =>
          obtain ⟨rfl, hbn⟩ := hcut
          have cn : wc.cell? ⟨bb, nn + i, none⟩ = some (.int .i64 (f i)) := keep_cell hbn (keep_cell HB.out (HBC.out i hin))
          have HBn : Hid (Below w1.heap.size w1 wc) := hbn
          clear hbn ci cz hwi hwm HBr
          go_wp2
          go_roundw
          case rel => exact ⟨i + 1, by omega, by simp, rfl, rfl, rfl, HBn⟩
          case measure => simp [intOf]; omega
    · have hie : i = 1 := by omega
      subst hie
      clear hin hi
      have s0 := keep_cell HBr.out r0
      have s1 := keep_cell HBr.out r1
      have s2 := keep_cell HBr.out r2
      have sf0 := keep_frozen HBr.out r0 rf0
      have sf1 := keep_frozen HBr.out r1 rf1
      have sf2 := keep_frozen HBr.out r2 rf2
      have sL : w.heap.size + 1 < wr.heap.size := block_lt_of_cell s0
      have HBw : Hid (Below w.heap.size w wr) := bel_trans HB.out HBr.out
      clear r0 r1 r2 rf0 rf1 rf2 u0 u1 u2 c0 c1 uL rL
      cases ha : allB f 1 with
      | true =>
        have hV : V1 = ofF (wrap64 (IntKind.i8.wrap (wrap64 (numB f 1)))) := by rw [HV.out]; simp [loadG, ha]
        subst hV
        clear ha
        go_wp2_with fail
        refine (ext8_any _ _).mono ?_
        rintro e w2 ⟨rfl, hw2⟩
        replace hw2 := hw2.symm
        subst hw2
        go_wp2_with fail
        refine (rof_any _ _).mono ?_
        rintro e w3 ⟨rfl, hb3⟩
        have HBf : Hid (Below w.heap.size w w3) := bel_trans HBw.out hb3
        have t0 := keep_cell hb3 s0
        have t1 := keep_cell hb3 s1
        have t2 := keep_cell hb3 s2
        have tf0 := keep_frozen hb3 s0 sf0
        have tf1 := keep_frozen hb3 s1 sf1
        have tf2 := keep_frozen hb3 s2 sf2
        clear hb3 s0 s1 s2 sf0 sf1 sf2
        go_wp2
        exact end_V (by simp [results, Try.results14, go_sem, ofF, t0, t1, t2]) rfl (bel_set (bel_set (bel_set HBf.out (by simp) _) (by simp) _) (by simp) _)
      | false =>
        have hV : V1 = noV := by rw [HV.out]; simp [loadG, ha]
        subst hV
        clear ha
        have e0 : partB f false 1 = false := part_false f 1
        rw [e0]
        clear e0
        go_wp2
        exact end_V (by simp [results, Try.results14, go_sem, noV, s0, s1, s2]) rfl (bel_set (bel_set (bel_set HBw.out (by simp) _) (by simp) _) (by simp) _)



set_option maxRecDepth 100000 in
set_option maxHeartbeats 8000000 in
theorem rload_in4 (p l cap g kk bb ln nn : Nat) (uk ub : Int) (f : Nat → Int) (w : World) (V1 pv : V) (HR : Hid (∀ W, Below w.heap.size w W → Calls Try.prog 37 #[.pointer (some ⟨p, 0, none⟩), .int .i64 4, .agg #[.int .i64 uk, .int .i64 (nn : Int), .int .i64 ub]] W (retP (.bool true) W)))
    (e0 : w.cell? ⟨p, 0, none⟩ = some (.slice (some ⟨g, 0, none⟩) l cap)) (e1 : w.cell? ⟨g, kk * 2, none⟩ = some (.slice (some ⟨bb, 0, none⟩) ln ln)) (hk : ub - 1 = kk) (hl : (kk : Int) < l) (hl2 : (l : Int) ≤ 100000) (hln : (ln : Int) ≤ 65536) (hnc : (nn : Int) + 4 ≤ ln) (hb64 : ∀ i, -10000000000000000 ≤ f i ∧ f i ≤ 10000000000000000) (hbc : ∀ i, i < 4 → w.cell? ⟨bb, nn + i, none⟩ = some (.int .i64 (f i))) 
    (HV : Hid (V1 = loadG 4 f pv)) :
    Calls Try.prog 14 #[.pointer (some ⟨p, 0, none⟩), .int .i64 4, .agg #[.int .i64 uk, .int .i64 (nn : Int), .int .i64 ub]] w (retV V1 true w) := by
  have hw1 : IntKind.i64.wrap (ub - 1) = (kk : Int) := by rw [i64w, hk]; unfold wrap64; omega
  have hw2 : IntKind.i64.wrap ((nn : Int) + 4) = (nn : Int) + 4 := by rw [i64w]; unfold wrap64; omega
  have kk0 : (0 : Int) ≤ kk := by omega
  have kkn : ((kk : Int)).toNat = kk := by omega
  have nn0 : (0 : Int) ≤ nn := by omega
  have nnh : (nn : Int) ≤ (nn : Int) + 4 := by omega
  have nnt : ((nn : Int) + 4).toNat = nn + 4 := by omega
  have nne : ¬ ln = nn := by omega
  have HBC : Hid (∀ i, i < 4 → w.cell? ⟨bb, nn + i, none⟩ = some (.int .i64 (f i))) := hbc
  clear hbc
  go_enter Try.func14, Try.ntmps14
  go_wp2_with fail
  refine (HR.out _ (by repeat (first | with_reducible exact Below.refl _ _ | with_reducible refine bel_alloc ?_ _ | with_reducible refine bel_set ?_ (by first | exact Nat.le_refl _ | (simp; done) | (simp; omega)) _ | with_reducible refine Below.drew ?_ | refine bel_trans ?_ (by assumption)))).mono ?_
  rintro e w1 ⟨rfl, hb1⟩
  have u0 : w1.cell? ⟨w.heap.size, 0, none⟩ = some (.int .i64 uk) := keep_cell hb1 (by go_simp)
  have u1 : w1.cell? ⟨w.heap.size, 1, none⟩ = some (.int .i64 (nn : Int)) := keep_cell hb1 (by go_simp)
  have u2 : w1.cell? ⟨w.heap.size, 2, none⟩ = some (.int .i64 ub) := keep_cell hb1 (by go_simp)
  have r0 : w1.cell? ⟨(w.heap.size + 1), 0, none⟩ = some (.int .i64 0) := keep_cell hb1 (by go_simp)
  have r1 : w1.cell? ⟨(w.heap.size + 1), 1, none⟩ = some (.int .i64 0) := keep_cell hb1 (by go_simp)
  have r2 : w1.cell? ⟨(w.heap.size + 1), 2, none⟩ = some (.int .i64 0) := keep_cell hb1 (by go_simp)
  have rf0 : w1.frozen? ⟨(w.heap.size + 1), 0, none⟩ = false := keep_frozen hb1 (v := .int .i64 0) (by go_simp) (by go_simp)
  have rf1 : w1.frozen? ⟨(w.heap.size + 1), 1, none⟩ = false := keep_frozen hb1 (v := .int .i64 0) (by go_simp) (by go_simp)
  have rf2 : w1.frozen? ⟨(w.heap.size + 1), 2, none⟩ = false := keep_frozen hb1 (v := .int .i64 0) (by go_simp) (by go_simp)
  have uL : w.heap.size < w1.heap.size := block_lt_of_cell u0
  have rL : (w.heap.size + 1) < w1.heap.size := block_lt_of_cell r0
  have HB : Hid (Below w.heap.size w w1) := (by repeat (first | with_reducible exact Below.refl _ _ | with_reducible refine bel_alloc ?_ _ | with_reducible refine bel_set ?_ (by first | exact Nat.le_refl _ | (simp; done) | (simp; omega)) _ | with_reducible refine Below.drew ?_ | refine bel_trans ?_ (by assumption)))
  clear hb1
  have c0 := keep_cell HB.out e0
  have c1 := keep_cell HB.out e1
  go_wp2_with fail
  clear HR hk
  refine wp_region_held_drew (S := (fun w' => w'.cell? ⟨w.heap.size, 1, none⟩ = some (.int .i64 (nn : Int)) ∧ w'.cell? ⟨w.heap.size, 2, none⟩ = some (.int .i64 ub) ∧ w'.cell? ⟨p, 0, none⟩ = some (.slice (some ⟨g, 0, none⟩) l cap) ∧ w'.cell? ⟨g, kk * 2, none⟩ = some (.slice (some ⟨bb, 0, none⟩) ln ln))) (by kernel_rfl) (⟨u1, u2, c0, c1⟩) (fun hHeld => ?_)
  refine wpAnyH_take (i := 0) (oi := ?oii0) (v := ?vvi0) ?hii0 (by kernel_rfl) (by kernel_rfl) (by kernel_rfl) ?hqi0 ?hyi0 hHeld ?_
  case hii0 => simp only [List.getElem?_toArray, List.getElem?_cons_succ, List.getElem?_cons_zero]; rfl
  case hqi0 => exact fun _ _ _ h => h
  case hyi0 => (refine Or.inl ⟨by rfl, ?_⟩; intro w' hSw; (try dsimp only at hSw); go_simp; (try (with_reducible rfl)))
  simp only [Act.put, List.setIfInBounds_toArray, List.set_cons_zero, List.set_cons_succ]
  refine wpAnyH_take (i := 1) (oi := ?oii1) (v := ?vvi1) ?hii1 (by kernel_rfl) (by kernel_rfl) (by kernel_rfl) ?hqi1 ?hyi1 hHeld ?_
  case hii1 => simp only [List.getElem?_toArray, List.getElem?_cons_succ, List.getElem?_cons_zero]; rfl
  case hqi1 => exact fun _ _ _ h => h
  case hyi1 => (refine Or.inl ⟨by rfl, ?_⟩; intro w' hSw; (try dsimp only at hSw); go_simp; (try (with_reducible rfl)))
  simp only [Act.put, List.setIfInBounds_toArray, List.set_cons_zero, List.set_cons_succ]
  refine wpAnyH_take (i := 2) (oi := ?oii2) (v := ?vvi2) ?hii2 (by kernel_rfl) (by kernel_rfl) (by kernel_rfl) ?hqi2 ?hyi2 hHeld ?_
  case hii2 => simp only [List.getElem?_toArray, List.getElem?_cons_succ, List.getElem?_cons_zero]; rfl
  case hqi2 => exact fun _ _ _ h => h
  case hyi2 => (refine Or.inl ⟨by rfl, ?_⟩; intro w' hSw; (try dsimp only at hSw); go_simp; (try (with_reducible rfl)))
  simp only [Act.put, List.setIfInBounds_toArray, List.set_cons_zero, List.set_cons_succ]
  refine wpAnyH_take (i := 3) (oi := ?oii3) (v := ?vvi3) ?hii3 (by kernel_rfl) (by kernel_rfl) (by kernel_rfl) ?hqi3 ?hyi3 hHeld ?_
  case hii3 => simp only [List.getElem?_toArray, List.getElem?_cons_succ, List.getElem?_cons_zero]; rfl
  case hqi3 => exact fun _ _ _ h => h
  case hyi3 => (refine Or.inl ⟨by rfl, ?_⟩; intro w' hSw; (try dsimp only at hSw); go_simp; (try (with_reducible rfl)))
  simp only [Act.put, List.setIfInBounds_toArray, List.set_cons_zero, List.set_cons_succ]
  refine wpAnyH_take (i := 4) (oi := ?oii4) (v := ?vvi4) ?hii4 (by kernel_rfl) (by kernel_rfl) (by kernel_rfl) ?hqi4 ?hyi4 hHeld ?_
  case hii4 => simp only [List.getElem?_toArray, List.getElem?_cons_succ, List.getElem?_cons_zero]; rfl
  case hqi4 => exact fun _ _ _ h => h
  case hyi4 => (refine Or.inl ⟨by rfl, ?_⟩; intro w' hSw; (try dsimp only at hSw); go_simp; (try (with_reducible rfl)))
  simp only [Act.put, List.setIfInBounds_toArray, List.set_cons_zero, List.set_cons_succ]
  refine wpAnyH_take (i := 5) (oi := ?oii5) (v := ?vvi5) ?hii5 (by kernel_rfl) (by kernel_rfl) (by kernel_rfl) ?hqi5 ?hyi5 hHeld ?_
  case hii5 => simp only [List.getElem?_toArray, List.getElem?_cons_succ, List.getElem?_cons_zero]; rfl
  case hqi5 => exact fun _ _ _ h => h
  case hyi5 => (refine Or.inl ⟨by rfl, ?_⟩; intro w' hSw; (try dsimp only at hSw); go_simp; (try (with_reducible rfl)))
  simp only [Act.put, List.setIfInBounds_toArray, List.set_cons_zero, List.set_cons_succ]
  refine wpAnyH_take (i := 6) (oi := ?oii6) (v := ?vvi6) ?hii6 (by kernel_rfl) (by kernel_rfl) (by kernel_rfl) ?hqi6 ?hyi6 hHeld ?_
  case hii6 => simp only [List.getElem?_toArray, List.getElem?_cons_succ, List.getElem?_cons_zero]; rfl
  case hqi6 => exact fun _ _ _ h => h
  case hyi6 => (refine Or.inl ⟨by rfl, ?_⟩; intro w' hSw; (try dsimp only at hSw); go_simp; (try (with_reducible rfl)))
  simp only [Act.put, List.setIfInBounds_toArray, List.set_cons_zero, List.set_cons_succ]
  refine wpAnyH_take (i := 7) (oi := ?oii7) (v := ?vvi7) ?hii7 (by kernel_rfl) (by kernel_rfl) (by kernel_rfl) ?hqi7 ?hyi7 hHeld ?_
  case hii7 => simp only [List.getElem?_toArray, List.getElem?_cons_succ, List.getElem?_cons_zero]; rfl
  case hqi7 => exact fun _ _ _ h => h
  case hyi7 => (refine Or.inl ⟨by rfl, ?_⟩; intro w' hSw; (try dsimp only at hSw); go_simp; (try (with_reducible rfl)))
  simp only [Act.put, List.setIfInBounds_toArray, List.set_cons_zero, List.set_cons_succ]
  refine wpAnyH_take (i := 8) (oi := ?oii8) (v := ?vvi8) ?hii8 (by kernel_rfl) (by kernel_rfl) (by kernel_rfl) ?hqi8 ?hyi8 hHeld ?_
  case hii8 => simp only [List.getElem?_toArray, List.getElem?_cons_succ, List.getElem?_cons_zero]; rfl
  case hqi8 => exact fun _ _ _ h => h
  case hyi8 => (refine Or.inl ⟨by rfl, ?_⟩; intro w' hSw; (try dsimp only at hSw); go_simp; (try (with_reducible rfl)))
  simp only [Act.put, List.setIfInBounds_toArray, List.set_cons_zero, List.set_cons_succ]
  refine wpAnyH_take (i := 9) (oi := ?oii9) (v := ?vvi9) ?hii9 (by kernel_rfl) (by kernel_rfl) (by kernel_rfl) ?hqi9 ?hyi9 hHeld ?_
  case hii9 => simp only [List.getElem?_toArray, List.getElem?_cons_succ, List.getElem?_cons_zero]; rfl
  case hqi9 => exact fun _ _ _ h => h
  case hyi9 => (refine Or.inl ⟨by rfl, ?_⟩; intro w' hSw; (try dsimp only at hSw); go_simp; (try (with_reducible rfl)))
  simp only [Act.put, List.setIfInBounds_toArray, List.set_cons_zero, List.set_cons_succ]
  refine wpAnyH_take (i := 10) (oi := ?oii10) (v := ?vvi10) ?hii10 (by kernel_rfl) (by kernel_rfl) (by kernel_rfl) ?hqi10 ?hyi10 hHeld ?_
  case hii10 => simp only [List.getElem?_toArray, List.getElem?_cons_succ, List.getElem?_cons_zero]; rfl
  case hqi10 => exact fun _ _ _ h => h
  case hyi10 => (refine Or.inl ⟨by rfl, ?_⟩; intro w' hSw; (try dsimp only at hSw); go_simp; (try (with_reducible rfl)))
  simp only [Act.put, List.setIfInBounds_toArray, List.set_cons_zero, List.set_cons_succ]
  refine wpAnyH_take (i := 11) (oi := ?oii11) (v := ?vvi11) ?hii11 (by kernel_rfl) (by kernel_rfl) (by kernel_rfl) ?hqi11 ?hyi11 hHeld ?_
  case hii11 => simp only [List.getElem?_toArray, List.getElem?_cons_succ, List.getElem?_cons_zero]; rfl
  case hqi11 => exact fun _ _ _ h => h
  case hyi11 => (refine Or.inl ⟨by rfl, ?_⟩; intro w' hSw; (try dsimp only at hSw); go_simp; (try (with_reducible rfl)))
  simp only [Act.put, List.setIfInBounds_toArray, List.set_cons_zero, List.set_cons_succ]
  refine wpAnyH_take (i := 12) (oi := ?oii12) (v := ?vvi12) ?hii12 (by kernel_rfl) (by kernel_rfl) (by kernel_rfl) ?hqi12 ?hyi12 hHeld ?_
  case hii12 => simp only [List.getElem?_toArray, List.getElem?_cons_succ, List.getElem?_cons_zero]; rfl
  case hqi12 => exact fun _ _ _ h => h
  case hyi12 => (refine Or.inl ⟨by rfl, ?_⟩; intro w' hSw; (try dsimp only at hSw); go_simp; (try (with_reducible rfl)))
  simp only [Act.put, List.setIfInBounds_toArray, List.set_cons_zero, List.set_cons_succ]
  refine wpAnyH_take (i := 13) (oi := ?oii13) (v := ?vvi13) ?hii13 (by kernel_rfl) (by kernel_rfl) (by kernel_rfl) ?hqi13 ?hyi13 hHeld ?_
  case hii13 => simp only [List.getElem?_toArray, List.getElem?_cons_succ, List.getElem?_cons_zero]; rfl
  case hqi13 => exact fun _ _ _ h => h
  case hyi13 => (refine Or.inl ⟨by rfl, ?_⟩; intro w' hSw; (try dsimp only at hSw); go_simp; (try (with_reducible rfl)))
  simp only [Act.put, List.setIfInBounds_toArray, List.set_cons_zero, List.set_cons_succ]
  refine wpAnyH_take (i := 14) (oi := ?oii14) (v := ?vvi14) ?hii14 (by kernel_rfl) (by kernel_rfl) (by kernel_rfl) ?hqi14 ?hyi14 hHeld ?_
  case hii14 => simp only [List.getElem?_toArray, List.getElem?_cons_succ, List.getElem?_cons_zero]; rfl
  case hqi14 => exact fun _ _ _ h => h
  case hyi14 => (refine Or.inl ⟨by rfl, ?_⟩; intro w' hSw; (try dsimp only at hSw); go_simp; (try (with_reducible rfl)))
  simp only [Act.put, List.setIfInBounds_toArray, List.set_cons_zero, List.set_cons_succ]
  refine wpAnyH_take (i := 15) (oi := ?oii15) (v := ?vvi15) ?hii15 (by kernel_rfl) (by kernel_rfl) (by kernel_rfl) ?hqi15 ?hyi15 hHeld ?_
  case hii15 => simp only [List.getElem?_toArray, List.getElem?_cons_succ, List.getElem?_cons_zero]; rfl
  case hqi15 => exact fun _ _ _ h => h
  case hyi15 => (refine Or.inl ⟨by rfl, ?_⟩; intro w' hSw; (try dsimp only at hSw); go_simp; (try (with_reducible rfl)))
  simp only [Act.put, List.setIfInBounds_toArray, List.set_cons_zero, List.set_cons_succ]
  refine wpAnyH_take (i := 16) (oi := ?oii16) (v := ?vvi16) ?hii16 (by kernel_rfl) (by kernel_rfl) (by kernel_rfl) ?hqi16 ?hyi16 hHeld ?_
  case hii16 => simp only [List.getElem?_toArray, List.getElem?_cons_succ, List.getElem?_cons_zero]; rfl
  case hqi16 => exact fun _ _ _ h => h
  case hyi16 => (refine Or.inl ⟨by rfl, ?_⟩; intro w' hSw; (try dsimp only at hSw); go_simp; (try (with_reducible rfl)))
  simp only [Act.put, List.setIfInBounds_toArray, List.set_cons_zero, List.set_cons_succ]
  refine wpAnyH_take (i := 17) (oi := ?oii17) (v := ?vvi17) ?hii17 (by kernel_rfl) (by kernel_rfl) (by kernel_rfl) ?hqi17 ?hyi17 hHeld ?_
  case hii17 => simp only [List.getElem?_toArray, List.getElem?_cons_succ, List.getElem?_cons_zero]; rfl
  case hqi17 => exact fun _ _ _ h => h
  case hyi17 => (refine Or.inl ⟨by rfl, ?_⟩; intro w' hSw; (try dsimp only at hSw); go_simp; (try (with_reducible rfl)))
  simp only [Act.put, List.setIfInBounds_toArray, List.set_cons_zero, List.set_cons_succ]
  refine wpAnyH_done (by kernel_rfl) ?_ _
  clear hHeld
  go_wp2
  go_loopw [9, 10, 11, 12] (fun nv av pv v wr => ∃ i : Nat, i ≤ 4 ∧ v = .int .i64 i ∧ nv = .int .u64 (numB f i) ∧ av = .bool (allB f i) ∧ pv = .bool (partB f false i) ∧ Hid (Below w1.heap.size w1 wr)) (fun _ _ _ v _ => 4 - (intOf v).toNat)
  case atStart => exact ⟨0, by omega, rfl, rfl, rfl, rfl, Below.drew (Below.refl _ _)⟩
  case round =>
    obtain ⟨i, hi, rfl, rfl, rfl, rfl, HBr⟩ := hrel
    by_cases hin : i < 4
    · have i0 : (0 : Int) ≤ i := by omega
      have i1 : (i : Int) < 4 := by omega
      have ci : wr.cell? ⟨bb, nn + i, none⟩ = some (.int .i64 (f i)) := keep_cell HBr.out (keep_cell HB.out (HBC.out i hin))
      have cz : wr.cell? ⟨bb, nn, none⟩ = some (.int .i64 (f 0)) := keep_cell HBr.out (keep_cell HB.out (HBC.out 0 (by omega)))
      have hwi : IntKind.i64.wrap (f 0 + i) = f 0 + i := by have := hb64 0; rw [i64w]; unfold wrap64; omega
      have hwm : IntKind.i64.wrap ((f 0).tmod 8) = (f 0).tmod 8 := by
        have h1 : (f 0).tmod 8 < 8 := Int.tmod_lt_of_pos _ (by decide)
        have h2 : -8 < (f 0).tmod 8 := by
          have := Int.tmod_lt_of_pos (-(f 0)) (show (0:Int) < 8 by decide)
          rw [Int.neg_tmod] at this; omega
        rw [i64w]; unfold wrap64; omega
      clear hb64
      go_upto_region 10 with fail
      go_cut [10] (fun sv w' => sv = .bool (allB f (i + 1)) ∧ w' = wr)
      case first =>
        cases hab : allB f i with
        | false =>
          have e : allB f (i + 1) = false := by simp [allB, hab]
          have HE : Hid (allB f (i + 1) = false) := e
          clear e hab
          go_wp2
          go_meet
          case rel => exact ⟨by rw [HE.out], rfl⟩
        | true =>
          by_cases q1 : 0 ≤ f i
          · have d1 : decide (0 ≤ f i) = true := decide_eq_true q1
            have e : allB f (i + 1) = decide (f i < 256) := by simp [allB, hab, q1]
            have HE : Hid (allB f (i + 1) = decide (f i < 256)) := e
            clear e hab q1
            go_wp2
            go_meet
            case rel => exact ⟨by rw [HE.out], rfl⟩
          · have d1 : decide (0 ≤ f i) = false := decide_eq_false q1
            have e : allB f (i + 1) = false := by simp [allB, q1]
            have HE : Hid (allB f (i + 1) = false) := e
            clear e hab q1
            go_wp2
            go_meet
            case rel => exact ⟨by rw [HE.out], rfl⟩
      case rest =>
        obtain ⟨rfl, rfl⟩ := hcut
        go_upto_region 11 with fail
        go_cut [11] (fun sv w' => sv = .bool (partB f false (i + 1)) ∧ Below w1.heap.size w1 w')
        case first =>
          have HE : Hid (partB f false (i + 1) = false) := part_false f (i + 1)
          have e0 : partB f false i = false := part_false f i
          rw [e0]
          clear e0
          go_wp2_with fail
          refine wp_region_held_drew (S := (fun w' => w'.cell? ⟨bb, nn + i, none⟩ = some (.int .i64 (f i)) ∧ w'.cell? ⟨bb, nn, none⟩ = some (.int .i64 (f 0)))) (by kernel_rfl) (⟨ci, cz⟩) (fun hHeld => ?_)
          refine wpAnyH_take (i := 0) (oi := ?oij0) (v := ?vvj0) ?hij0 (by kernel_rfl) (by kernel_rfl) (by kernel_rfl) ?hqj0 ?hyj0 hHeld ?_
          case hij0 => simp only [List.getElem?_toArray, List.getElem?_cons_succ, List.getElem?_cons_zero]; rfl
          case hqj0 => exact fun _ _ _ h => h
          case hyj0 => (refine Or.inl ⟨by rfl, ?_⟩; intro w' hSw; (try dsimp only at hSw); go_simp; (try (with_reducible rfl)))
          simp only [Act.put, List.setIfInBounds_toArray, List.set_cons_zero, List.set_cons_succ]
          refine wpAnyH_take (i := 1) (oi := ?oij1) (v := ?vvj1) ?hij1 (by kernel_rfl) (by kernel_rfl) (by kernel_rfl) ?hqj1 ?hyj1 hHeld ?_
          case hij1 => simp only [List.getElem?_toArray, List.getElem?_cons_succ, List.getElem?_cons_zero]; rfl
          case hqj1 => exact fun _ _ _ h => h
          case hyj1 => (refine Or.inl ⟨by rfl, ?_⟩; intro w' hSw; (try dsimp only at hSw); go_simp; (try (with_reducible rfl)))
          simp only [Act.put, List.setIfInBounds_toArray, List.set_cons_zero, List.set_cons_succ]
          refine wpAnyH_take (i := 2) (oi := ?oij2) (v := undef) ?hij2 (by kernel_rfl) (by kernel_rfl) (by kernel_rfl) ?hqj2 ?hyj2 hHeld ?_
          case hij2 => simp only [List.getElem?_toArray, List.getElem?_cons_succ, List.getElem?_cons_zero]; rfl
          case hqj2 => exact fun _ _ _ h => h
          case hyj2 => exact Or.inr ⟨by rfl, rfl⟩
          simp only [Act.put, List.setIfInBounds_toArray, List.set_cons_zero, List.set_cons_succ]
          refine wpAnyH_take (i := 3) (oi := ?oij3) (v := undef) ?hij3 (by kernel_rfl) (by kernel_rfl) (by kernel_rfl) ?hqj3 ?hyj3 hHeld ?_
          case hij3 => simp only [List.getElem?_toArray, List.getElem?_cons_succ, List.getElem?_cons_zero]; rfl
          case hqj3 => exact fun _ _ _ h => h
          case hyj3 => exact Or.inr ⟨by rfl, rfl⟩
          simp only [Act.put, List.setIfInBounds_toArray, List.set_cons_zero, List.set_cons_succ]
          refine wpAnyH_take (i := 4) (oi := ?oij4) (v := undef) ?hij4 (by kernel_rfl) (by kernel_rfl) (by kernel_rfl) ?hqj4 ?hyj4 hHeld ?_
          case hij4 => simp only [List.getElem?_toArray, List.getElem?_cons_succ, List.getElem?_cons_zero]; rfl
          case hqj4 => exact fun _ _ _ h => h
          case hyj4 => exact Or.inr ⟨by rfl, rfl⟩
          simp only [Act.put, List.setIfInBounds_toArray, List.set_cons_zero, List.set_cons_succ]
          refine wpAnyH_take (i := 5) (oi := ?oij5) (v := undef) ?hij5 (by kernel_rfl) (by kernel_rfl) (by kernel_rfl) ?hqj5 ?hyj5 hHeld ?_
          case hij5 => simp only [List.getElem?_toArray, List.getElem?_cons_succ, List.getElem?_cons_zero]; rfl
          case hqj5 => exact fun _ _ _ h => h
          case hyj5 => exact Or.inr ⟨by rfl, rfl⟩
          simp only [Act.put, List.setIfInBounds_toArray, List.set_cons_zero, List.set_cons_succ]
          refine wpAnyH_take (i := 6) (oi := ?oij6) (v := undef) ?hij6 (by kernel_rfl) (by kernel_rfl) (by kernel_rfl) ?hqj6 ?hyj6 hHeld ?_
          case hij6 => simp only [List.getElem?_toArray, List.getElem?_cons_succ, List.getElem?_cons_zero]; rfl
          case hqj6 => exact fun _ _ _ h => h
          case hyj6 => exact Or.inr ⟨by rfl, rfl⟩
          simp only [Act.put, List.setIfInBounds_toArray, List.set_cons_zero, List.set_cons_succ]
          refine wpAnyH_take (i := 7) (oi := ?oij7) (v := ?vvj7) ?hij7 (by kernel_rfl) (by kernel_rfl) (by kernel_rfl) ?hqj7 ?hyj7 hHeld ?_
          case hij7 => simp only [List.getElem?_toArray, List.getElem?_cons_succ, List.getElem?_cons_zero]; rfl
          case hqj7 => exact fun _ _ _ h => h
          case hyj7 => (refine Or.inl ⟨by rfl, ?_⟩; intro w' hSw; (try dsimp only at hSw); go_simp; (try (with_reducible rfl)))
          simp only [Act.put, List.setIfInBounds_toArray, List.set_cons_zero, List.set_cons_succ]
          refine wpAnyH_take (i := 8) (oi := ?oij8) (v := ?vvj8) ?hij8 (by kernel_rfl) (by kernel_rfl) (by kernel_rfl) ?hqj8 ?hyj8 hHeld ?_
          case hij8 => simp only [List.getElem?_toArray, List.getElem?_cons_succ, List.getElem?_cons_zero]; rfl
          case hqj8 => exact fun _ _ _ h => h
          case hyj8 => (refine Or.inl ⟨by rfl, ?_⟩; intro w' hSw; (try dsimp only at hSw); go_simp; (try (with_reducible rfl)))
          simp only [Act.put, List.setIfInBounds_toArray, List.set_cons_zero, List.set_cons_succ]
          refine wpAnyH_take (i := 9) (oi := ?oij9) (v := undef) ?hij9 (by kernel_rfl) (by kernel_rfl) (by kernel_rfl) ?hqj9 ?hyj9 hHeld ?_
          case hij9 => simp only [List.getElem?_toArray, List.getElem?_cons_succ, List.getElem?_cons_zero]; rfl
          case hqj9 => exact fun _ _ _ h => h
          case hyj9 => exact Or.inr ⟨by rfl, rfl⟩
          simp only [Act.put, List.setIfInBounds_toArray, List.set_cons_zero, List.set_cons_succ]
          refine wpAnyH_take (i := 10) (oi := ?oij10) (v := undef) ?hij10 (by kernel_rfl) (by kernel_rfl) (by kernel_rfl) ?hqj10 ?hyj10 hHeld ?_
          case hij10 => simp only [List.getElem?_toArray, List.getElem?_cons_succ, List.getElem?_cons_zero]; rfl
          case hqj10 => exact fun _ _ _ h => h
          case hyj10 => exact Or.inr ⟨by rfl, rfl⟩
          simp only [Act.put, List.setIfInBounds_toArray, List.set_cons_zero, List.set_cons_succ]
          refine wpAnyH_take (i := 11) (oi := ?oij11) (v := undef) ?hij11 (by kernel_rfl) (by kernel_rfl) (by kernel_rfl) ?hqj11 ?hyj11 hHeld ?_
          case hij11 => simp only [List.getElem?_toArray, List.getElem?_cons_succ, List.getElem?_cons_zero]; rfl
          case hqj11 => exact fun _ _ _ h => h
          case hyj11 => exact Or.inr ⟨by rfl, rfl⟩
          simp only [Act.put, List.setIfInBounds_toArray, List.set_cons_zero, List.set_cons_succ]
          refine wpAnyH_take (i := 12) (oi := ?oij12) (v := undef) ?hij12 (by kernel_rfl) (by kernel_rfl) (by kernel_rfl) ?hqj12 ?hyj12 hHeld ?_
          case hij12 => simp only [List.getElem?_toArray, List.getElem?_cons_succ, List.getElem?_cons_zero]; rfl
          case hqj12 => exact fun _ _ _ h => h
          case hyj12 => exact Or.inr ⟨by rfl, rfl⟩
          simp only [Act.put, List.setIfInBounds_toArray, List.set_cons_zero, List.set_cons_succ]
          refine wpAnyH_take (i := 13) (oi := ?oij13) (v := undef) ?hij13 (by kernel_rfl) (by kernel_rfl) (by kernel_rfl) ?hqj13 ?hyj13 hHeld ?_
          case hij13 => simp only [List.getElem?_toArray, List.getElem?_cons_succ, List.getElem?_cons_zero]; rfl
          case hqj13 => exact fun _ _ _ h => h
          case hyj13 => exact Or.inr ⟨by rfl, rfl⟩
          simp only [Act.put, List.setIfInBounds_toArray, List.set_cons_zero, List.set_cons_succ]
          refine wpAnyH_take (i := 14) (oi := ?oij14) (v := undef) ?hij14 (by kernel_rfl) (by kernel_rfl) (by kernel_rfl) ?hqj14 ?hyj14 hHeld ?_
          case hij14 => simp only [List.getElem?_toArray, List.getElem?_cons_succ, List.getElem?_cons_zero]; rfl
          case hqj14 => exact fun _ _ _ h => h
          case hyj14 => exact Or.inr ⟨by rfl, rfl⟩
          simp only [Act.put, List.setIfInBounds_toArray, List.set_cons_zero, List.set_cons_succ]
          refine wpAnyH_take (i := 15) (oi := ?oij15) (v := undef) ?hij15 (by kernel_rfl) (by kernel_rfl) (by kernel_rfl) ?hqj15 ?hyj15 hHeld ?_
          case hij15 => simp only [List.getElem?_toArray, List.getElem?_cons_succ, List.getElem?_cons_zero]; rfl
          case hqj15 => exact fun _ _ _ h => h
          case hyj15 => exact Or.inr ⟨by rfl, rfl⟩
          simp only [Act.put, List.setIfInBounds_toArray, List.set_cons_zero, List.set_cons_succ]
          refine wpAnyH_take (i := 16) (oi := ?oij16) (v := undef) ?hij16 (by kernel_rfl) (by kernel_rfl) (by kernel_rfl) ?hqj16 ?hyj16 hHeld ?_
          case hij16 => simp only [List.getElem?_toArray, List.getElem?_cons_succ, List.getElem?_cons_zero]; rfl
          case hqj16 => exact fun _ _ _ h => h
          case hyj16 => exact Or.inr ⟨by rfl, rfl⟩
          simp only [Act.put, List.setIfInBounds_toArray, List.set_cons_zero, List.set_cons_succ]
          refine wpAnyH_take (i := 17) (oi := ?oij17) (v := undef) ?hij17 (by kernel_rfl) (by kernel_rfl) (by kernel_rfl) ?hqj17 ?hyj17 hHeld ?_
          case hij17 => simp only [List.getElem?_toArray, List.getElem?_cons_succ, List.getElem?_cons_zero]; rfl
          case hqj17 => exact fun _ _ _ h => h
          case hyj17 => exact Or.inr ⟨by rfl, rfl⟩
          simp only [Act.put, List.setIfInBounds_toArray, List.set_cons_zero, List.set_cons_succ]
          refine wpAnyH_take (i := 18) (oi := ?oij18) (v := undef) ?hij18 (by kernel_rfl) (by kernel_rfl) (by kernel_rfl) ?hqj18 ?hyj18 hHeld ?_
          case hij18 => simp only [List.getElem?_toArray, List.getElem?_cons_succ, List.getElem?_cons_zero]; rfl
          case hqj18 => exact fun _ _ _ h => h
          case hyj18 => exact Or.inr ⟨by rfl, rfl⟩
          simp only [Act.put, List.setIfInBounds_toArray, List.set_cons_zero, List.set_cons_succ]
          refine wpAnyH_take (i := 19) (oi := ?oij19) (v := ?vvj19) ?hij19 (by kernel_rfl) (by kernel_rfl) (by kernel_rfl) ?hqj19 ?hyj19 hHeld ?_
          case hij19 => simp only [List.getElem?_toArray, List.getElem?_cons_succ, List.getElem?_cons_zero]; rfl
          case hqj19 => exact fun _ _ _ h => h
          case hyj19 => (refine Or.inl ⟨by rfl, ?_⟩; intro w' hSw; (try dsimp only at hSw); go_simp; (try (with_reducible rfl)))
          simp only [Act.put, List.setIfInBounds_toArray, List.set_cons_zero, List.set_cons_succ]
          refine wpAnyH_take (i := 20) (oi := ?oij20) (v := ?vvj20) ?hij20 (by kernel_rfl) (by kernel_rfl) (by kernel_rfl) ?hqj20 ?hyj20 hHeld ?_
          case hij20 => simp only [List.getElem?_toArray, List.getElem?_cons_succ, List.getElem?_cons_zero]; rfl
          case hqj20 => exact fun _ _ _ h => h
          case hyj20 => (refine Or.inl ⟨by rfl, ?_⟩; intro w' hSw; (try dsimp only at hSw); go_simp; (try (with_reducible rfl)))
          simp only [Act.put, List.setIfInBounds_toArray, List.set_cons_zero, List.set_cons_succ]
          refine wpAnyH_take (i := 21) (oi := ?oij21) (v := undef) ?hij21 (by kernel_rfl) (by kernel_rfl) (by kernel_rfl) ?hqj21 ?hyj21 hHeld ?_
          case hij21 => simp only [List.getElem?_toArray, List.getElem?_cons_succ, List.getElem?_cons_zero]; rfl
          case hqj21 => exact fun _ _ _ h => h
          case hyj21 => exact Or.inr ⟨by rfl, rfl⟩
          simp only [Act.put, List.setIfInBounds_toArray, List.set_cons_zero, List.set_cons_succ]
          refine wpAnyH_take (i := 22) (oi := ?oij22) (v := undef) ?hij22 (by kernel_rfl) (by kernel_rfl) (by kernel_rfl) ?hqj22 ?hyj22 hHeld ?_
          case hij22 => simp only [List.getElem?_toArray, List.getElem?_cons_succ, List.getElem?_cons_zero]; rfl
          case hqj22 => exact fun _ _ _ h => h
          case hyj22 => exact Or.inr ⟨by rfl, rfl⟩
          simp only [Act.put, List.setIfInBounds_toArray, List.set_cons_zero, List.set_cons_succ]
          refine wpAnyH_take (i := 23) (oi := ?oij23) (v := undef) ?hij23 (by kernel_rfl) (by kernel_rfl) (by kernel_rfl) ?hqj23 ?hyj23 hHeld ?_
          case hij23 => simp only [List.getElem?_toArray, List.getElem?_cons_succ, List.getElem?_cons_zero]; rfl
          case hqj23 => exact fun _ _ _ h => h
          case hyj23 => exact Or.inr ⟨by rfl, rfl⟩
          simp only [Act.put, List.setIfInBounds_toArray, List.set_cons_zero, List.set_cons_succ]
          refine wpAnyH_take (i := 24) (oi := ?oij24) (v := undef) ?hij24 (by kernel_rfl) (by kernel_rfl) (by kernel_rfl) ?hqj24 ?hyj24 hHeld ?_
          case hij24 => simp only [List.getElem?_toArray, List.getElem?_cons_succ, List.getElem?_cons_zero]; rfl
          case hqj24 => exact fun _ _ _ h => h
          case hyj24 => exact Or.inr ⟨by rfl, rfl⟩
          simp only [Act.put, List.setIfInBounds_toArray, List.set_cons_zero, List.set_cons_succ]
          refine wpAnyH_take (i := 25) (oi := ?oij25) (v := undef) ?hij25 (by kernel_rfl) (by kernel_rfl) (by kernel_rfl) ?hqj25 ?hyj25 hHeld ?_
          case hij25 => simp only [List.getElem?_toArray, List.getElem?_cons_succ, List.getElem?_cons_zero]; rfl
          case hqj25 => exact fun _ _ _ h => h
          case hyj25 => exact Or.inr ⟨by rfl, rfl⟩
          simp only [Act.put, List.setIfInBounds_toArray, List.set_cons_zero, List.set_cons_succ]
          refine wpAnyH_take (i := 26) (oi := ?oij26) (v := ?vvj26) ?hij26 (by kernel_rfl) (by kernel_rfl) (by kernel_rfl) ?hqj26 ?hyj26 hHeld ?_
          case hij26 => simp only [List.getElem?_toArray, List.getElem?_cons_succ, List.getElem?_cons_zero]; rfl
          case hqj26 => exact fun _ _ _ h => h
          case hyj26 => (refine Or.inl ⟨by rfl, ?_⟩; intro w' hSw; (try dsimp only at hSw); go_simp; (try (with_reducible rfl)))
          simp only [Act.put, List.setIfInBounds_toArray, List.set_cons_zero, List.set_cons_succ]
          refine wpAnyH_take (i := 27) (oi := ?oij27) (v := ?vvj27) ?hij27 (by kernel_rfl) (by kernel_rfl) (by kernel_rfl) ?hqj27 ?hyj27 hHeld ?_
          case hij27 => simp only [List.getElem?_toArray, List.getElem?_cons_succ, List.getElem?_cons_zero]; rfl
          case hqj27 => exact fun _ _ _ h => h
          case hyj27 => (refine Or.inl ⟨by rfl, ?_⟩; intro w' hSw; (try dsimp only at hSw); go_simp; (try (with_reducible rfl)))
          simp only [Act.put, List.setIfInBounds_toArray, List.set_cons_zero, List.set_cons_succ]
          refine wpAnyH_done (by kernel_rfl) ?_ _
          go_wp2
          go_meet
          case rel => exact ⟨by rw [HE.out], Below.drew HBr.out⟩
        case rest =>
          obtain ⟨rfl, hbn⟩ := hcut
          have cn : wc.cell? ⟨bb, nn + i, none⟩ = some (.int .i64 (f i)) := keep_cell hbn (keep_cell HB.out (HBC.out i hin))
          have HBn : Hid (Below w1.heap.size w1 wc) := hbn
          clear hbn ci cz hwi hwm HBr
          go_wp2
          go_roundw
          case rel => exact ⟨i + 1, by omega, by simp, rfl, rfl, rfl, HBn⟩
          case measure => simp [intOf]; omega
    · have hie : i = 4 := by omega
      subst hie
      clear hin hi
      have s0 := keep_cell HBr.out r0
      have s1 := keep_cell HBr.out r1
      have s2 := keep_cell HBr.out r2
      have sf0 := keep_frozen HBr.out r0 rf0
      have sf1 := keep_frozen HBr.out r1 rf1
      have sf2 := keep_frozen HBr.out r2 rf2
      have sL : w.heap.size + 1 < wr.heap.size := block_lt_of_cell s0
      have HBw : Hid (Below w.heap.size w wr) := bel_trans HB.out HBr.out
      clear r0 r1 r2 rf0 rf1 rf2 u0 u1 u2 c0 c1 uL rL
      cases ha : allB f 4 with
      | true =>
        have hV : V1 = ofF (wrap64 (wrap32 (wrap64 (numB f 4)))) := by rw [HV.out]; simp [loadG, ha]
        subst hV
        clear ha
        go_wp2_with fail
        refine (ext32_any _ _).mono ?_
        rintro e w2 ⟨rfl, hw2⟩
        replace hw2 := hw2.symm
        subst hw2
        go_wp2_with fail
        refine (rof_any _ _).mono ?_
        rintro e w3 ⟨rfl, hb3⟩
        have HBf : Hid (Below w.heap.size w w3) := bel_trans HBw.out hb3
        have t0 := keep_cell hb3 s0
        have t1 := keep_cell hb3 s1
        have t2 := keep_cell hb3 s2
        have tf0 := keep_frozen hb3 s0 sf0
        have tf1 := keep_frozen hb3 s1 sf1
        have tf2 := keep_frozen hb3 s2 sf2
        clear hb3 s0 s1 s2 sf0 sf1 sf2
        go_wp2
        exact end_V (by simp [results, Try.results14, go_sem, ofF, t0, t1, t2]) rfl (bel_set (bel_set (bel_set HBf.out (by simp) _) (by simp) _) (by simp) _)
      | false =>
        have hV : V1 = noV := by rw [HV.out]; simp [loadG, ha]
        subst hV
        clear ha
        have e0 : partB f false 4 = false := part_false f 4
        rw [e0]
        clear e0
        go_wp2
        exact end_V (by simp [results, Try.results14, go_sem, noV, s0, s1, s2]) rfl (bel_set (bel_set (bel_set HBw.out (by simp) _) (by simp) _) (by simp) _)


end Go.Proofs.Ytnklpccggbkknaa
