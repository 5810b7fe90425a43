import Derived.Test.YtlonbaefdffbeaaGreatDoorLLeaf
namespace Go.Proofs.YtlonbaefdffbeaaGreatDoor
open Go.ChangeShapes Go.WideShapes Go.ChangeAt Go.RowKit Go.Proofs.Tryz
set_option linter.unusedSimpArgs false
set_option linter.unusedVariables false
set_option maxHeartbeats 4000000

def posOf (t : ByteArray) : Nat → Nat × Nat
 | 0 => (1, 1)
 | i + 1 => if byteAt t i = 10 then ((posOf t i).1 + 1, 1) else ((posOf t i).1, (posOf t i).2 + 1)
theorem posOf_le (t : ByteArray) : ∀ i, (posOf t i).1 ≤ i + 1 ∧ (posOf t i).2 ≤ i + 1
 | 0 => by simp [posOf]
 | i + 1 => by
  have := posOf_le t i;unfold posOf
  split <;> simp only <;> omega
def cutCells (t : ByteArray) (i : Nat) : Array Value := #[.string t, .int .i64 i, .int .i64 (posOf t i).1, .int .i64 (posOf t i).2]
def CutIs (w : World) (cb : Nat) (t : ByteArray) (i : Nat) : Prop := w.heap[cb]? = some (.cells (cutCells t i) 95 (0, 0))
theorem heap_set_same {w : World} {b o : Nat} {c : Array Value} {t : TypeId} {fr : Nat × Nat} (h : w.heap[b]? = some (.cells c t fr)) (v : Value) : (w.setCell ⟨b, o, none⟩ v).heap[b]? = some (.cells (c.setIfInBounds o v) t fr) := by
 simp only [World.setCell, Array.getElem?_modify, if_true, h, Option.map_some]
 rfl
theorem heap_set_other {w : World} {b b' o : Nat} {v : Value} (h : b ≠ b') : (w.setCell ⟨b', o, none⟩ v).heap[b]? = w.heap[b]? := Below.heap_setCell w ⟨b', o, none⟩ v b h
theorem heap_cell {w : World} {b o : Nat} {c : Array Value} {t : TypeId} {fr : Nat × Nat} {v : Value} (h : w.heap[b]? = some (.cells c t fr)) (hv : c[o]? = some v) : w.cell? ⟨b, o, none⟩ = some v := by
 rw [cell_of_row w b o c t fr h]; exact hv
theorem heap_frozen {w : World} {b o : Nat} {c : Array Value} {t : TypeId} (h : w.heap[b]? = some (.cells c t (0, 0))) : w.frozen? ⟨b, o, none⟩ = false := by
 simp [World.frozen?, h]
theorem size_set (w : World) (p : Addr) (u : Value) : (w.setCell p u).heap.size = w.heap.size := by simp [World.setCell]
structure Moved (cb : Nat) (w w' : World) : Prop where
 os : w'.os = w.os
 tape : w'.tape = w.tape
 output : w'.output = w.output
 size : w.heap.size ≤ w'.heap.size
 block : ∀ k, k < w.heap.size → k ≠ cb → w'.heap[k]? = w.heap[k]?
theorem Moved.refl (cb : Nat) (w : World) : Moved cb w w := ⟨rfl, rfl, rfl, Nat.le_refl _, fun _ _ _ => rfl⟩
theorem Moved.trans {cb : Nat} {a b c : World} (h : Moved cb a b) (k : Moved cb b c) : Moved cb a c :=
 ⟨k.os.trans h.os, k.tape.trans h.tape, k.output.trans h.output, Nat.le_trans h.size k.size, fun q h1 h2 => (k.block q (Nat.lt_of_lt_of_le h1 h.size) h2).trans (h.block q h1 h2)⟩
theorem Moved.of_below {cb : Nat} {w w' : World} (h : Below w.heap.size w w') : Moved cb w w' := ⟨h.os, h.tape, h.output, h.size, fun k hk _ => h.block k hk⟩
theorem Moved.set {cb : Nat} {a w : World} (h : Moved cb a w) (o : Nat) (u : Value) : Moved cb a (w.setCell ⟨cb, o, none⟩ u) := ⟨h.os, h.tape, h.output, by rw [size_set]; exact h.size, fun k hk hn => (heap_set_other hn).trans (h.block k hk hn)⟩
theorem Moved.drew {cb : Nat} {a w : World} (h : Moved cb a w) : Moved cb a w.drew := ⟨h.os, h.tape, h.output, h.size, h.block⟩
theorem Moved.cell {cb : Nat} {w w' : World} (h : Moved cb w w') {q o : Nat} {v : Value} (hc : w.cell? ⟨q, o, none⟩ = some v) (hn : q ≠ cb) : w'.cell? ⟨q, o, none⟩ = some v :=
 (World.cell?_of_block (h.block q (block_lt_of_cell hc) hn)).trans hc
theorem CutIs.c0 {w : World} {cb : Nat} {t : ByteArray} {i : Nat} (h : CutIs w cb t i) : w.cell? ⟨cb, 0, none⟩ = some (.string t) := heap_cell h (by simp [cutCells])
theorem CutIs.c1 {w : World} {cb : Nat} {t : ByteArray} {i : Nat} (h : CutIs w cb t i) : w.cell? ⟨cb, 1, none⟩ = some (.int .i64 i) := heap_cell h (by simp [cutCells])
theorem CutIs.c2 {w : World} {cb : Nat} {t : ByteArray} {i : Nat} (h : CutIs w cb t i) : w.cell? ⟨cb, 2, none⟩ = some (.int .i64 (posOf t i).1) := heap_cell h (by simp [cutCells])
theorem CutIs.c3 {w : World} {cb : Nat} {t : ByteArray} {i : Nat} (h : CutIs w cb t i) : w.cell? ⟨cb, 3, none⟩ = some (.int .i64 (posOf t i).2) := heap_cell h (by simp [cutCells])
theorem CutIs.fz {w : World} {cb : Nat} {t : ByteArray} {i : Nat} (h : CutIs w cb t i) (o : Nat) : w.frozen? ⟨cb, o, none⟩ = false := heap_frozen h
theorem CutIs.below {w w' : World} {cb : Nat} {t : ByteArray} {i : Nat} (h : CutIs w cb t i) (hb : Below w.heap.size w w') : CutIs w' cb t i := (hb.block cb (zge h).1).trans h
theorem begin_any (t : ByteArray) (w : World) : Calls prog 34 #[.string t] w fun e w' => e = .returned (.pointer (some ⟨w.heap.size, 0, none⟩)) ∧ w' = w.alloc (.cells (cutCells t 0) 95) := by
 go_enter func34, ntmps34
 go_wp2;go_ret;exact ⟨rfl, rfl⟩


theorem more_any (cb i : Nat) (t : ByteArray) (w : World) (c0 : w.cell? ⟨cb, 0, none⟩ = some (.string t)) (c1 : w.cell? ⟨cb, 1, none⟩ = some (.int .i64 (i : Int))) :
  Calls prog 36 #[.pointer (some ⟨cb, 0, none⟩)] w fun e w' => e = .returned (.bool (decide (i < t.size))) ∧ w' = w.drew := by
 have e : decide (i < t.size) = decide ((i : Int) < (t.size : Int)) := by rw [decide_eq_decide]; omega
 rw [e]
 go_enter func36, ntmps36
 go_wp2_with fail
 refine wp_region_held_drew (S := (fun w' => w'.cell? ⟨cb, 0, none⟩ = some (.string t) ∧ w'.cell? ⟨cb, 1, none⟩ = some (.int .i64 (i : Int)))) (by kernel_rfl) (⟨c0, c1⟩) (fun hHeld => ?_);refine wpAnyH_take (i := 0) (oi := ?oia0) (v := ?vva0) ?hia0 (by kernel_rfl) (by kernel_rfl) (by kernel_rfl) ?hqa0 ?hya0 hHeld ?_
 case hia0 => simp only [zga, zgs, zgz]; rfl
 case hqa0 => exact fun _ _ _ h => h
 case hya0 => refine .inl ⟨by rfl, ?_⟩; intro w' hSw; (try dsimp only at hSw); go_simp; try with_reducible rfl
 simp only [Act.put, zsa, zsz, zss];refine wpAnyH_take (i := 1) (oi := ?oia1) (v := ?vva1) ?hia1 (by kernel_rfl) (by kernel_rfl) (by kernel_rfl) ?hqa1 ?hya1 hHeld ?_
 case hia1 => simp only [zga, zgs, zgz]; rfl
 case hqa1 => exact fun _ _ _ h => h
 case hya1 => refine .inl ⟨by rfl, ?_⟩; intro w' hSw; (try dsimp only at hSw); go_simp; try with_reducible rfl
 simp only [Act.put, zsa, zsz, zss];refine wpAnyH_take (i := 2) (oi := ?oia2) (v := ?vva2) ?hia2 (by kernel_rfl) (by kernel_rfl) (by kernel_rfl) ?hqa2 ?hya2 hHeld ?_
 case hia2 => simp only [zga, zgs, zgz]; rfl
 case hqa2 => exact fun _ _ _ h => h
 case hya2 => refine .inl ⟨by rfl, ?_⟩; intro w' hSw; (try dsimp only at hSw); go_simp; try with_reducible rfl
 simp only [Act.put, zsa, zsz, zss];refine wpAnyH_take (i := 3) (oi := ?oia3) (v := ?vva3) ?hia3 (by kernel_rfl) (by kernel_rfl) (by kernel_rfl) ?hqa3 ?hya3 hHeld ?_
 case hia3 => simp only [zga, zgs, zgz]; rfl
 case hqa3 => exact fun _ _ _ h => h
 case hya3 => refine .inl ⟨by rfl, ?_⟩; intro w' hSw; (try dsimp only at hSw); go_simp; try with_reducible rfl
 simp only [Act.put, zsa, zsz, zss];refine wpAnyH_take (i := 4) (oi := ?oia4) (v := ?vva4) ?hia4 (by kernel_rfl) (by kernel_rfl) (by kernel_rfl) ?hqa4 ?hya4 hHeld ?_
 case hia4 => simp only [zga, zgs, zgz]; rfl
 case hqa4 => exact fun _ _ _ h => h
 case hya4 => refine .inl ⟨by rfl, ?_⟩; intro w' hSw; (try dsimp only at hSw); go_simp; try with_reducible rfl
 simp only [Act.put, zsa, zsz, zss];refine wpAnyH_take (i := 5) (oi := ?oia5) (v := ?vva5) ?hia5 (by kernel_rfl) (by kernel_rfl) (by kernel_rfl) ?hqa5 ?hya5 hHeld ?_
 case hia5 => simp only [zga, zgs, zgz]; rfl
 case hqa5 => exact fun _ _ _ h => h
 case hya5 => refine .inl ⟨by rfl, ?_⟩; intro w' hSw; (try dsimp only at hSw); go_simp; try with_reducible rfl
 simp only [Act.put, zsa, zsz, zss];refine wpAnyH_take (i := 6) (oi := ?oia6) (v := ?vva6) ?hia6 (by kernel_rfl) (by kernel_rfl) (by kernel_rfl) ?hqa6 ?hya6 hHeld ?_
 case hia6 => simp only [zga, zgs, zgz]; rfl
 case hqa6 => exact fun _ _ _ h => h
 case hya6 => refine .inl ⟨by rfl, ?_⟩; intro w' hSw; (try dsimp only at hSw); go_simp; try with_reducible rfl
 simp only [Act.put, zsa, zsz, zss];refine wpAnyH_take (i := 7) (oi := ?oia7) (v := ?vva7) ?hia7 (by kernel_rfl) (by kernel_rfl) (by kernel_rfl) ?hqa7 ?hya7 hHeld ?_
 case hia7 => simp only [zga, zgs, zgz]; rfl
 case hqa7 => exact fun _ _ _ h => h
 case hya7 => refine .inl ⟨by rfl, ?_⟩; intro w' hSw; (try dsimp only at hSw); go_simp; try with_reducible rfl
 simp only [Act.put, zsa, zsz, zss];refine wpAnyH_take (i := 8) (oi := ?oia8) (v := ?vva8) ?hia8 (by kernel_rfl) (by kernel_rfl) (by kernel_rfl) ?hqa8 ?hya8 hHeld ?_
 case hia8 => simp only [zga, zgs, zgz]; rfl
 case hqa8 => exact fun _ _ _ h => h
 case hya8 => refine .inl ⟨by rfl, ?_⟩; intro w' hSw; (try dsimp only at hSw); go_simp; try with_reducible rfl
 simp only [Act.put, zsa, zsz, zss];refine wpAnyH_take (i := 9) (oi := ?oia9) (v := ?vva9) ?hia9 (by kernel_rfl) (by kernel_rfl) (by kernel_rfl) ?hqa9 ?hya9 hHeld ?_
 case hia9 => simp only [zga, zgs, zgz]; rfl
 case hqa9 => exact fun _ _ _ h => h
 case hya9 => refine .inl ⟨by rfl, ?_⟩; intro w' hSw; (try dsimp only at hSw); go_simp; try with_reducible rfl
 simp only [Act.put, zsa, zsz, zss];refine wpAnyH_take (i := 10) (oi := ?oia10) (v := ?vva10) ?hia10 (by kernel_rfl) (by kernel_rfl) (by kernel_rfl) ?hqa10 ?hya10 hHeld ?_
 case hia10 => simp only [zga, zgs, zgz]; rfl
 case hqa10 => exact fun _ _ _ h => h
 case hya10 => refine .inl ⟨by rfl, ?_⟩; intro w' hSw; (try dsimp only at hSw); go_simp; try with_reducible rfl
 simp only [Act.put, zsa, zsz, zss];refine wpAnyH_done (by kernel_rfl) ?_ _;go_wp2;go_ret;exact ⟨rfl, rfl⟩


theorem index_byte (t : ByteArray) (k : Nat) (hk : k < t.size) (w : World) : (Instr.index 9 (.string t) (.int .i64 (k : Int))).run prog w = .ok (.int .u8 (byteAt t k)) w := by
 rw [run_index_string w _ _ _ _ underlying9, dif_pos ⟨by omega, by omega⟩]
 congr 2
 exact byteAt_get t k hk
theorem pass_any (cb i n : Nat) (t : ByteArray) (w : World) (h : CutIs w cb t i) (hn : i + n ≤ t.size) (ht : (t.size : Int) ≤ 4611686018427387904) :
  Calls prog 55 #[.pointer (some ⟨cb, 0, none⟩), .int .i64 n] w fun e w' => e = .returned (.tuple #[]) ∧ CutIs w' cb t (i + n) ∧ Moved cb w w' := by
 have H0 : Hid (CutIs w cb t (i + 0) ∧ Moved cb w w) := ⟨h, Moved.refl _ _⟩;have HN : Hid (i + n ≤ t.size) := hn;have n9 : (n : Int) ≤ 4611686018427387904 := by omega
 have HT : Hid ((t.size : Int) ≤ 4611686018427387904) := ht;clear h hn ht
 go_enter func55, ntmps55
 go_wp2
 go_loopw [5] (fun v wr => ∃ j : Nat, j ≤ n ∧ v = .int .i64 j ∧ Hid (CutIs wr cb t (i + j) ∧ Moved cb w wr)) (fun v _ => n - (intOf v).toNat)
 case atStart => exact ⟨0, by omega, rfl, H0⟩
 case round =>
  obtain ⟨j, hj, rfl, HA⟩ := hrel
  by_cases hjn : j < n
  ·have j0 : (0 : Int) ≤ j := by omega
   have j1 : (j : Int) < n := by omega
   obtain ⟨k, hk⟩ : ∃ k, k = i + j := ⟨_, rfl⟩;have hA := HA.out.1;rw [← hk] at hA;have d0 := hA.c0;have d1 := hA.c1;have d2 := hA.c2;have d3 := hA.c3;have f1 := hA.fz 1;have f2 := hA.fz 2;have f3 := hA.fz 3;have ix := index_byte t k (by have := HN.out; omega);have k0 : (0 : Int) ≤ (k : Int) := by omega
   have k1 : (k : Int) < (t.size : Int) := by have := HN.out; omega
   have k2 : (k : Int) ≤ 4611686018427387904 := by have := HN.out; have := HT.out; omega
   have hle := posOf_le t k;obtain ⟨pl, hpl⟩ : ∃ pl, (posOf t k).1 = pl := ⟨_, rfl⟩;obtain ⟨pc, hpc⟩ : ∃ pc, (posOf t k).2 = pc := ⟨_, rfl⟩;rw [hpl] at d2 hle;rw [hpc] at d3 hle;have pl1 : (pl : Int) ≤ 4611686018427387905 := by omega
   have pc1 : (pc : Int) ≤ 4611686018427387905 := by omega
   have HK : Hid (k = i + j ∧ (posOf t k).1 = pl ∧ (posOf t k).2 = pc ∧ CutIs wr cb t k) := ⟨hk, hpl, hpc, hA⟩;clear hk hA hle hpl hpc
   by_cases hb : byteAt t k = 10
   ·have q : (byteAt t k == 10) = true := by simpa using hb
    have HB : Hid (byteAt t k = 10) := hb;clear hb;go_wp2_with fail
    refine wp_region_held_drew (S := (fun w' => w'.cell? ⟨cb, 0, none⟩ = some (.string t) ∧ w'.cell? ⟨cb, 1, none⟩ = some (.int .i64 (k : Int)))) (by kernel_rfl) (⟨d0, d1⟩) (fun hHeld => ?_);refine wpAnyH_take (i := 0) (oi := ?oib0) (v := ?vvb0) ?hib0 (by kernel_rfl) (by kernel_rfl) (by kernel_rfl) ?hqb0 ?hyb0 hHeld ?_
    case hib0 => simp only [zga, zgs, zgz]; rfl
    case hqb0 => exact fun _ _ _ h => h
    case hyb0 => refine .inl ⟨by rfl, ?_⟩; intro w' hSw; (try dsimp only at hSw); go_simp; try with_reducible rfl
    simp only [Act.put, zsa, zsz, zss];refine wpAnyH_take (i := 1) (oi := ?oib1) (v := ?vvb1) ?hib1 (by kernel_rfl) (by kernel_rfl) (by kernel_rfl) ?hqb1 ?hyb1 hHeld ?_
    case hib1 => simp only [zga, zgs, zgz]; rfl
    case hqb1 => exact fun _ _ _ h => h
    case hyb1 => refine .inl ⟨by rfl, ?_⟩; intro w' hSw; (try dsimp only at hSw); go_simp; try with_reducible rfl
    simp only [Act.put, zsa, zsz, zss];refine wpAnyH_take (i := 2) (oi := ?oib2) (v := ?vvb2) ?hib2 (by kernel_rfl) (by kernel_rfl) (by kernel_rfl) ?hqb2 ?hyb2 hHeld ?_
    case hib2 => simp only [zga, zgs, zgz]; rfl
    case hqb2 => exact fun _ _ _ h => h
    case hyb2 => refine .inl ⟨by rfl, ?_⟩; intro w' hSw; (try dsimp only at hSw); go_simp; try with_reducible rfl
    simp only [Act.put, zsa, zsz, zss];refine wpAnyH_take (i := 3) (oi := ?oib3) (v := ?vvb3) ?hib3 (by kernel_rfl) (by kernel_rfl) (by kernel_rfl) ?hqb3 ?hyb3 hHeld ?_
    case hib3 => simp only [zga, zgs, zgz]; rfl
    case hqb3 => exact fun _ _ _ h => h
    case hyb3 => refine .inl ⟨by rfl, ?_⟩; intro w' hSw; (try dsimp only at hSw); go_simp; try with_reducible rfl
    simp only [Act.put, zsa, zsz, zss];refine wpAnyH_take (i := 4) (oi := ?oib4) (v := ?vvb4) ?hib4 (by kernel_rfl) (by kernel_rfl) (by kernel_rfl) ?hqb4 ?hyb4 hHeld ?_
    case hib4 => simp only [zga, zgs, zgz]; rfl
    case hqb4 => exact fun _ _ _ h => h
    case hyb4 => refine .inl ⟨by rfl, ?_⟩; intro w' hSw; (try dsimp only at hSw); go_simp; try with_reducible rfl
    simp only [Act.put, zsa, zsz, zss];refine wpAnyH_take (i := 5) (oi := ?oib5) (v := ?vvb5) ?hib5 (by kernel_rfl) (by kernel_rfl) (by kernel_rfl) ?hqb5 ?hyb5 hHeld ?_
    case hib5 => simp only [zga, zgs, zgz]; rfl
    case hqb5 => exact fun _ _ _ h => h
    case hyb5 => refine .inl ⟨by rfl, ?_⟩; intro w' hSw; (try dsimp only at hSw); go_simp; try with_reducible rfl
    simp only [Act.put, zsa, zsz, zss];refine wpAnyH_take (i := 6) (oi := ?oib6) (v := ?vvb6) ?hib6 (by kernel_rfl) (by kernel_rfl) (by kernel_rfl) ?hqb6 ?hyb6 hHeld ?_
    case hib6 => simp only [zga, zgs, zgz]; rfl
    case hqb6 => exact fun _ _ _ h => h
    case hyb6 => refine .inl ⟨by rfl, ?_⟩; intro w' hSw; (try dsimp only at hSw); go_simp; try with_reducible rfl
    simp only [Act.put, zsa, zsz, zss];refine wpAnyH_take (i := 7) (oi := ?oib7) (v := ?vvb7) ?hib7 (by kernel_rfl) (by kernel_rfl) (by kernel_rfl) ?hqb7 ?hyb7 hHeld ?_
    case hib7 => simp only [zga, zgs, zgz]; rfl
    case hqb7 => exact fun _ _ _ h => h
    case hyb7 => refine .inl ⟨by rfl, ?_⟩; intro w' hSw; (try dsimp only at hSw); go_simp; try with_reducible rfl
    simp only [Act.put, zsa, zsz, zss];refine wpAnyH_take (i := 8) (oi := ?oib8) (v := ?vvb8) ?hib8 (by kernel_rfl) (by kernel_rfl) (by kernel_rfl) ?hqb8 ?hyb8 hHeld ?_
    case hib8 => simp only [zga, zgs, zgz]; rfl
    case hqb8 => exact fun _ _ _ h => h
    case hyb8 => refine .inl ⟨by rfl, ?_⟩; intro w' hSw; (try dsimp only at hSw); go_simp; try with_reducible rfl
    simp only [Act.put, zsa, zsz, zss];refine wpAnyH_take (i := 9) (oi := ?oib9) (v := ?vvb9) ?hib9 (by kernel_rfl) (by kernel_rfl) (by kernel_rfl) ?hqb9 ?hyb9 hHeld ?_
    case hib9 => simp only [zga, zgs, zgz]; rfl
    case hqb9 => exact fun _ _ _ h => h
    case hyb9 => refine .inl ⟨by rfl, ?_⟩; intro w' hSw; (try dsimp only at hSw); go_simp; try with_reducible rfl
    simp only [Act.put, zsa, zsz, zss];refine wpAnyH_done (by kernel_rfl) ?_ _;clear hHeld;go_wp2
    go_roundw
    case rel =>
     refine ⟨j + 1, by omega, by simp, ?_⟩;obtain ⟨hk, hpl, hpc, hA⟩ := HK.out;have hp := HB.out;refine ⟨?_, ((((HA.out.2.set 2 _).set 3 _).set 3 _).set 1 _).drew⟩;rw [show i + (j + 1) = k + 1 by omega];refine Eq.trans (heap_set_same (o := 1) (heap_set_same (o := 3) (heap_set_same (o := 3) (heap_set_same (o := 2) hA _) _) _) _) ?_;simp [cutCells, posOf, hp, hpl, hpc]
    case measure => simp [intOf]; omega
   ·have q : (byteAt t k == 10) = false := by simpa using hb
    have HB : Hid (¬ byteAt t k = 10) := hb;clear hb;go_wp2_with fail
    refine wp_region_held_drew (S := (fun w' => w'.cell? ⟨cb, 0, none⟩ = some (.string t) ∧ w'.cell? ⟨cb, 1, none⟩ = some (.int .i64 (k : Int)))) (by kernel_rfl) (⟨d0, d1⟩) (fun hHeld => ?_);refine wpAnyH_take (i := 0) (oi := ?oic0) (v := ?vvc0) ?hic0 (by kernel_rfl) (by kernel_rfl) (by kernel_rfl) ?hqc0 ?hyc0 hHeld ?_
    case hic0 => simp only [zga, zgs, zgz]; rfl
    case hqc0 => exact fun _ _ _ h => h
    case hyc0 => refine .inl ⟨by rfl, ?_⟩; intro w' hSw; (try dsimp only at hSw); go_simp; try with_reducible rfl
    simp only [Act.put, zsa, zsz, zss];refine wpAnyH_take (i := 1) (oi := ?oic1) (v := ?vvc1) ?hic1 (by kernel_rfl) (by kernel_rfl) (by kernel_rfl) ?hqc1 ?hyc1 hHeld ?_
    case hic1 => simp only [zga, zgs, zgz]; rfl
    case hqc1 => exact fun _ _ _ h => h
    case hyc1 => refine .inl ⟨by rfl, ?_⟩; intro w' hSw; (try dsimp only at hSw); go_simp; try with_reducible rfl
    simp only [Act.put, zsa, zsz, zss];refine wpAnyH_take (i := 2) (oi := ?oic2) (v := ?vvc2) ?hic2 (by kernel_rfl) (by kernel_rfl) (by kernel_rfl) ?hqc2 ?hyc2 hHeld ?_
    case hic2 => simp only [zga, zgs, zgz]; rfl
    case hqc2 => exact fun _ _ _ h => h
    case hyc2 => refine .inl ⟨by rfl, ?_⟩; intro w' hSw; (try dsimp only at hSw); go_simp; try with_reducible rfl
    simp only [Act.put, zsa, zsz, zss];refine wpAnyH_take (i := 3) (oi := ?oic3) (v := ?vvc3) ?hic3 (by kernel_rfl) (by kernel_rfl) (by kernel_rfl) ?hqc3 ?hyc3 hHeld ?_
    case hic3 => simp only [zga, zgs, zgz]; rfl
    case hqc3 => exact fun _ _ _ h => h
    case hyc3 => refine .inl ⟨by rfl, ?_⟩; intro w' hSw; (try dsimp only at hSw); go_simp; try with_reducible rfl
    simp only [Act.put, zsa, zsz, zss];refine wpAnyH_take (i := 4) (oi := ?oic4) (v := ?vvc4) ?hic4 (by kernel_rfl) (by kernel_rfl) (by kernel_rfl) ?hqc4 ?hyc4 hHeld ?_
    case hic4 => simp only [zga, zgs, zgz]; rfl
    case hqc4 => exact fun _ _ _ h => h
    case hyc4 => refine .inl ⟨by rfl, ?_⟩; intro w' hSw; (try dsimp only at hSw); go_simp; try with_reducible rfl
    simp only [Act.put, zsa, zsz, zss];refine wpAnyH_take (i := 5) (oi := ?oic5) (v := ?vvc5) ?hic5 (by kernel_rfl) (by kernel_rfl) (by kernel_rfl) ?hqc5 ?hyc5 hHeld ?_
    case hic5 => simp only [zga, zgs, zgz]; rfl
    case hqc5 => exact fun _ _ _ h => h
    case hyc5 => refine .inl ⟨by rfl, ?_⟩; intro w' hSw; (try dsimp only at hSw); go_simp; try with_reducible rfl
    simp only [Act.put, zsa, zsz, zss];refine wpAnyH_take (i := 6) (oi := ?oic6) (v := ?vvc6) ?hic6 (by kernel_rfl) (by kernel_rfl) (by kernel_rfl) ?hqc6 ?hyc6 hHeld ?_
    case hic6 => simp only [zga, zgs, zgz]; rfl
    case hqc6 => exact fun _ _ _ h => h
    case hyc6 => refine .inl ⟨by rfl, ?_⟩; intro w' hSw; (try dsimp only at hSw); go_simp; try with_reducible rfl
    simp only [Act.put, zsa, zsz, zss];refine wpAnyH_take (i := 7) (oi := ?oic7) (v := ?vvc7) ?hic7 (by kernel_rfl) (by kernel_rfl) (by kernel_rfl) ?hqc7 ?hyc7 hHeld ?_
    case hic7 => simp only [zga, zgs, zgz]; rfl
    case hqc7 => exact fun _ _ _ h => h
    case hyc7 => refine .inl ⟨by rfl, ?_⟩; intro w' hSw; (try dsimp only at hSw); go_simp; try with_reducible rfl
    simp only [Act.put, zsa, zsz, zss];refine wpAnyH_take (i := 8) (oi := ?oic8) (v := ?vvc8) ?hic8 (by kernel_rfl) (by kernel_rfl) (by kernel_rfl) ?hqc8 ?hyc8 hHeld ?_
    case hic8 => simp only [zga, zgs, zgz]; rfl
    case hqc8 => exact fun _ _ _ h => h
    case hyc8 => refine .inl ⟨by rfl, ?_⟩; intro w' hSw; (try dsimp only at hSw); go_simp; try with_reducible rfl
    simp only [Act.put, zsa, zsz, zss];refine wpAnyH_take (i := 9) (oi := ?oic9) (v := ?vvc9) ?hic9 (by kernel_rfl) (by kernel_rfl) (by kernel_rfl) ?hqc9 ?hyc9 hHeld ?_
    case hic9 => simp only [zga, zgs, zgz]; rfl
    case hqc9 => exact fun _ _ _ h => h
    case hyc9 => refine .inl ⟨by rfl, ?_⟩; intro w' hSw; (try dsimp only at hSw); go_simp; try with_reducible rfl
    simp only [Act.put, zsa, zsz, zss];refine wpAnyH_done (by kernel_rfl) ?_ _;clear hHeld;go_wp2
    go_roundw
    case rel =>
     refine ⟨j + 1, by omega, by simp, ?_⟩;obtain ⟨hk, hpl, hpc, hA⟩ := HK.out;have hp := HB.out;refine ⟨?_, ((HA.out.2.set 3 _).set 1 _).drew⟩;rw [show i + (j + 1) = k + 1 by omega];refine Eq.trans (heap_set_same (o := 1) (heap_set_same (o := 3) hA _) _) ?_;simp [cutCells, posOf, hp, hpl, hpc]
    case measure => simp [intOf]; omega
  ·have hie : j = n := by omega
   subst hie;go_wp2;go_end0;exact ⟨rfl, HA.out.1, HA.out.2⟩

end Go.Proofs.YtlonbaefdffbeaaGreatDoor
