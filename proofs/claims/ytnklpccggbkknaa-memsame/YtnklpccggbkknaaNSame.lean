/- Contract of the document's own Same. -/
import Derived.Test.YtnklpccggbkknaaNRight
import Derived.Test.YtnklpccggbkknaaNAlloc
import Derived.Deep.DeepCutAuto
namespace Go.Proofs.Ytnklpccggbkknaa
open Go.ChangeShapes Go.WideShapes Go.ChangeAt Go.RowKit Pl
set_option linter.unusedSimpArgs false
set_option linter.unusedVariables false

def PartEq (A B : RM) (x y : RB) (t : Nat) : Prop := ∀ u v, x.bytes[t]? = some u → y.bytes[t]? = some v → partN A u = partN B v
def BlkEq (A B : RM) (x y : RB) : Prop := x.freed = y.freed ∧ x.bytes.length = y.bytes.length ∧ (x.freed = false → ∀ t, t < x.bytes.length → PartEq A B x y t)
def SameN (A B : RM) : Prop := A.L.length = B.L.length ∧ ∀ (k : Nat) (x y : RB), A.L[k]? = some x → B.L[k]? = some y → BlkEq A B x y
def OkN (A : RM) : Prop := ∀ (k : Nat) (x : RB), A.L[k]? = some x → x.freed = false → ∀ (t : Nat) (u : Int), x.bytes[t]? = some u → (u < 1000 ∨ ((u - 1000) / 8).toNat < A.ptrs.length) ∧ u < 9000000000000000000
theorem part_to {w : World} {base p : Nat} {R : Nat → Option Role} {N : RM} (h : RMem w base p R N) (x : Int) (hx : x < 1000 ∨ ((x - 1000) / 8).toNat < N.ptrs.length) (hb : x < 9000000000000000000) {y k n b : Int} (he : partN N x = (y, ⟨k, n, b⟩)) :
    Calls Try.prog 45 #[.pointer (some ⟨p, 0, none⟩), .int .i64 x] w (retP (.tuple #[.int .i64 y, .agg #[.int .i64 k, .int .i64 n, .int .i64 b]]) w) := by
  have := part_any h x hx hb
  rw [he] at this
  exact this
theorem RMem.rowAt {w : World} {base p : Nat} {R : Nat → Option Role} {N : RM} (h : RMem w base p R N) {k : Nat} {rb : RB} (hk : N.L[k]? = some rb) : ∃ g cap bb, w.cell? ⟨p, 0, none⟩ = some (.slice (some ⟨g, 0, none⟩) N.L.length cap) ∧ w.cell? ⟨g, k * 2, none⟩ = some (.slice (some ⟨bb, 0, none⟩) rb.bytes.length rb.bytes.length) ∧ w.cell? ⟨g, k * 2 + 1, none⟩ = some (.bool rb.freed) ∧
    (∀ (t : Nat) (u : Int), rb.bytes[t]? = some u → w.cell? ⟨bb, t, none⟩ = some (.int .i64 u)) ∧ rb.bytes.length ≤ 65536 := by
  obtain ⟨a, cap, g, cur, a2, cap2, g2, cur2, hm⟩ := h
  obtain ⟨ha, _, hh, _⟩ := hm.has hk
  obtain ⟨bb, b1, b2, b3, b4⟩ := hm.blk k rb hk
  have c0 := hm.c0
  rw [ha] at c0
  exact ⟨g, cap, bb, c0, heap_cell hh b1, heap_cell hh b2, fun t u hu => heap_cell b4 (by rw [intCells_get, hu]; rfl), hm.sz rb (List.mem_of_getElem? hk)⟩
theorem RMem.rows0 {w : World} {base p : Nat} {R : Nat → Option Role} {N : RM} (h : RMem w base p R N) : (∃ a cap, w.cell? ⟨p, 0, none⟩ = some (.slice a N.L.length cap)) ∧ N.L.length ≤ 100000 := by
  obtain ⟨a, cap, g, cur, a2, cap2, g2, cur2, hm⟩ := h
  exact ⟨⟨a, cap, hm.c0⟩, hm.len⟩


set_option maxRecDepth 100000 in
set_option maxHeartbeats 8000000 in
theorem rsame_len {w : World} {p q : Nat} {A B : RM} (aA aB : Option Addr) (nA nB cA cB : Nat) (eA : w.cell? ⟨p, 0, none⟩ = some (.slice aA nA cA)) (eB : w.cell? ⟨q, 0, none⟩ = some (.slice aB nB cB)) (hne : ((nA : Int) != (nB : Int)) = true) :
    Calls Try.prog 26 #[.pointer (some ⟨p, 0, none⟩), .pointer (some ⟨q, 0, none⟩)] w fun e w' => e = .returned (.bool false) ∧ Below w.heap.size w w' := by
  go_enter Try.func26, Try.ntmps26
  go_wp2_with fail
  refine wp_region_held_drew (S := (fun w' => w'.cell? ⟨p, 0, none⟩ = some (.slice aA nA cA) ∧ w'.cell? ⟨q, 0, none⟩ = some (.slice aB nB cB))) (by kernel_rfl) (⟨eA, eB⟩) (fun hHeld => ?_)
  refine wpAnyH_take (i := 0) (oi := ?oia0) (v := ?vva0) ?hia0 (by kernel_rfl) (by kernel_rfl) (by kernel_rfl) ?hqa0 ?hya0 hHeld ?_
  case hia0 => simp only [List.getElem?_toArray, List.getElem?_cons_succ, List.getElem?_cons_zero]; rfl
  case hqa0 => exact fun _ _ _ h => h
  case hya0 => (refine Or.inl ⟨by rfl, ?_⟩; intro w' hSw; (try dsimp only at hSw); go_simp; (try (with_reducible rfl)))
  simp only [Act.put, List.setIfInBounds_toArray, List.set_cons_zero, List.set_cons_succ]
  refine wpAnyH_take (i := 1) (oi := ?oia1) (v := ?vva1) ?hia1 (by kernel_rfl) (by kernel_rfl) (by kernel_rfl) ?hqa1 ?hya1 hHeld ?_
  case hia1 => simp only [List.getElem?_toArray, List.getElem?_cons_succ, List.getElem?_cons_zero]; rfl
  case hqa1 => exact fun _ _ _ h => h
  case hya1 => (refine Or.inl ⟨by rfl, ?_⟩; intro w' hSw; (try dsimp only at hSw); go_simp; (try (with_reducible rfl)))
  simp only [Act.put, List.setIfInBounds_toArray, List.set_cons_zero, List.set_cons_succ]
  refine wpAnyH_take (i := 2) (oi := ?oia2) (v := ?vva2) ?hia2 (by kernel_rfl) (by kernel_rfl) (by kernel_rfl) ?hqa2 ?hya2 hHeld ?_
  case hia2 => simp only [List.getElem?_toArray, List.getElem?_cons_succ, List.getElem?_cons_zero]; rfl
  case hqa2 => exact fun _ _ _ h => h
  case hya2 => (refine Or.inl ⟨by rfl, ?_⟩; intro w' hSw; (try dsimp only at hSw); go_simp; (try (with_reducible rfl)))
  simp only [Act.put, List.setIfInBounds_toArray, List.set_cons_zero, List.set_cons_succ]
  refine wpAnyH_take (i := 3) (oi := ?oia3) (v := ?vva3) ?hia3 (by kernel_rfl) (by kernel_rfl) (by kernel_rfl) ?hqa3 ?hya3 hHeld ?_
  case hia3 => simp only [List.getElem?_toArray, List.getElem?_cons_succ, List.getElem?_cons_zero]; rfl
  case hqa3 => exact fun _ _ _ h => h
  case hya3 => (refine Or.inl ⟨by rfl, ?_⟩; intro w' hSw; (try dsimp only at hSw); go_simp; (try (with_reducible rfl)))
  simp only [Act.put, List.setIfInBounds_toArray, List.set_cons_zero, List.set_cons_succ]
  refine wpAnyH_take (i := 4) (oi := ?oia4) (v := ?vva4) ?hia4 (by kernel_rfl) (by kernel_rfl) (by kernel_rfl) ?hqa4 ?hya4 hHeld ?_
  case hia4 => simp only [List.getElem?_toArray, List.getElem?_cons_succ, List.getElem?_cons_zero]; rfl
  case hqa4 => exact fun _ _ _ h => h
  case hya4 => (refine Or.inl ⟨by rfl, ?_⟩; intro w' hSw; (try dsimp only at hSw); go_simp; (try (with_reducible rfl)))
  simp only [Act.put, List.setIfInBounds_toArray, List.set_cons_zero, List.set_cons_succ]
  refine wpAnyH_take (i := 5) (oi := ?oia5) (v := ?vva5) ?hia5 (by kernel_rfl) (by kernel_rfl) (by kernel_rfl) ?hqa5 ?hya5 hHeld ?_
  case hia5 => simp only [List.getElem?_toArray, List.getElem?_cons_succ, List.getElem?_cons_zero]; rfl
  case hqa5 => exact fun _ _ _ h => h
  case hya5 => (refine Or.inl ⟨by rfl, ?_⟩; intro w' hSw; (try dsimp only at hSw); go_simp; (try (with_reducible rfl)))
  simp only [Act.put, List.setIfInBounds_toArray, List.set_cons_zero, List.set_cons_succ]
  refine wpAnyH_take (i := 6) (oi := ?oia6) (v := ?vva6) ?hia6 (by kernel_rfl) (by kernel_rfl) (by kernel_rfl) ?hqa6 ?hya6 hHeld ?_
  case hia6 => simp only [List.getElem?_toArray, List.getElem?_cons_succ, List.getElem?_cons_zero]; rfl
  case hqa6 => exact fun _ _ _ h => h
  case hya6 => (refine Or.inl ⟨by rfl, ?_⟩; intro w' hSw; (try dsimp only at hSw); go_simp; (try (with_reducible rfl)))
  simp only [Act.put, List.setIfInBounds_toArray, List.set_cons_zero, List.set_cons_succ]
  refine wpAnyH_take (i := 7) (oi := ?oia7) (v := ?vva7) ?hia7 (by kernel_rfl) (by kernel_rfl) (by kernel_rfl) ?hqa7 ?hya7 hHeld ?_
  case hia7 => simp only [List.getElem?_toArray, List.getElem?_cons_succ, List.getElem?_cons_zero]; rfl
  case hqa7 => exact fun _ _ _ h => h
  case hya7 => (refine Or.inl ⟨by rfl, ?_⟩; intro w' hSw; (try dsimp only at hSw); go_simp; (try (with_reducible rfl)))
  simp only [Act.put, List.setIfInBounds_toArray, List.set_cons_zero, List.set_cons_succ]
  refine wpAnyH_take (i := 8) (oi := ?oia8) (v := ?vva8) ?hia8 (by kernel_rfl) (by kernel_rfl) (by kernel_rfl) ?hqa8 ?hya8 hHeld ?_
  case hia8 => simp only [List.getElem?_toArray, List.getElem?_cons_succ, List.getElem?_cons_zero]; rfl
  case hqa8 => exact fun _ _ _ h => h
  case hya8 => (refine Or.inl ⟨by rfl, ?_⟩; intro w' hSw; (try dsimp only at hSw); go_simp; (try (with_reducible rfl)))
  simp only [Act.put, List.setIfInBounds_toArray, List.set_cons_zero, List.set_cons_succ]
  refine wpAnyH_take (i := 9) (oi := ?oia9) (v := ?vva9) ?hia9 (by kernel_rfl) (by kernel_rfl) (by kernel_rfl) ?hqa9 ?hya9 hHeld ?_
  case hia9 => simp only [List.getElem?_toArray, List.getElem?_cons_succ, List.getElem?_cons_zero]; rfl
  case hqa9 => exact fun _ _ _ h => h
  case hya9 => (refine Or.inl ⟨by rfl, ?_⟩; intro w' hSw; (try dsimp only at hSw); go_simp; (try (with_reducible rfl)))
  simp only [Act.put, List.setIfInBounds_toArray, List.set_cons_zero, List.set_cons_succ]
  refine wpAnyH_take (i := 10) (oi := ?oia10) (v := ?vva10) ?hia10 (by kernel_rfl) (by kernel_rfl) (by kernel_rfl) ?hqa10 ?hya10 hHeld ?_
  case hia10 => simp only [List.getElem?_toArray, List.getElem?_cons_succ, List.getElem?_cons_zero]; rfl
  case hqa10 => exact fun _ _ _ h => h
  case hya10 => (refine Or.inl ⟨by rfl, ?_⟩; intro w' hSw; (try dsimp only at hSw); go_simp; (try (with_reducible rfl)))
  simp only [Act.put, List.setIfInBounds_toArray, List.set_cons_zero, List.set_cons_succ]
  refine wpAnyH_done (by kernel_rfl) ?_ _
  clear hHeld
  go_wp2
  go_ret
  exact ⟨rfl, Below.drew (Below.refl _ _)⟩


set_option maxRecDepth 100000 in
set_option maxHeartbeats 20000000 in
theorem rsame_walk {w : World} {p q bA bB : Nat} {RA RB' : Nat → Option Role} {A B : RM} (n : Nat) (HA : Hid (RMem w bA p RA A)) (HB : Hid (RMem w bB q RB' B)) (OA : Hid (OkN A)) (OB : Hid (OkN B)) (HLA : Hid (A.L.length = n)) (HLB : Hid (B.L.length = n)) (hn : (n : Int) ≤ 100000) :
    Calls Try.prog 26 #[.pointer (some ⟨p, 0, none⟩), .pointer (some ⟨q, 0, none⟩)] w (retB (SameN A B) w) := by
  obtain ⟨aA, cA, eA⟩ := HA.out.rows0.1
  obtain ⟨aB, cB, eB⟩ := HB.out.rows0.1
  rw [HLA.out] at eA
  rw [HLB.out] at eB
  go_enter Try.func26, Try.ntmps26
  go_wp2_with fail
  refine wp_region_held_drew (S := (fun w' => w'.cell? ⟨p, 0, none⟩ = some (.slice aA n cA) ∧ w'.cell? ⟨q, 0, none⟩ = some (.slice aB n cB))) (by kernel_rfl) (⟨eA, eB⟩) (fun hHeld => ?_)
  refine wpAnyH_take (i := 0) (oi := ?oib0) (v := ?vvb0) ?hib0 (by kernel_rfl) (by kernel_rfl) (by kernel_rfl) ?hqb0 ?hyb0 hHeld ?_
  case hib0 => simp only [List.getElem?_toArray, List.getElem?_cons_succ, List.getElem?_cons_zero]; rfl
  case hqb0 => exact fun _ _ _ h => h
  case hyb0 => (refine Or.inl ⟨by rfl, ?_⟩; intro w' hSw; (try dsimp only at hSw); go_simp; (try (with_reducible rfl)))
  simp only [Act.put, List.setIfInBounds_toArray, List.set_cons_zero, List.set_cons_succ]
  refine wpAnyH_take (i := 1) (oi := ?oib1) (v := ?vvb1) ?hib1 (by kernel_rfl) (by kernel_rfl) (by kernel_rfl) ?hqb1 ?hyb1 hHeld ?_
  case hib1 => simp only [List.getElem?_toArray, List.getElem?_cons_succ, List.getElem?_cons_zero]; rfl
  case hqb1 => exact fun _ _ _ h => h
  case hyb1 => (refine Or.inl ⟨by rfl, ?_⟩; intro w' hSw; (try dsimp only at hSw); go_simp; (try (with_reducible rfl)))
  simp only [Act.put, List.setIfInBounds_toArray, List.set_cons_zero, List.set_cons_succ]
  refine wpAnyH_take (i := 2) (oi := ?oib2) (v := ?vvb2) ?hib2 (by kernel_rfl) (by kernel_rfl) (by kernel_rfl) ?hqb2 ?hyb2 hHeld ?_
  case hib2 => simp only [List.getElem?_toArray, List.getElem?_cons_succ, List.getElem?_cons_zero]; rfl
  case hqb2 => exact fun _ _ _ h => h
  case hyb2 => (refine Or.inl ⟨by rfl, ?_⟩; intro w' hSw; (try dsimp only at hSw); go_simp; (try (with_reducible rfl)))
  simp only [Act.put, List.setIfInBounds_toArray, List.set_cons_zero, List.set_cons_succ]
  refine wpAnyH_take (i := 3) (oi := ?oib3) (v := ?vvb3) ?hib3 (by kernel_rfl) (by kernel_rfl) (by kernel_rfl) ?hqb3 ?hyb3 hHeld ?_
  case hib3 => simp only [List.getElem?_toArray, List.getElem?_cons_succ, List.getElem?_cons_zero]; rfl
  case hqb3 => exact fun _ _ _ h => h
  case hyb3 => (refine Or.inl ⟨by rfl, ?_⟩; intro w' hSw; (try dsimp only at hSw); go_simp; (try (with_reducible rfl)))
  simp only [Act.put, List.setIfInBounds_toArray, List.set_cons_zero, List.set_cons_succ]
  refine wpAnyH_take (i := 4) (oi := ?oib4) (v := ?vvb4) ?hib4 (by kernel_rfl) (by kernel_rfl) (by kernel_rfl) ?hqb4 ?hyb4 hHeld ?_
  case hib4 => simp only [List.getElem?_toArray, List.getElem?_cons_succ, List.getElem?_cons_zero]; rfl
  case hqb4 => exact fun _ _ _ h => h
  case hyb4 => (refine Or.inl ⟨by rfl, ?_⟩; intro w' hSw; (try dsimp only at hSw); go_simp; (try (with_reducible rfl)))
  simp only [Act.put, List.setIfInBounds_toArray, List.set_cons_zero, List.set_cons_succ]
  refine wpAnyH_take (i := 5) (oi := ?oib5) (v := ?vvb5) ?hib5 (by kernel_rfl) (by kernel_rfl) (by kernel_rfl) ?hqb5 ?hyb5 hHeld ?_
  case hib5 => simp only [List.getElem?_toArray, List.getElem?_cons_succ, List.getElem?_cons_zero]; rfl
  case hqb5 => exact fun _ _ _ h => h
  case hyb5 => (refine Or.inl ⟨by rfl, ?_⟩; intro w' hSw; (try dsimp only at hSw); go_simp; (try (with_reducible rfl)))
  simp only [Act.put, List.setIfInBounds_toArray, List.set_cons_zero, List.set_cons_succ]
  refine wpAnyH_take (i := 6) (oi := ?oib6) (v := ?vvb6) ?hib6 (by kernel_rfl) (by kernel_rfl) (by kernel_rfl) ?hqb6 ?hyb6 hHeld ?_
  case hib6 => simp only [List.getElem?_toArray, List.getElem?_cons_succ, List.getElem?_cons_zero]; rfl
  case hqb6 => exact fun _ _ _ h => h
  case hyb6 => (refine Or.inl ⟨by rfl, ?_⟩; intro w' hSw; (try dsimp only at hSw); go_simp; (try (with_reducible rfl)))
  simp only [Act.put, List.setIfInBounds_toArray, List.set_cons_zero, List.set_cons_succ]
  refine wpAnyH_take (i := 7) (oi := ?oib7) (v := ?vvb7) ?hib7 (by kernel_rfl) (by kernel_rfl) (by kernel_rfl) ?hqb7 ?hyb7 hHeld ?_
  case hib7 => simp only [List.getElem?_toArray, List.getElem?_cons_succ, List.getElem?_cons_zero]; rfl
  case hqb7 => exact fun _ _ _ h => h
  case hyb7 => (refine Or.inl ⟨by rfl, ?_⟩; intro w' hSw; (try dsimp only at hSw); go_simp; (try (with_reducible rfl)))
  simp only [Act.put, List.setIfInBounds_toArray, List.set_cons_zero, List.set_cons_succ]
  refine wpAnyH_take (i := 8) (oi := ?oib8) (v := ?vvb8) ?hib8 (by kernel_rfl) (by kernel_rfl) (by kernel_rfl) ?hqb8 ?hyb8 hHeld ?_
  case hib8 => simp only [List.getElem?_toArray, List.getElem?_cons_succ, List.getElem?_cons_zero]; rfl
  case hqb8 => exact fun _ _ _ h => h
  case hyb8 => (refine Or.inl ⟨by rfl, ?_⟩; intro w' hSw; (try dsimp only at hSw); go_simp; (try (with_reducible rfl)))
  simp only [Act.put, List.setIfInBounds_toArray, List.set_cons_zero, List.set_cons_succ]
  refine wpAnyH_take (i := 9) (oi := ?oib9) (v := ?vvb9) ?hib9 (by kernel_rfl) (by kernel_rfl) (by kernel_rfl) ?hqb9 ?hyb9 hHeld ?_
  case hib9 => simp only [List.getElem?_toArray, List.getElem?_cons_succ, List.getElem?_cons_zero]; rfl
  case hqb9 => exact fun _ _ _ h => h
  case hyb9 => (refine Or.inl ⟨by rfl, ?_⟩; intro w' hSw; (try dsimp only at hSw); go_simp; (try (with_reducible rfl)))
  simp only [Act.put, List.setIfInBounds_toArray, List.set_cons_zero, List.set_cons_succ]
  refine wpAnyH_take (i := 10) (oi := ?oib10) (v := ?vvb10) ?hib10 (by kernel_rfl) (by kernel_rfl) (by kernel_rfl) ?hqb10 ?hyb10 hHeld ?_
  case hib10 => simp only [List.getElem?_toArray, List.getElem?_cons_succ, List.getElem?_cons_zero]; rfl
  case hqb10 => exact fun _ _ _ h => h
  case hyb10 => (refine Or.inl ⟨by rfl, ?_⟩; intro w' hSw; (try dsimp only at hSw); go_simp; (try (with_reducible rfl)))
  simp only [Act.put, List.setIfInBounds_toArray, List.set_cons_zero, List.set_cons_succ]
  refine wpAnyH_done (by kernel_rfl) ?_ _
  clear hHeld
  go_wp2
  go_loopw [5] (fun v wr => ∃ i : Nat, i ≤ n ∧ v = .int .i64 i ∧ Hid (Below w.heap.size w wr) ∧ Hid (∀ (k : Nat) (x y : RB), k < i → A.L[k]? = some x → B.L[k]? = some y → BlkEq A B x y)) (fun v _ => n - (intOf v).toNat)
  case atStart => exact ⟨0, by omega, rfl, Below.drew (Below.refl _ _), fun k x y hk => absurd hk (by omega)⟩
  case round =>
    obtain ⟨i, hi, rfl, HW, HE⟩ := hrel
    rename World => wo
    by_cases hin : i < n
    · have hxA := List.getElem?_eq_getElem (l := A.L) (i := i) (by rw [HLA.out]; exact hin)
      have hxB := List.getElem?_eq_getElem (l := B.L) (i := i) (by rw [HLB.out]; exact hin)
      generalize A.L[i]'(by rw [HLA.out]; exact hin) = x at hxA
      generalize B.L[i]'(by rw [HLB.out]; exact hin) = y at hxB
      obtain ⟨gA, kA, bbx, f0, f1, f2, f3, f4⟩ := (HA.out.below HW.out).rowAt hxA
      obtain ⟨gB, kB, bby, g0, g1, g2, g3, g4⟩ := (HB.out.below HW.out).rowAt hxB
      rw [HLA.out] at f0
      rw [HLB.out] at g0
      have i0 : (0 : Int) ≤ i := by omega
      have i1 : (i : Int) < n := by omega
      have FX : Hid (∀ (t : Nat) (u : Int), x.bytes[t]? = some u → wo.cell? ⟨bbx, t, none⟩ = some (.int .i64 u)) := f3
      have GY : Hid (∀ (t : Nat) (u : Int), y.bytes[t]? = some u → wo.cell? ⟨bby, t, none⟩ = some (.int .i64 u)) := g3
      have XA : Hid (A.L[i]? = some x) := hxA
      have XB : Hid (B.L[i]? = some y) := hxB
      have gl : gB < wo.heap.size := block_lt_of_cell g1
      have ql : q < wo.heap.size := block_lt_of_cell g0
      clear f3 g3 hxA hxB
      have NO : Hid (¬ BlkEq A B x y → ∀ W, Below wo.heap.size wo W → retB (SameN A B) w (.returned (.bool false)) W) := fun hno W hW => ⟨false, rfl, ⟨fun h => (by cases h), fun h => absurd (h.2 i x y XA.out XB.out) hno⟩, bel_trans HW.out hW⟩
      by_cases hfe : x.freed = y.freed
      · have d1 : (x.freed != y.freed) = false := by simp [hfe]
        by_cases hle : x.bytes.length = y.bytes.length
        · have XF : Hid (x.freed = y.freed ∧ x.bytes.length = y.bytes.length) := ⟨hfe, hle⟩
          rw [← hfe] at g2
          rw [← hle] at g1
          clear d1 hfe hle
          obtain ⟨fx, hfx⟩ : ∃ fx, x.freed = fx := ⟨_, rfl⟩
          obtain ⟨lx, hlx⟩ : ∃ lx, x.bytes.length = lx := ⟨_, rfl⟩
          rw [hfx] at f2 g2
          rw [hlx] at f1 g1 f4
          have HFX : Hid (x.freed = fx ∧ x.bytes.length = lx) := ⟨hfx, hlx⟩
          have lx0 : (lx : Int) ≤ 65536 := by omega
          clear hfx hlx g4 f4
          cases fx
          · go_wp2
            go_loopw [8] (fun v wr => ∃ t : Nat, t ≤ lx ∧ v = .int .i64 t ∧ Hid (Below ((wo.alloc (.cells #[.slice (some ⟨bbx, 0, none⟩) lx lx, .bool false] 51)).alloc (.cells #[.slice (some ⟨bby, 0, none⟩) lx lx, .bool false] 51)).heap.size ((wo.alloc (.cells #[.slice (some ⟨bbx, 0, none⟩) lx lx, .bool false] 51)).alloc (.cells #[.slice (some ⟨bby, 0, none⟩) lx lx, .bool false] 51)) wr) ∧ Hid (∀ s, s < t → PartEq A B x y s)) (fun v _ => lx - (intOf v).toNat)
            case atStart => exact ⟨0, by omega, rfl, Below.refl _ _, fun s hs => absurd hs (by omega)⟩
            case round =>
              obtain ⟨t, ht, rfl, HT, HS⟩ := hrel
              have b0 : wr.cell? ⟨wo.heap.size, 0, none⟩ = some (.slice (some ⟨bbx, 0, none⟩) lx lx) := keep_cell HT.out (by go_simp)
              have b1 : wr.cell? ⟨wo.heap.size, 1, none⟩ = some (.bool false) := keep_cell HT.out (by go_simp)
              have c0 : wr.cell? ⟨(wo.heap.size + 1), 0, none⟩ = some (.slice (some ⟨bby, 0, none⟩) lx lx) := keep_cell HT.out (by go_simp)
              have HOW : Hid (Below wo.heap.size wo wr) := (((Below.refl _ wo).alloc (Nat.le_refl _) _).alloc (by simp) _).trans (HT.out.mono (by simp; omega))
              by_cases htl : t < lx
              · have t0 : (0 : Int) ≤ t := by omega
                have t1 : (t : Int) < lx := by omega
                have hux := List.getElem?_eq_getElem (l := x.bytes) (i := t) (by rw [HFX.out.2]; exact htl)
                have huy := List.getElem?_eq_getElem (l := y.bytes) (i := t) (by rw [← XF.out.2, HFX.out.2]; exact htl)
                generalize x.bytes[t]'(by rw [HFX.out.2]; exact htl) = u at hux
                generalize y.bytes[t]'(by rw [← XF.out.2, HFX.out.2]; exact htl) = v at huy
                have cx := keep_cell HOW.out (FX.out t u hux)
                have cy := keep_cell HOW.out (GY.out t v huy)
                obtain ⟨⟨pu, ⟨uk, un, ub⟩⟩, hpu⟩ : ∃ r, partN A u = r := ⟨_, rfl⟩
                obtain ⟨⟨pv, ⟨vk, vn, vb⟩⟩, hpv⟩ : ∃ r, partN B v = r := ⟨_, rfl⟩
                have okA := OA.out i x XA.out HFX.out.1 t u hux
                have okB := OB.out i y XB.out (XF.out.1 ▸ HFX.out.1) t v huy
                have PA : Hid (∀ W, Below wr.heap.size wr W → Calls Try.prog 45 #[.pointer (some ⟨p, 0, none⟩), .int .i64 u] W (retP (.tuple #[.int .i64 pu, .agg #[.int .i64 uk, .int .i64 un, .int .i64 ub]]) W)) := fun W hW => part_to ((HA.out.below HW.out).below (bel_trans HOW.out hW)) u okA.1 okA.2 hpu
                have PB : Hid (∀ W, Below wr.heap.size wr W → Calls Try.prog 45 #[.pointer (some ⟨q, 0, none⟩), .int .i64 v] W (retP (.tuple #[.int .i64 pv, .agg #[.int .i64 vk, .int .i64 vn, .int .i64 vb]]) W)) := fun W hW => part_to ((HB.out.below HW.out).below (bel_trans HOW.out hW)) v okB.1 okB.2 hpv
                have HUV : Hid (x.bytes[t]? = some u ∧ y.bytes[t]? = some v ∧ partN A u = (pu, ⟨uk, un, ub⟩) ∧ partN B v = (pv, ⟨vk, vn, vb⟩)) := ⟨hux, huy, hpu, hpv⟩
                have xl : wo.heap.size < wr.heap.size := block_lt_of_cell b0
                have yl : wo.heap.size + 1 < wr.heap.size := block_lt_of_cell c0
                clear hux huy hpu hpv okA okB
                go_wp2_with fail
                refine (PA.out _ (Below.refl _ _)).mono ?_
                rintro e w1 ⟨rfl, hb1⟩
                have c1 := keep_cell hb1 c0
                have cy1 := keep_cell hb1 cy
                have HW1 : Hid (Below wr.heap.size wr (w1.alloc (.cells #[.int .i64 uk, .int .i64 un, .int .i64 ub] 32))) := bel_alloc hb1 _
                have yl1 : wo.heap.size + 1 < w1.heap.size := block_lt_of_cell c1
                have cyl : bby < w1.heap.size := block_lt_of_cell cy1
                clear hb1 b0 b1 c0 cx cy
                go_wp2_with fail
                refine (PB.out _ HW1.out).mono ?_
                rintro e w2 ⟨rfl, hb2⟩
                have k0 := keep_cell hb2 (p := ⟨w1.heap.size, 0, none⟩) (v := .int .i64 uk) (by go_simp)
                have k1 := keep_cell hb2 (p := ⟨w1.heap.size, 1, none⟩) (v := .int .i64 un) (by go_simp)
                have k2 := keep_cell hb2 (p := ⟨w1.heap.size, 2, none⟩) (v := .int .i64 ub) (by go_simp)
                have kl : w1.heap.size < w2.heap.size := block_lt_of_cell k0
                have HW2 : Hid (Below wr.heap.size wr (w2.alloc (.cells #[.int .i64 vk, .int .i64 vn, .int .i64 vb] 32))) := bel_alloc (bel_trans HW1.out hb2) _
                clear hb2 HW1 c1 cy1
                by_cases he : pu = pv ∧ uk = vk ∧ un = vn ∧ ub = vb
                · obtain ⟨rfl, rfl, rfl, rfl⟩ := he
                  have HTn : Hid (∀ s, s < t + 1 → PartEq A B x y s) := fun s hs => by
                    by_cases e : s = t
                    · subst e
                      intro u' v' hu' hv'
                      obtain ⟨z1, z2, z3, z4⟩ := HUV.out
                      rw [z1] at hu'
                      rw [z2] at hv'
                      cases hu'
                      cases hv'
                      rw [z3, z4]
                    · exact HS.out s (by omega)
                  go_wp2
                  go_roundw
                  case rel => exact ⟨t + 1, by omega, by simp, bel_trans HT.out HW2.out, HTn⟩
                  case measure => simp [intOf]; omega
                · have HNO : Hid (∀ W, Below wo.heap.size wo W → retB (SameN A B) w (.returned (.bool false)) W) := NO.out (fun hb => by
                    have := hb.2.2 HFX.out.1 t (by rw [HFX.out.2]; exact htl) u v HUV.out.1 HUV.out.2.1
                    rw [HUV.out.2.2.1, HUV.out.2.2.2] at this
                    simp only [Prod.mk.injEq, V.mk.injEq] at this
                    exact he this)
                  have HBd : Hid (Below wo.heap.size wo (w2.alloc (.cells #[.int .i64 vk, .int .i64 vn, .int .i64 vb] 32))) := bel_trans HOW.out HW2.out
                  clear HS HT HUV
                  by_cases he1 : pu = pv
                  · subst he1
                    by_cases he2 : uk = vk
                    · subst he2
                      by_cases he3 : un = vn
                      · subst he3
                        have he4 : ¬ ub = vb := fun e => he ⟨rfl, rfl, rfl, e⟩
                        have r4 : (ub == vb) = false := by simpa using he4
                        clear he
                        go_wp2
                        go_ret
                        exact HNO.out _ HBd.out
                      · have r3 : (un == vn) = false := by simpa using he3
                        clear he
                        go_wp2
                        go_ret
                        exact HNO.out _ HBd.out
                    · have r2 : (uk == vk) = false := by simpa using he2
                      clear he
                      go_wp2
                      go_ret
                      exact HNO.out _ HBd.out
                  · have r1 : (pu != pv) = true := by simpa using he1
                    clear he
                    go_wp2
                    go_ret
                    exact HNO.out _ HBd.out
              · have HBL : Hid (BlkEq A B x y) := ⟨XF.out.1, XF.out.2, fun _ s hs => HS.out s (by rw [HFX.out.2] at hs; omega)⟩
                have htq : t = lx := by omega
                subst htq
                go_wp2
                go_roundw
                case rel => exact ⟨i + 1, by omega, by simp, bel_trans HW.out HOW.out, fun k x' y' hk h1 h2 => by
                  by_cases e : k = i
                  · subst e
                    rw [XA.out] at h1
                    rw [XB.out] at h2
                    cases h1
                    cases h2
                    exact HBL.out
                  · exact HE.out k x' y' (by omega) h1 h2⟩
                case measure => simp [intOf]; omega
          · go_wp2
            go_loopw [8] (fun v wr => v = .int .i64 0 ∧ wr = ((wo.alloc (.cells #[.slice (some ⟨bbx, 0, none⟩) lx lx, .bool true] 51)).alloc (.cells #[.slice (some ⟨bby, 0, none⟩) lx lx, .bool true] 51))) (fun _ _ => 0)
            case atStart => exact ⟨rfl, rfl⟩
            case round =>
              obtain ⟨rfl, rfl⟩ := hrel
              have HOW : Hid (Below wo.heap.size wo ((wo.alloc (.cells #[.slice (some ⟨bbx, 0, none⟩) lx lx, .bool true] 51)).alloc (.cells #[.slice (some ⟨bby, 0, none⟩) lx lx, .bool true] 51))) := ((Below.refl _ wo).alloc (Nat.le_refl _) _).alloc (by simp) _
              go_wp2
              go_roundw
              case rel => exact ⟨i + 1, by omega, by simp, bel_trans HW.out HOW.out, fun k x' y' hk h1 h2 => by
                by_cases e : k = i
                · subst e
                  rw [XA.out] at h1
                  rw [XB.out] at h2
                  cases h1
                  cases h2
                  exact ⟨XF.out.1, XF.out.2, fun hf => by rw [HFX.out.1] at hf; cases hf⟩
                · exact HE.out k x' y' (by omega) h1 h2⟩
              case measure => simp [intOf]; omega
        · have HNO : Hid (∀ W, Below wo.heap.size wo W → retB (SameN A B) w (.returned (.bool false)) W) := NO.out (fun hb => hle hb.2.1)
          obtain ⟨lx, hlx⟩ : ∃ lx, x.bytes.length = lx := ⟨_, rfl⟩
          obtain ⟨ly, hly⟩ : ∃ ly, y.bytes.length = ly := ⟨_, rfl⟩
          rw [hlx] at f1 hle
          rw [hly] at g1 hle
          have d2 : ((lx : Int) != (ly : Int)) = true := by simp; omega
          obtain ⟨fx, hfx⟩ : ∃ fx, x.freed = fx := ⟨_, rfl⟩
          rw [← hfe] at g2
          rw [hfx] at f2 g2
          clear hlx hly hle hfe d1 hfx f4 g4
          go_wp2
          go_ret
          exact HNO.out _ (by repeat (first | with_reducible exact Below.refl _ _ | with_reducible refine bel_alloc ?_ _ | with_reducible refine bel_set ?_ (by first | exact Nat.le_refl _ | (simp; done) | (simp; omega)) _ | with_reducible refine Below.drew ?_ | refine bel_trans ?_ (by assumption)))
      · have HNO : Hid (∀ W, Below wo.heap.size wo W → retB (SameN A B) w (.returned (.bool false)) W) := NO.out (fun hb => hfe hb.1)
        obtain ⟨fx, hfx⟩ : ∃ fx, x.freed = fx := ⟨_, rfl⟩
        obtain ⟨fy, hfy⟩ : ∃ fy, y.freed = fy := ⟨_, rfl⟩
        rw [hfx] at f2 hfe
        rw [hfy] at g2 hfe
        clear hfx hfy f4 g4
        cases fx
        · cases fy
          · exact absurd rfl hfe
          · clear hfe
            go_wp2
            go_ret
            exact HNO.out _ (by repeat (first | with_reducible exact Below.refl _ _ | with_reducible refine bel_alloc ?_ _ | with_reducible refine bel_set ?_ (by first | exact Nat.le_refl _ | (simp; done) | (simp; omega)) _ | with_reducible refine Below.drew ?_ | refine bel_trans ?_ (by assumption)))
        · cases fy
          · clear hfe
            go_wp2
            go_ret
            exact HNO.out _ (by repeat (first | with_reducible exact Below.refl _ _ | with_reducible refine bel_alloc ?_ _ | with_reducible refine bel_set ?_ (by first | exact Nat.le_refl _ | (simp; done) | (simp; omega)) _ | with_reducible refine Below.drew ?_ | refine bel_trans ?_ (by assumption)))
          · exact absurd rfl hfe
    · have hie : i = n := by omega
      subst hie
      have fA := keep_cell HW.out eA
      go_wp2
      go_ret
      exact ⟨true, rfl, ⟨fun _ => ⟨HLA.out.trans HLB.out.symm, fun k x y h1 h2 => HE.out k x y (by have := lt_of_get h1; rw [HLA.out] at this; exact this) h1 h2⟩, fun _ => rfl⟩, HW.out⟩


theorem rsame_any {w : World} {p q bA bB : Nat} {RA RB' : Nat → Option Role} {A B : RM} (hA : RMem w bA p RA A) (hB : RMem w bB q RB' B) (oA : OkN A) (oB : OkN B) :
    Calls Try.prog 26 #[.pointer (some ⟨p, 0, none⟩), .pointer (some ⟨q, 0, none⟩)] w (retB (SameN A B) w) := by
  obtain ⟨⟨aA, cA, eA⟩, lA⟩ := hA.rows0
  obtain ⟨⟨aB, cB, eB⟩, lB⟩ := hB.rows0
  by_cases hl : A.L.length = B.L.length
  · exact rsame_walk A.L.length hA hB oA oB rfl hl.symm (by omega)
  · refine (rsame_len (A := A) (B := B) aA aB _ _ cA cB eA eB (by simp; omega)).mono ?_
    rintro e w' ⟨rfl, hb⟩
    exact ⟨false, rfl, ⟨fun h => (by cases h), fun h => absurd h.1 hl⟩, hb⟩

end Go.Proofs.Ytnklpccggbkknaa
