/- Package types: contract of put. -/
import Derived.Test.YtpedfnfangaelaaDoorYLay2
namespace Go.Proofs.YtpedfnfangaelaaDoor
open Go.ChangeShapes Go.WideShapes Go.ChangeAt Go.RowKit
set_option linter.unusedSimpArgs false
set_option linter.unusedVariables false

/-- A shape that is being made, in its block; the row of its places is its own. -/
structure ShIs (w : World) (base sb : Nat) (pv : Value) (pls : List Pl) (sz al : Int) : Prop where
  row : w.heap[sb]? = some (.cells #[pv, .int .i64 sz, .int .i64 al] 71 (0, 0))
  own : w.ownsRow base 49 3 pv pls.length (flat3 plV pls)
  ne : pv.ownBlock ≠ some sb
/-- Nothing old has turned but one block, and a row. -/
structure Turned (w w' : World) (sb : Nat) (row : Option Nat) : Prop where
  os : w'.os = w.os
  tape : w'.tape = w.tape
  output : w'.output = w.output
  size : w.heap.size ≤ w'.heap.size
  block : ∀ k, k < w.heap.size → k ≠ sb → row ≠ some k → w'.heap[k]? = w.heap[k]?
theorem row_lt {w : World} {base e size n : Nat} {v : Value} {xs : List Value} (h : w.ownsRow base e size v n xs) {b : Nat} (hb : v.ownBlock = some b) : b < w.heap.size ∧ base ≤ b := by
  obtain ⟨_, ⟨e0, _⟩ | ⟨g2, c2, cur, e0, hb2, hh, _⟩⟩ := h
  · rw [e0] at hb; simp [Value.ownBlock] at hb
  · rw [e0] at hb
    simp only [Value.ownBlock, Option.some.injEq] at hb
    subst hb
    exact ⟨(Array.getElem?_eq_some_iff.1 hh).1, hb2⟩
theorem owns_of_heap {w w' : World} {base e size n : Nat} {v : Value} {xs : List Value} (h : w.ownsRow base e size v n xs) (hb : ∀ b, v.ownBlock = some b → w'.heap[b]? = w.heap[b]?) : w'.ownsRow base e size v n xs := by
  obtain ⟨hl, ⟨e0, h0⟩ | ⟨g2, c2, cur, e0, hb2, hh, h4, h5, h6, h7⟩⟩ := h
  · exact ⟨hl, .inl ⟨e0, h0⟩⟩
  · exact ⟨hl, .inr ⟨g2, c2, cur, e0, hb2, (hb g2 (by rw [e0]; rfl)).trans hh, h4, h5, h6, h7⟩⟩
theorem owns_shape {w : World} {base e size n : Nat} {v : Value} {xs : List Value} (h : w.ownsRow base e size v n xs) : ∃ a c, v = .slice a n c := by
  obtain ⟨_, ⟨e0, h0⟩ | ⟨g2, c2, cur, e0, _⟩⟩ := h
  · subst h0; exact ⟨_, _, e0⟩
  · exact ⟨_, _, e0⟩
theorem upI_range {n a : Int} (h0 : 0 ≤ n) (h2 : 1 ≤ a) : n ≤ upI n a ∧ upI n a ≤ n + a - 1 := by
  unfold upI
  have h1 := Int.ediv_mul_le (n + a - 1) (b := a) (by omega)
  have h3 := Int.lt_ediv_add_one_mul_self (n + a - 1) (b := a) (by omega)
  rw [Int.add_mul] at h3
  omega
set_option maxHeartbeats 2000000 in
theorem put_no (sb : Nat) (pv : Value) (sz al size align : Int) (nm ty : ByteArray) (w : World) (hrow : w.heap[sb]? = some (.cells #[pv, .int .i64 sz, .int .i64 al] 71 (0, 0)))
    (h0 : 0 ≤ sz) (h1 : sz ≤ 65536) (h2 : 0 ≤ size) (h3 : size ≤ 65536) (h4 : 1 ≤ align) (h5 : align ≤ 8) (hgt : 65536 < upI sz align + size) :
    Calls Tryd.prog 50 #[.pointer (some ⟨sb, 0, none⟩), .agg #[.string nm, .string ty], .int .i64 size, .int .i64 align] w (retP (.bool false) w) := by
  have HR : Hid (∀ w, Calls Tryd.prog 51 #[.int .i64 sz, .int .i64 align] w fun e w' => e = .returned (.int .i64 (upI sz align)) ∧ w' = w) := fun w => roundUp_any sz align h0 (by omega) h4 (by omega) w
  have hu := upI_range h0 h4
  generalize upI sz align = u at *
  have c1 := heap_cell (o := 1) (v := .int .i64 sz) hrow (by rfl)
  have d1 : ∀ o, (w.alloc o).cell? ⟨sb, 1, none⟩ = some (.int .i64 sz) := fun o => keep_alloc c1 o
  have hw64 : wrap64 (u + size) = u + size := by unfold wrap64; omega
  have q1 : decide (65536 < u + size) = true := by simpa using hgt
  clear hrow c1 h0 h1 h2 h3 h4 h5 hgt hu
  go_enter Tryd.func50, Tryd.ntmps50
  go_wp2_with fail
  refine (HR.out _).mono ?_
  rintro e w1 ⟨rfl, hw⟩
  replace hw := hw.symm
  subst hw
  go_wp2
  go_ret
  exact ⟨rfl, (by repeat (first | with_reducible exact Below.refl _ _ | assumption | with_reducible refine bel_alloc ?_ _ | with_reducible refine Below.drew ?_ | with_reducible refine bel_drewN ?_ _ | with_reducible refine bel_set ?_ (by go_light; first | (simp; done) | (simp; omega) | omega) _ | refine bel_trans ?_ (by assumption)))⟩

theorem keep_set2 {w : World} {b b' o o' : Nat} {v u : Value} (h : w.cell? ⟨b, o, none⟩ = some v) (hne : b ≠ b') : (w.setCell ⟨b', o', none⟩ u).cell? ⟨b, o, none⟩ = some v := by
  rw [World.cell?_of_block (w := w) (a := ⟨b, o, none⟩) (Below.heap_setCell w ⟨b', o', none⟩ u b hne)]; exact h
theorem tu_put {W0 v w3 : World} {o : Obj} {sb off : Nat} {u : Value} {row : Option Nat} (hg : (v.alloc o).grownBy w3 row) (hb : Below (W0.drew).heap.size W0.drew v) : Turned W0 (w3.setCell ⟨sb, off, none⟩ u) sb row := by
  have hs : W0.heap.size ≤ v.heap.size := hb.size
  have hs2 := hg.size
  rw [World.size_alloc] at hs2
  refine ⟨hg.os.trans hb.os, hg.tape.trans hb.tape, hg.output.trans hb.output, by rw [size_set]; omega, fun k hk h1 h2 => ?_⟩
  rw [heap_set_other h1, hg.block k (by rw [World.size_alloc]; omega) (Ne.symm h2), Below.heap_alloc v o k (by omega)]
  exact hb.block k hk
theorem own_put {W0 v w3 : World} {base e n m g cap sb : Nat} {a : Option Addr} {c : Nat} {xs : List Value} {u : Value} (ho : w3.ownsRow base e 3 (.slice (some ⟨g, 0, none⟩) m cap) m xs) (hat : (Value.slice a n c).ownBlock = some g ∨ g = v.heap.size + 1) (hb : Below (W0.drew).heap.size W0.drew v) (hns : (Value.slice a n c).ownBlock ≠ some sb ∧ sb < W0.heap.size) :
    (w3.setCell ⟨sb, 0, none⟩ u).ownsRow base e 3 (.slice (some ⟨g, 0, none⟩) m cap) m xs ∧ ((Value.slice a n c).ownBlock = some g ∨ W0.heap.size ≤ g) ∧ g ≠ sb := by
  have hs : W0.heap.size ≤ v.heap.size := hb.size
  have hne : g ≠ sb := by
    rcases hat with h | h
    · intro e; rw [e] at h; exact hns.1 h
    · have := hns.2; omega
  refine ⟨owns_of_heap ho (fun b hb => ?_), ?_, hne⟩
  · simp only [Value.ownBlock, Option.some.injEq] at hb
    subst hb
    exact heap_set_other hne
  · rcases hat with h | h
    · exact .inl h
    · exact .inr (by omega)
theorem run_max (a b : Int) (w : World) : (Builtin.max_ #[3, 3] 3 #[.int .i64 a, .int .i64 b]).run Tryd.prog w = .ok (.int .i64 (max a b)) w := by
  have e : max a b = if a < b then b else a := by split <;> omega
  rw [e]
  simp [Builtin.max_, Builtin.max2]
theorem put_tu {w W0 W4 : World} {sb o1 o2 : Nat} {u1 u2 : Value} {row : Option Nat} (h : Turned W0 W4 sb row) (hb : Below w.heap.size w W0) : Turned w ((W4.setCell ⟨sb, o1, none⟩ u1).setCell ⟨sb, o2, none⟩ u2) sb row := by
  refine ⟨h.os.trans hb.os, h.tape.trans hb.tape, h.output.trans hb.output, ?_, fun k hk h1 h2 => ?_⟩
  · rw [size_set, size_set]; exact Nat.le_trans hb.size h.size
  · rw [heap_set_other h1, heap_set_other h1, h.block k (Nat.lt_of_lt_of_le hk hb.size) h1 h2]
    exact hb.block k hk
theorem put_end {W4 : World} {base sb n g cap : Nat} {pls : List Pl} {sz al s' m u : Int} {nm ty : ByteArray} {row : Option Nat} {H : Nat} (hB : W4.heap[sb]? = some (.cells #[.slice (some ⟨g, 0, none⟩) (n + 1) cap, .int .i64 sz, .int .i64 al] 71 (0, 0)))
    (hT : True) (hO : W4.ownsRow base 49 3 (.slice (some ⟨g, 0, none⟩) (n + 1) cap) (n + 1) (flat3 plV pls ++ [.string nm, .string ty, .int .i64 u]) ∧ (row = some g ∨ H ≤ g) ∧ g ≠ sb) (hn : n = pls.length) :
    ShIs ((W4.setCell ⟨sb, 1, none⟩ (.int .i64 s')).setCell ⟨sb, 2, none⟩ (.int .i64 m)) base sb (.slice (some ⟨g, 0, none⟩) (n + 1) cap) (pls ++ [⟨nm, ty, u⟩]) s' m := by
  refine ⟨?_, ?_, ?_⟩
  · exact heap_set_same (heap_set_same hB _) _
  · have e : flat3 plV (pls ++ [⟨nm, ty, u⟩]) = flat3 plV pls ++ [.string nm, .string ty, .int .i64 u] := by rw [flat3_append]; rfl
    rw [e, List.length_append, List.length_singleton, ← hn]
    refine owns_of_heap hO.1 (fun b hb => ?_)
    simp only [Value.ownBlock, Option.some.injEq] at hb
    subst hb
    rw [heap_set_other hO.2.2, heap_set_other hO.2.2]
  · simp only [Value.ownBlock, ne_eq, Option.some.injEq]
    exact hO.2.2
set_option maxHeartbeats 4000000 in
theorem put_yes (base sb n c : Nat) (a : Option Addr) (pls : List Pl) (sz al size align : Int) (nm ty : ByteArray) (w : World) (h : ShIs w base sb (Value.slice a n c) pls sz al) (hbase : base ≤ w.heap.size)
    (h0 : 0 ≤ sz) (h1 : sz ≤ 65536) (h2 : 0 ≤ size) (h3 : size ≤ 65536) (h4 : 1 ≤ align) (h5 : align ≤ 8) (h6 : 1 ≤ al) (h7 : al ≤ 8) (hle : upI sz align + size ≤ 65536) (hn : pls.length ≤ 100000) (hz : nm.size ≤ 281474976710656 ∧ ty.size ≤ 281474976710656) :
    Calls Tryd.prog 50 #[.pointer (some ⟨sb, 0, none⟩), .agg #[.string nm, .string ty], .int .i64 size, .int .i64 align] w fun e w' => e = .returned (.bool true) ∧ ∃ g cap, ShIs w' base sb (.slice (some ⟨g, 0, none⟩) (n + 1) cap) (pls ++ [⟨nm, ty, upI sz align⟩]) (upI sz align + size) (max al align) ∧ Turned w w' sb (Value.slice a n c).ownBlock ∧ ((Value.slice a n c).ownBlock = some g ∨ w.heap.size ≤ g) := by
  have HR : Hid (∀ w, Calls Tryd.prog 51 #[.int .i64 sz, .int .i64 align] w fun e w' => e = .returned (.int .i64 (upI sz align)) ∧ w' = w) := fun w => roundUp_any sz align h0 (by omega) h4 (by omega) w
  have HC : Hid (∀ s : ByteArray, s.size ≤ 281474976710656 → ∀ w, Calls Tryd.prog 31 #[.string s] w (retP (.string s) w)) := fun s hs w => clone_any s w hs
  have HZ : Hid (nm.size ≤ 281474976710656 ∧ ty.size ≤ 281474976710656) := hz
  have hu := upI_range h0 h4
  generalize upI sz align = u at *
  have hnl : n = pls.length := by
    obtain ⟨a', c', e⟩ := owns_shape h.own
    cases e
    rfl
  have HN : Hid (n ≤ 100000 ∧ base ≤ w.heap.size) := ⟨by omega, hbase⟩
  obtain ⟨i0, hi, hz0, hz1, hz2⟩ := info_parts infoPl
  have HI : Hid (Tryd.prog.info? 49 = some i0 ∧ i0.zero = some (.agg #[.string ⟨#[]⟩, .string ⟨#[]⟩, .int .i64 0]) ∧ i0.size = 3 ∧ i0.bytes = 40) := ⟨hi, hz0, hz1, hz2⟩
  clear hi hz0 hz1 hz2
  have hsb : sb < w.heap.size := (Array.getElem?_eq_some_iff.1 h.row).1
  have c1 := heap_cell (o := 1) (v := .int .i64 sz) h.row (by rfl)
  have c0 := heap_cell (o := 0) (v := (Value.slice a n c)) h.row (by rfl)
  have d1 : ∀ o, (w.alloc o).cell? ⟨sb, 1, none⟩ = some (.int .i64 sz) := fun o => keep_alloc c1 o
  have hw64 : wrap64 (u + size) = u + size := by unfold wrap64; omega
  have q1 : decide (65536 < u + size) = false := by simpa using hle
  obtain ⟨m, hm⟩ : ∃ m, max al align = m := ⟨_, rfl⟩
  have rm : ∀ w, (Builtin.max_ #[3, 3] 3 #[.int .i64 al, .int .i64 align]).run Tryd.prog w = .ok (.int .i64 m) w := fun w => hm ▸ run_max _ _ w
  rw [hm]
  have H1 : Hid (∀ u1 ∈ ([.string nm, .string ty, .int .i64 u] : List Value), u1.oneCell' = true) := by
    have h : ∀ u1 ∈ ([.string nm, .string ty, .int .i64 u] : List Value), u1.oneCell' = true := by intro u1 hu; simp at hu; rcases hu with rfl | rfl | rfl <;> rfl
    exact h
  obtain ⟨W0, hW0⟩ : ∃ W0, W0 = w.alloc (.cells #[.string nm, .string ty] 51) := ⟨_, rfl⟩
  have HW0 : Hid (Below w.heap.size w W0 ∧ W0.heap.size = w.heap.size + 1 ∧ W0.heap[w.heap.size]? = some (.cells #[.string nm, .string ty] 51 (0, 0))) := by
    rw [hW0]; exact ⟨bel_new w _, by simp, heap_new w _⟩
  have C0 : Hid ((W0.drew).cell? ⟨sb, 0, none⟩ = some (Value.slice a n c)) := (keep_cell HW0.out.1 c0 : W0.cell? _ = _)
  have HNS : Hid ((Value.slice a n c).ownBlock ≠ some sb ∧ sb < W0.heap.size) := ⟨h.ne, by rw [HW0.out.2.1]; omega⟩
  have HNE : Hid (w.heap.size ≠ sb) := by show _ ≠ _; omega
  have HOW : Hid (∀ v10, Below (W0.drew).heap.size W0.drew v10 → (v10.alloc (.cells ([.string nm, .string ty, .int .i64 u] : List Value).toArray 49)).ownsRow base 49 3 (Value.slice a n c) n (flat3 plV pls)) := fun v10 hb => by
    have h2 : w.ownsRow base 49 3 (Value.slice a n c) n (flat3 plV pls) := hnl ▸ h.own
    refine owns_of_heap h2 (fun b hb2 => ?_)
    have hl := (row_lt h2 hb2).1
    have hs : W0.heap.size ≤ v10.heap.size := hb.size
    have := HW0.out.2.1
    rw [Below.heap_alloc v10 _ b (by omega)]
    exact (hb.block b (by show b < W0.heap.size; omega)).trans (HW0.out.1.block b hl)
  have HFAR : Hid (∀ v10 w3, Below (W0.drew).heap.size W0.drew v10 → (v10.alloc (.cells ([.string nm, .string ty, .int .i64 u] : List Value).toArray 49)).grownBy w3 (Value.slice a n c).ownBlock → w3.heap[sb]? = some (.cells #[(Value.slice a n c), .int .i64 sz, .int .i64 al] 71 (0, 0)) ∧ w3.heap[w.heap.size]? = some (.cells #[.string nm, .string ty] 51 (0, 0))) := fun v10 w3 hb hg => by
    have hs : W0.heap.size ≤ v10.heap.size := hb.size
    have h9 := HW0.out.2.1
    constructor
    · rw [hg.block sb (by simp; omega) (Ne.symm h.ne), Below.heap_alloc v10 _ sb (by omega), hb.block sb (by show sb < W0.heap.size; omega)]
      exact (HW0.out.1.block sb hsb).trans h.row
    · rw [hg.block w.heap.size (by simp; omega) (fun e => by have := (row_lt h.own e.symm).1; omega), Below.heap_alloc v10 _ _ (by omega), hb.block w.heap.size (by show w.heap.size < W0.heap.size; omega)]
      exact HW0.out.2.2
  have HNL : Hid (n = pls.length) := hnl
  clear hnl
  have f0 := heap_cell (o := 0) (v := .string nm) HW0.out.2.2 (by rfl)
  have f1 := heap_cell (o := 1) (v := .string ty) HW0.out.2.2 (by rfl)
  have e1 := d1 (.cells #[.string nm, .string ty] 51)
  rw [← hW0] at e1
  have x0 : W0.cell? ⟨sb, 0, none⟩ = some (Value.slice a n c) := C0.out
  clear h0 h1 h2 h3 h4 h5 hle hu c0 c1 hz
  go_enter Tryd.func50, Tryd.ntmps50
  go_wp2_with fail
  rw [← hW0]
  clear hW0 d1
  refine (HR.out _).mono ?_
  rintro e w1 ⟨rfl, hw⟩
  replace hw := hw.symm
  subst hw
  dsimp only
  go_wp2_with fail
  refine wp_region_held_drew (S := (fun w' => w'.cell? ⟨w.heap.size, 0, none⟩ = some (.string nm) ∧ w'.cell? ⟨w.heap.size, 1, none⟩ = some (.string ty))) (by kernel_rfl) (⟨f0, f1⟩) (fun hHeld => ?_)
  refine wpAnyH_take (i := 0) (oi := ?oiC1x1x0) (v := ?vvC1x1x0) ?hiC1x1x0 (by kernel_rfl) (by kernel_rfl) (by kernel_rfl) ?hqC1x1x0 ?hyC1x1x0 hHeld ?_
  case hiC1x1x0 => simp only [List.getElem?_toArray, List.getElem?_cons_succ, List.getElem?_cons_zero]; rfl
  case hqC1x1x0 => exact fun _ _ _ h => h
  case hyC1x1x0 => (refine Or.inl ⟨by rfl, ?_⟩; intro w' hSw; (try dsimp only at hSw); go_simp; (try (with_reducible rfl)))
  simp only [Act.put, List.setIfInBounds_toArray, List.set_cons_zero, List.set_cons_succ]
  refine wpAnyH_take (i := 1) (oi := ?oiC1x2x1) (v := ?vvC1x2x1) ?hiC1x2x1 (by kernel_rfl) (by kernel_rfl) (by kernel_rfl) ?hqC1x2x1 ?hyC1x2x1 hHeld ?_
  case hiC1x2x1 => simp only [List.getElem?_toArray, List.getElem?_cons_succ, List.getElem?_cons_zero]; rfl
  case hqC1x2x1 => exact fun _ _ _ h => h
  case hyC1x2x1 => (refine Or.inl ⟨by rfl, ?_⟩; intro w' hSw; (try dsimp only at hSw); go_simp; (try (with_reducible rfl)))
  simp only [Act.put, List.setIfInBounds_toArray, List.set_cons_zero, List.set_cons_succ]
  refine wpAnyH_take (i := 2) (oi := ?oiC1x3x2) (v := ?vvC1x3x2) ?hiC1x3x2 (by kernel_rfl) (by kernel_rfl) (by kernel_rfl) ?hqC1x3x2 ?hyC1x3x2 hHeld ?_
  case hiC1x3x2 => simp only [List.getElem?_toArray, List.getElem?_cons_succ, List.getElem?_cons_zero]; rfl
  case hqC1x3x2 => exact fun _ _ _ h => h
  case hyC1x3x2 => (refine Or.inl ⟨by rfl, ?_⟩; intro w' hSw; (try dsimp only at hSw); go_simp; (try (with_reducible rfl)))
  simp only [Act.put, List.setIfInBounds_toArray, List.set_cons_zero, List.set_cons_succ]
  refine wpAnyH_take (i := 3) (oi := ?oiC1x4x3) (v := ?vvC1x4x3) ?hiC1x4x3 (by kernel_rfl) (by kernel_rfl) (by kernel_rfl) ?hqC1x4x3 ?hyC1x4x3 hHeld ?_
  case hiC1x4x3 => simp only [List.getElem?_toArray, List.getElem?_cons_succ, List.getElem?_cons_zero]; rfl
  case hqC1x4x3 => exact fun _ _ _ h => h
  case hyC1x4x3 => (refine Or.inl ⟨by rfl, ?_⟩; intro w' hSw; (try dsimp only at hSw); go_simp; (try (with_reducible rfl)))
  simp only [Act.put, List.setIfInBounds_toArray, List.set_cons_zero, List.set_cons_succ]
  refine wpAnyH_take (i := 5) (oi := ?oiC1x5x5) (v := ?vvC1x5x5) ?hiC1x5x5 (by kernel_rfl) (by kernel_rfl) (by kernel_rfl) ?hqC1x5x5 ?hyC1x5x5 hHeld ?_
  case hiC1x5x5 => simp only [List.getElem?_toArray, List.getElem?_cons_succ, List.getElem?_cons_zero]; rfl
  case hqC1x5x5 => exact fun _ _ _ h => h
  case hyC1x5x5 => (refine Or.inl ⟨by rfl, ?_⟩; intro w' hSw; (try dsimp only at hSw); go_simp; (try (with_reducible rfl)))
  simp only [Act.put, List.setIfInBounds_toArray, List.set_cons_zero, List.set_cons_succ]
  refine wpAnyH_take (i := 6) (oi := ?oiC1x6x6) (v := ?vvC1x6x6) ?hiC1x6x6 (by kernel_rfl) (by kernel_rfl) (by kernel_rfl) ?hqC1x6x6 ?hyC1x6x6 hHeld ?_
  case hiC1x6x6 => simp only [List.getElem?_toArray, List.getElem?_cons_succ, List.getElem?_cons_zero]; rfl
  case hqC1x6x6 => exact fun _ _ _ h => h
  case hyC1x6x6 => (refine Or.inl ⟨by rfl, ?_⟩; intro w' hSw; (try dsimp only at hSw); go_simp; (try (with_reducible rfl)))
  simp only [Act.put, List.setIfInBounds_toArray, List.set_cons_zero, List.set_cons_succ]
  refine wpAnyH_take (i := 8) (oi := ?oiC1x7x8) (v := ?vvC1x7x8) ?hiC1x7x8 (by kernel_rfl) (by kernel_rfl) (by kernel_rfl) ?hqC1x7x8 ?hyC1x7x8 hHeld ?_
  case hiC1x7x8 => simp only [List.getElem?_toArray, List.getElem?_cons_succ, List.getElem?_cons_zero]; rfl
  case hqC1x7x8 => exact fun _ _ _ h => h
  case hyC1x7x8 => (refine Or.inl ⟨by rfl, ?_⟩; intro w' hSw; (try dsimp only at hSw); go_simp; (try (with_reducible rfl)))
  simp only [Act.put, List.setIfInBounds_toArray, List.set_cons_zero, List.set_cons_succ]
  refine wpAnyH_take (i := 9) (oi := ?oiC1x8x9) (v := ?vvC1x8x9) ?hiC1x8x9 (by kernel_rfl) (by kernel_rfl) (by kernel_rfl) ?hqC1x8x9 ?hyC1x8x9 hHeld ?_
  case hiC1x8x9 => simp only [List.getElem?_toArray, List.getElem?_cons_succ, List.getElem?_cons_zero]; rfl
  case hqC1x8x9 => exact fun _ _ _ h => h
  case hyC1x8x9 => (refine Or.inl ⟨by rfl, ?_⟩; intro w' hSw; (try dsimp only at hSw); go_simp; (try (with_reducible rfl)))
  simp only [Act.put, List.setIfInBounds_toArray, List.set_cons_zero, List.set_cons_succ]
  refine wpAnyH_take (i := 11) (oi := ?oiC1x9x11) (v := ?vvC1x9x11) ?hiC1x9x11 (by kernel_rfl) (by kernel_rfl) (by kernel_rfl) ?hqC1x9x11 ?hyC1x9x11 hHeld ?_
  case hiC1x9x11 => simp only [List.getElem?_toArray, List.getElem?_cons_succ, List.getElem?_cons_zero]; rfl
  case hqC1x9x11 => exact fun _ _ _ h => h
  case hyC1x9x11 => (refine Or.inl ⟨by rfl, ?_⟩; intro w' hSw; (try dsimp only at hSw); go_simp; (try (with_reducible rfl)))
  simp only [Act.put, List.setIfInBounds_toArray, List.set_cons_zero, List.set_cons_succ]
  refine wpAnyH_ready (rs := [4, 7]) (by kernel_rfl) (by simp) ?_
  refine (AllReadyH.cons (o := ?oiC1x10x4) ?hiC1x10x4 (fun K hK => ?gC1x10x4) (AllReadyH.cons (o := ?oiC1x10x7) ?hiC1x10x7 (fun K hK => ?gC1x10x7) AllReadyH.nil))
  case hiC1x10x4 => simp only [List.getElem?_toArray, List.getElem?_cons_succ, List.getElem?_cons_zero]; rfl
  case hiC1x10x7 => simp only [List.getElem?_toArray, List.getElem?_cons_succ, List.getElem?_cons_zero]; rfl
  case gC1x10x4 =>
    go_simp
    refine hK.out _ _ (hHeld) (fun hN => ?_)
    clear hK K hHeld
    have hHeld := hN
    clear hN
    try simp only [Act.put, List.setIfInBounds_toArray, List.set_cons_zero, List.set_cons_succ]
    refine wpAnyH_ready (rs := [7]) (by kernel_rfl) (by simp) ?_
    refine (AllReadyH.cons (o := ?oiC1x11x7) ?hiC1x11x7 (fun K hK => ?gC1x11x7) AllReadyH.nil)
    case hiC1x11x7 => simp only [List.getElem?_toArray, List.getElem?_cons_succ, List.getElem?_cons_zero]; rfl
    case gC1x11x7 =>
      go_simp
      refine (HC.out nm HZ.out.1 _).mono ?_
      rintro e v7 ⟨rfl, hb7⟩
      have HK7 : Hid (Below (W0.drew).heap.size W0.drew v7) := hb7
      have c0 := keep_cell HK7.out C0.out
      go_wp2_with fail
      refine hK.out _ _ (⟨keep_cell hb7 hHeld.1, keep_cell hb7 hHeld.2⟩) (fun hN => ?_)
      clear hK K hHeld
      have hHeld := hN
      clear hN
      try simp only [Act.put, List.setIfInBounds_toArray, List.set_cons_zero, List.set_cons_succ]
      refine wpAnyH_ready (rs := [10]) (by kernel_rfl) (by simp) ?_
      refine (AllReadyH.cons (o := ?oiC1x12x10) ?hiC1x12x10 (fun K hK => ?gC1x12x10) AllReadyH.nil)
      case hiC1x12x10 => simp only [List.getElem?_toArray, List.getElem?_cons_succ, List.getElem?_cons_zero]; rfl
      case gC1x12x10 =>
        go_simp
        refine (HC.out ty HZ.out.2 _).mono ?_
        rintro e v10 ⟨rfl, hb10⟩
        have HK10 : Hid (Below (W0.drew).heap.size W0.drew v10) := bel_trans HK7.out hb10
        have c0 := keep_cell HK10.out C0.out
        go_wp2_with fail
        refine hK.out _ _ (⟨keep_cell hb10 hHeld.1, keep_cell hb10 hHeld.2⟩) (fun hN => ?_)
        clear hK K hHeld
        have hHeld := hN
        clear hN
        try simp only [Act.put, List.setIfInBounds_toArray, List.set_cons_zero, List.set_cons_succ]
        refine wpAnyH_take (i := 12) (oi := ?oiC1x13x12) (v := ?vvC1x13x12) ?hiC1x13x12 (by kernel_rfl) (by kernel_rfl) (by kernel_rfl) ?hqC1x13x12 ?hyC1x13x12 hHeld ?_
        case hiC1x13x12 => simp only [List.getElem?_toArray, List.getElem?_cons_succ, List.getElem?_cons_zero]; rfl
        case hqC1x13x12 => exact fun _ _ _ h => h
        case hyC1x13x12 => (refine Or.inl ⟨by rfl, ?_⟩; intro w' hSw; (try dsimp only at hSw); go_simp; (try (with_reducible rfl)))
        simp only [Act.put, List.setIfInBounds_toArray, List.set_cons_zero, List.set_cons_succ]
        refine wpAnyH_ready (rs := [13]) (by kernel_rfl) (by simp) ?_
        refine (AllReadyH.cons (o := ?oiC1x14x13) ?hiC1x14x13 (fun K hK => ?gC1x14x13) AllReadyH.nil)
        case hiC1x14x13 => simp only [List.getElem?_toArray, List.getElem?_cons_succ, List.getElem?_cons_zero]; rfl
        case gC1x14x13 =>
          clear hb7
          go_simp
          have c0 := keep_alloc (keep_cell HK10.out C0.out) (.cells #[.string nm, .string ty, .int .i64 u] 49)
          refine hK.out _ _ (⟨keep_alloc hHeld.1 _, keep_alloc hHeld.2 _⟩) (fun hN => ?_)
          clear hK K hHeld
          have hHeld := hN
          clear hN
          try simp only [Act.put, List.setIfInBounds_toArray, List.set_cons_zero, List.set_cons_succ]
          refine wpAnyH_ready (rs := [14]) (by kernel_rfl) (by simp) ?_
          refine (AllReadyH.cons (o := ?oiC1x15x14) ?hiC1x15x14 (fun K hK => ?gC1x15x14) AllReadyH.nil)
          case hiC1x15x14 => simp only [List.getElem?_toArray, List.getElem?_cons_succ, List.getElem?_cons_zero]; rfl
          case gC1x15x14 =>
            refine step_append_lies _ (by rfl) _ _ 31 (by rfl) base 49 i0 (.agg #[.string ⟨#[]⟩, .string ⟨#[]⟩, .int .i64 0]) 3 40 Tryd.underlying31 HI.out.1 HI.out.2.1 HI.out.2.2.1 HI.out.2.2.2 rfl (by omega) (Value.slice a n c) n (flat3 plV pls) (by rfl) (HOW.out _ HK10.out) ⟨v10.heap.size, 0, none⟩ 1 1 [.string nm, .string ty, .int .i64 u] (by rfl) (by rfl) (World.news_of_block (heap_new v10 _)) H1.out (by omega) (by have := HN.out.1; unfold maxLen; omega) (by have := HN.out.1; omega) (by have h9 := HN.out.2; have h8 : W0.heap.size ≤ v10.heap.size := HK10.out.size; have h7 := HW0.out.2.1; rw [World.size_alloc]; omega) (v10.heap.size + 1) (by simp) ?_
            intro g cap w3 hown hgrow hat hlt
            have HQ : Hid ((v10.alloc (.cells ([.string nm, .string ty, .int .i64 u] : List Value).toArray 49)).grownBy w3 (Value.slice a n c).ownBlock ∧ w3.ownsRow base 49 3 (.slice (some ⟨g, 0, none⟩) (n + 1) cap) (n + 1) (flat3 plV pls ++ [.string nm, .string ty, .int .i64 u]) ∧ ((Value.slice a n c).ownBlock = some g ∨ g = v10.heap.size + 1) ∧ g < w3.heap.size) := ⟨hgrow, hown, hat, hlt⟩
            obtain ⟨hB3, hF3⟩ := HFAR.out _ _ HK10.out hgrow
            clear hown hgrow hat hlt
            have y0 := heap_frozen (o := 0) hB3
            have y1 := heap_cell (o := 0) (v := (Value.slice a n c)) hB3 (by rfl)
            refine hK.out _ _ (⟨heap_cell hF3 (by rfl), heap_cell hF3 (by rfl)⟩) (fun hN => ?_)
            clear hK K hHeld
            have hHeld := hN
            clear hN
            try simp only [Act.put, List.setIfInBounds_toArray, List.set_cons_zero, List.set_cons_succ]
            refine wpAnyH_take (i := 15) (oi := ?oiC1x16x15) (v := ?vvC1x16x15) ?hiC1x16x15 (by kernel_rfl) (by kernel_rfl) (by kernel_rfl) ?hqC1x16x15 ?hyC1x16x15 hHeld ?_
            case hiC1x16x15 => simp only [List.getElem?_toArray, List.getElem?_cons_succ, List.getElem?_cons_zero]; rfl
            case hqC1x16x15 => exact fun _ _ _ h => h
            case hyC1x16x15 => (refine Or.inl ⟨by rfl, ?_⟩; intro w' hSw; (try dsimp only at hSw); go_simp; (try (with_reducible rfl)))
            simp only [Act.put, List.setIfInBounds_toArray, List.set_cons_zero, List.set_cons_succ]
            refine wpAnyH_take (i := 16) (oi := ?oiC1x17x16) (v := ?vvC1x17x16) ?hiC1x17x16 (by kernel_rfl) (by kernel_rfl) (by kernel_rfl) ?hqC1x17x16 ?hyC1x17x16 hHeld ?_
            case hiC1x17x16 => simp only [List.getElem?_toArray, List.getElem?_cons_succ, List.getElem?_cons_zero]; rfl
            case hqC1x17x16 => exact fun _ _ _ h => h
            case hyC1x17x16 => (refine Or.inl ⟨by rfl, ?_⟩; intro w' hSw; (try dsimp only at hSw); go_simp; (try (with_reducible rfl)))
            simp only [Act.put, List.setIfInBounds_toArray, List.set_cons_zero, List.set_cons_succ]
            refine wpAnyH_ready (rs := [17]) (by kernel_rfl) (by simp) ?_
            refine (AllReadyH.cons (o := ?oiC1x18x17) ?hiC1x18x17 (fun K hK => ?gC1x18x17) AllReadyH.nil)
            case hiC1x18x17 => simp only [List.getElem?_toArray, List.getElem?_cons_succ, List.getElem?_cons_zero]; rfl
            case gC1x18x17 =>
              go_simp
              refine hK.out _ _ (⟨keep_set2 (heap_cell hF3 (by rfl)) HNE.out, keep_set2 (heap_cell hF3 (by rfl)) HNE.out⟩) (fun hN => ?_)
              clear hK K hHeld
              have hHeld := hN
              clear hN
              try simp only [Act.put, List.setIfInBounds_toArray, List.set_cons_zero, List.set_cons_succ]
              refine wpAnyH_done (by kernel_rfl) ?_ _
              clear hHeld
              have hB4 : (w3.setCell ⟨sb, 0, none⟩ (.slice (some ⟨g, 0, none⟩) (n + 1) cap)).heap[sb]? = some (.cells #[(.slice (some ⟨g, 0, none⟩) (n + 1) cap), .int .i64 sz, .int .i64 al] 71 (0, 0)) := by
                rw [heap_set_same hB3]; rfl
              have HTU : Hid (Turned W0 (w3.setCell ⟨sb, 0, none⟩ (.slice (some ⟨g, 0, none⟩) (n + 1) cap)) sb (Value.slice a n c).ownBlock) := tu_put HQ.out.1 HK10.out
              have HOW3 : Hid ((w3.setCell ⟨sb, 0, none⟩ (.slice (some ⟨g, 0, none⟩) (n + 1) cap)).ownsRow base 49 3 (.slice (some ⟨g, 0, none⟩) (n + 1) cap) (n + 1) (flat3 plV pls ++ [.string nm, .string ty, .int .i64 u]) ∧ ((Value.slice a n c).ownBlock = some g ∨ W0.heap.size ≤ g) ∧ g ≠ sb) := own_put HQ.out.2.1 HQ.out.2.2.1 HK10.out HNS.out
              obtain ⟨W4, hW4⟩ : ∃ W4, W4 = w3.setCell ⟨sb, 0, none⟩ (.slice (some ⟨g, 0, none⟩) (n + 1) cap) := ⟨_, rfl⟩
              rw [← hW4] at hB4 HTU HOW3 ⊢
              clear hW4 HQ hB3 hF3 y0 y1
              have z0 := heap_frozen (o := 1) hB4
              have z1 := heap_frozen (o := 2) hB4
              have z3 := heap_cell (o := 1) (v := .int .i64 sz) hB4 (by rfl)
              have z2 := heap_cell (o := 2) (v := .int .i64 al) hB4 (by rfl)
              go_wp2
              go_ret
              exact ⟨rfl, g, cap, put_end hB4 trivial HOW3.out HNL.out, put_tu HTU.out HW0.out.1, HOW3.out.2.1.imp id (fun h => by have := HW0.out.2.1; omega)⟩
  case gC1x10x7 =>
    go_simp
    refine (HC.out nm HZ.out.1 _).mono ?_
    rintro e v7 ⟨rfl, hb7⟩
    have HK7 : Hid (Below (W0.drew).heap.size W0.drew v7) := hb7
    have c0 := keep_cell HK7.out C0.out
    go_wp2_with fail
    refine hK.out _ _ (⟨keep_cell hb7 hHeld.1, keep_cell hb7 hHeld.2⟩) (fun hN => ?_)
    clear hK K hHeld
    have hHeld := hN
    clear hN
    try simp only [Act.put, List.setIfInBounds_toArray, List.set_cons_zero, List.set_cons_succ]
    refine wpAnyH_ready (rs := [4, 10]) (by kernel_rfl) (by simp) ?_
    refine (AllReadyH.cons (o := ?oiC1x19x4) ?hiC1x19x4 (fun K hK => ?gC1x19x4) (AllReadyH.cons (o := ?oiC1x19x10) ?hiC1x19x10 (fun K hK => ?gC1x19x10) AllReadyH.nil))
    case hiC1x19x4 => simp only [List.getElem?_toArray, List.getElem?_cons_succ, List.getElem?_cons_zero]; rfl
    case hiC1x19x10 => simp only [List.getElem?_toArray, List.getElem?_cons_succ, List.getElem?_cons_zero]; rfl
    case gC1x19x4 =>
      go_simp
      refine hK.out _ _ (hHeld) (fun hN => ?_)
      clear hK K hHeld
      have hHeld := hN
      clear hN
      try simp only [Act.put, List.setIfInBounds_toArray, List.set_cons_zero, List.set_cons_succ]
      refine wpAnyH_ready (rs := [10]) (by kernel_rfl) (by simp) ?_
      refine (AllReadyH.cons (o := ?oiC1x20x10) ?hiC1x20x10 (fun K hK => ?gC1x20x10) AllReadyH.nil)
      case hiC1x20x10 => simp only [List.getElem?_toArray, List.getElem?_cons_succ, List.getElem?_cons_zero]; rfl
      case gC1x20x10 =>
        go_simp
        refine (HC.out ty HZ.out.2 _).mono ?_
        rintro e v10 ⟨rfl, hb10⟩
        have HK10 : Hid (Below (W0.drew).heap.size W0.drew v10) := bel_trans HK7.out hb10
        have c0 := keep_cell HK10.out C0.out
        go_wp2_with fail
        refine hK.out _ _ (⟨keep_cell hb10 hHeld.1, keep_cell hb10 hHeld.2⟩) (fun hN => ?_)
        clear hK K hHeld
        have hHeld := hN
        clear hN
        try simp only [Act.put, List.setIfInBounds_toArray, List.set_cons_zero, List.set_cons_succ]
        refine wpAnyH_take (i := 12) (oi := ?oiC1x21x12) (v := ?vvC1x21x12) ?hiC1x21x12 (by kernel_rfl) (by kernel_rfl) (by kernel_rfl) ?hqC1x21x12 ?hyC1x21x12 hHeld ?_
        case hiC1x21x12 => simp only [List.getElem?_toArray, List.getElem?_cons_succ, List.getElem?_cons_zero]; rfl
        case hqC1x21x12 => exact fun _ _ _ h => h
        case hyC1x21x12 => (refine Or.inl ⟨by rfl, ?_⟩; intro w' hSw; (try dsimp only at hSw); go_simp; (try (with_reducible rfl)))
        simp only [Act.put, List.setIfInBounds_toArray, List.set_cons_zero, List.set_cons_succ]
        refine wpAnyH_ready (rs := [13]) (by kernel_rfl) (by simp) ?_
        refine (AllReadyH.cons (o := ?oiC1x22x13) ?hiC1x22x13 (fun K hK => ?gC1x22x13) AllReadyH.nil)
        case hiC1x22x13 => simp only [List.getElem?_toArray, List.getElem?_cons_succ, List.getElem?_cons_zero]; rfl
        case gC1x22x13 =>
          clear hb7
          go_simp
          have c0 := keep_alloc (keep_cell HK10.out C0.out) (.cells #[.string nm, .string ty, .int .i64 u] 49)
          refine hK.out _ _ (⟨keep_alloc hHeld.1 _, keep_alloc hHeld.2 _⟩) (fun hN => ?_)
          clear hK K hHeld
          have hHeld := hN
          clear hN
          try simp only [Act.put, List.setIfInBounds_toArray, List.set_cons_zero, List.set_cons_succ]
          refine wpAnyH_ready (rs := [14]) (by kernel_rfl) (by simp) ?_
          refine (AllReadyH.cons (o := ?oiC1x23x14) ?hiC1x23x14 (fun K hK => ?gC1x23x14) AllReadyH.nil)
          case hiC1x23x14 => simp only [List.getElem?_toArray, List.getElem?_cons_succ, List.getElem?_cons_zero]; rfl
          case gC1x23x14 =>
            refine step_append_lies _ (by rfl) _ _ 31 (by rfl) base 49 i0 (.agg #[.string ⟨#[]⟩, .string ⟨#[]⟩, .int .i64 0]) 3 40 Tryd.underlying31 HI.out.1 HI.out.2.1 HI.out.2.2.1 HI.out.2.2.2 rfl (by omega) (Value.slice a n c) n (flat3 plV pls) (by rfl) (HOW.out _ HK10.out) ⟨v10.heap.size, 0, none⟩ 1 1 [.string nm, .string ty, .int .i64 u] (by rfl) (by rfl) (World.news_of_block (heap_new v10 _)) H1.out (by omega) (by have := HN.out.1; unfold maxLen; omega) (by have := HN.out.1; omega) (by have h9 := HN.out.2; have h8 : W0.heap.size ≤ v10.heap.size := HK10.out.size; have h7 := HW0.out.2.1; rw [World.size_alloc]; omega) (v10.heap.size + 1) (by simp) ?_
            intro g cap w3 hown hgrow hat hlt
            have HQ : Hid ((v10.alloc (.cells ([.string nm, .string ty, .int .i64 u] : List Value).toArray 49)).grownBy w3 (Value.slice a n c).ownBlock ∧ w3.ownsRow base 49 3 (.slice (some ⟨g, 0, none⟩) (n + 1) cap) (n + 1) (flat3 plV pls ++ [.string nm, .string ty, .int .i64 u]) ∧ ((Value.slice a n c).ownBlock = some g ∨ g = v10.heap.size + 1) ∧ g < w3.heap.size) := ⟨hgrow, hown, hat, hlt⟩
            obtain ⟨hB3, hF3⟩ := HFAR.out _ _ HK10.out hgrow
            clear hown hgrow hat hlt
            have y0 := heap_frozen (o := 0) hB3
            have y1 := heap_cell (o := 0) (v := (Value.slice a n c)) hB3 (by rfl)
            refine hK.out _ _ (⟨heap_cell hF3 (by rfl), heap_cell hF3 (by rfl)⟩) (fun hN => ?_)
            clear hK K hHeld
            have hHeld := hN
            clear hN
            try simp only [Act.put, List.setIfInBounds_toArray, List.set_cons_zero, List.set_cons_succ]
            refine wpAnyH_take (i := 15) (oi := ?oiC1x24x15) (v := ?vvC1x24x15) ?hiC1x24x15 (by kernel_rfl) (by kernel_rfl) (by kernel_rfl) ?hqC1x24x15 ?hyC1x24x15 hHeld ?_
            case hiC1x24x15 => simp only [List.getElem?_toArray, List.getElem?_cons_succ, List.getElem?_cons_zero]; rfl
            case hqC1x24x15 => exact fun _ _ _ h => h
            case hyC1x24x15 => (refine Or.inl ⟨by rfl, ?_⟩; intro w' hSw; (try dsimp only at hSw); go_simp; (try (with_reducible rfl)))
            simp only [Act.put, List.setIfInBounds_toArray, List.set_cons_zero, List.set_cons_succ]
            refine wpAnyH_take (i := 16) (oi := ?oiC1x25x16) (v := ?vvC1x25x16) ?hiC1x25x16 (by kernel_rfl) (by kernel_rfl) (by kernel_rfl) ?hqC1x25x16 ?hyC1x25x16 hHeld ?_
            case hiC1x25x16 => simp only [List.getElem?_toArray, List.getElem?_cons_succ, List.getElem?_cons_zero]; rfl
            case hqC1x25x16 => exact fun _ _ _ h => h
            case hyC1x25x16 => (refine Or.inl ⟨by rfl, ?_⟩; intro w' hSw; (try dsimp only at hSw); go_simp; (try (with_reducible rfl)))
            simp only [Act.put, List.setIfInBounds_toArray, List.set_cons_zero, List.set_cons_succ]
            refine wpAnyH_ready (rs := [17]) (by kernel_rfl) (by simp) ?_
            refine (AllReadyH.cons (o := ?oiC1x26x17) ?hiC1x26x17 (fun K hK => ?gC1x26x17) AllReadyH.nil)
            case hiC1x26x17 => simp only [List.getElem?_toArray, List.getElem?_cons_succ, List.getElem?_cons_zero]; rfl
            case gC1x26x17 =>
              go_simp
              refine hK.out _ _ (⟨keep_set2 (heap_cell hF3 (by rfl)) HNE.out, keep_set2 (heap_cell hF3 (by rfl)) HNE.out⟩) (fun hN => ?_)
              clear hK K hHeld
              have hHeld := hN
              clear hN
              try simp only [Act.put, List.setIfInBounds_toArray, List.set_cons_zero, List.set_cons_succ]
              refine wpAnyH_done (by kernel_rfl) ?_ _
              clear hHeld
              have hB4 : (w3.setCell ⟨sb, 0, none⟩ (.slice (some ⟨g, 0, none⟩) (n + 1) cap)).heap[sb]? = some (.cells #[(.slice (some ⟨g, 0, none⟩) (n + 1) cap), .int .i64 sz, .int .i64 al] 71 (0, 0)) := by
                rw [heap_set_same hB3]; rfl
              have HTU : Hid (Turned W0 (w3.setCell ⟨sb, 0, none⟩ (.slice (some ⟨g, 0, none⟩) (n + 1) cap)) sb (Value.slice a n c).ownBlock) := tu_put HQ.out.1 HK10.out
              have HOW3 : Hid ((w3.setCell ⟨sb, 0, none⟩ (.slice (some ⟨g, 0, none⟩) (n + 1) cap)).ownsRow base 49 3 (.slice (some ⟨g, 0, none⟩) (n + 1) cap) (n + 1) (flat3 plV pls ++ [.string nm, .string ty, .int .i64 u]) ∧ ((Value.slice a n c).ownBlock = some g ∨ W0.heap.size ≤ g) ∧ g ≠ sb) := own_put HQ.out.2.1 HQ.out.2.2.1 HK10.out HNS.out
              obtain ⟨W4, hW4⟩ : ∃ W4, W4 = w3.setCell ⟨sb, 0, none⟩ (.slice (some ⟨g, 0, none⟩) (n + 1) cap) := ⟨_, rfl⟩
              rw [← hW4] at hB4 HTU HOW3 ⊢
              clear hW4 HQ hB3 hF3 y0 y1
              have z0 := heap_frozen (o := 1) hB4
              have z1 := heap_frozen (o := 2) hB4
              have z3 := heap_cell (o := 1) (v := .int .i64 sz) hB4 (by rfl)
              have z2 := heap_cell (o := 2) (v := .int .i64 al) hB4 (by rfl)
              go_wp2
              go_ret
              exact ⟨rfl, g, cap, put_end hB4 trivial HOW3.out HNL.out, put_tu HTU.out HW0.out.1, HOW3.out.2.1.imp id (fun h => by have := HW0.out.2.1; omega)⟩
    case gC1x19x10 =>
      go_simp
      refine (HC.out ty HZ.out.2 _).mono ?_
      rintro e v10 ⟨rfl, hb10⟩
      have HK10 : Hid (Below (W0.drew).heap.size W0.drew v10) := bel_trans HK7.out hb10
      have c0 := keep_cell HK10.out C0.out
      go_wp2_with fail
      refine hK.out _ _ (⟨keep_cell hb10 hHeld.1, keep_cell hb10 hHeld.2⟩) (fun hN => ?_)
      clear hK K hHeld
      have hHeld := hN
      clear hN
      try simp only [Act.put, List.setIfInBounds_toArray, List.set_cons_zero, List.set_cons_succ]
      refine wpAnyH_take (i := 12) (oi := ?oiC1x27x12) (v := ?vvC1x27x12) ?hiC1x27x12 (by kernel_rfl) (by kernel_rfl) (by kernel_rfl) ?hqC1x27x12 ?hyC1x27x12 hHeld ?_
      case hiC1x27x12 => simp only [List.getElem?_toArray, List.getElem?_cons_succ, List.getElem?_cons_zero]; rfl
      case hqC1x27x12 => exact fun _ _ _ h => h
      case hyC1x27x12 => (refine Or.inl ⟨by rfl, ?_⟩; intro w' hSw; (try dsimp only at hSw); go_simp; (try (with_reducible rfl)))
      simp only [Act.put, List.setIfInBounds_toArray, List.set_cons_zero, List.set_cons_succ]
      refine wpAnyH_ready (rs := [4, 13]) (by kernel_rfl) (by simp) ?_
      refine (AllReadyH.cons (o := ?oiC1x28x4) ?hiC1x28x4 (fun K hK => ?gC1x28x4) (AllReadyH.cons (o := ?oiC1x28x13) ?hiC1x28x13 (fun K hK => ?gC1x28x13) AllReadyH.nil))
      case hiC1x28x4 => simp only [List.getElem?_toArray, List.getElem?_cons_succ, List.getElem?_cons_zero]; rfl
      case hiC1x28x13 => simp only [List.getElem?_toArray, List.getElem?_cons_succ, List.getElem?_cons_zero]; rfl
      case gC1x28x4 =>
        go_simp
        refine hK.out _ _ (hHeld) (fun hN => ?_)
        clear hK K hHeld
        have hHeld := hN
        clear hN
        try simp only [Act.put, List.setIfInBounds_toArray, List.set_cons_zero, List.set_cons_succ]
        refine wpAnyH_ready (rs := [13]) (by kernel_rfl) (by simp) ?_
        refine (AllReadyH.cons (o := ?oiC1x29x13) ?hiC1x29x13 (fun K hK => ?gC1x29x13) AllReadyH.nil)
        case hiC1x29x13 => simp only [List.getElem?_toArray, List.getElem?_cons_succ, List.getElem?_cons_zero]; rfl
        case gC1x29x13 =>
          clear hb7
          go_simp
          have c0 := keep_alloc (keep_cell HK10.out C0.out) (.cells #[.string nm, .string ty, .int .i64 u] 49)
          refine hK.out _ _ (⟨keep_alloc hHeld.1 _, keep_alloc hHeld.2 _⟩) (fun hN => ?_)
          clear hK K hHeld
          have hHeld := hN
          clear hN
          try simp only [Act.put, List.setIfInBounds_toArray, List.set_cons_zero, List.set_cons_succ]
          refine wpAnyH_ready (rs := [14]) (by kernel_rfl) (by simp) ?_
          refine (AllReadyH.cons (o := ?oiC1x30x14) ?hiC1x30x14 (fun K hK => ?gC1x30x14) AllReadyH.nil)
          case hiC1x30x14 => simp only [List.getElem?_toArray, List.getElem?_cons_succ, List.getElem?_cons_zero]; rfl
          case gC1x30x14 =>
            refine step_append_lies _ (by rfl) _ _ 31 (by rfl) base 49 i0 (.agg #[.string ⟨#[]⟩, .string ⟨#[]⟩, .int .i64 0]) 3 40 Tryd.underlying31 HI.out.1 HI.out.2.1 HI.out.2.2.1 HI.out.2.2.2 rfl (by omega) (Value.slice a n c) n (flat3 plV pls) (by rfl) (HOW.out _ HK10.out) ⟨v10.heap.size, 0, none⟩ 1 1 [.string nm, .string ty, .int .i64 u] (by rfl) (by rfl) (World.news_of_block (heap_new v10 _)) H1.out (by omega) (by have := HN.out.1; unfold maxLen; omega) (by have := HN.out.1; omega) (by have h9 := HN.out.2; have h8 : W0.heap.size ≤ v10.heap.size := HK10.out.size; have h7 := HW0.out.2.1; rw [World.size_alloc]; omega) (v10.heap.size + 1) (by simp) ?_
            intro g cap w3 hown hgrow hat hlt
            have HQ : Hid ((v10.alloc (.cells ([.string nm, .string ty, .int .i64 u] : List Value).toArray 49)).grownBy w3 (Value.slice a n c).ownBlock ∧ w3.ownsRow base 49 3 (.slice (some ⟨g, 0, none⟩) (n + 1) cap) (n + 1) (flat3 plV pls ++ [.string nm, .string ty, .int .i64 u]) ∧ ((Value.slice a n c).ownBlock = some g ∨ g = v10.heap.size + 1) ∧ g < w3.heap.size) := ⟨hgrow, hown, hat, hlt⟩
            obtain ⟨hB3, hF3⟩ := HFAR.out _ _ HK10.out hgrow
            clear hown hgrow hat hlt
            have y0 := heap_frozen (o := 0) hB3
            have y1 := heap_cell (o := 0) (v := (Value.slice a n c)) hB3 (by rfl)
            refine hK.out _ _ (⟨heap_cell hF3 (by rfl), heap_cell hF3 (by rfl)⟩) (fun hN => ?_)
            clear hK K hHeld
            have hHeld := hN
            clear hN
            try simp only [Act.put, List.setIfInBounds_toArray, List.set_cons_zero, List.set_cons_succ]
            refine wpAnyH_take (i := 15) (oi := ?oiC1x31x15) (v := ?vvC1x31x15) ?hiC1x31x15 (by kernel_rfl) (by kernel_rfl) (by kernel_rfl) ?hqC1x31x15 ?hyC1x31x15 hHeld ?_
            case hiC1x31x15 => simp only [List.getElem?_toArray, List.getElem?_cons_succ, List.getElem?_cons_zero]; rfl
            case hqC1x31x15 => exact fun _ _ _ h => h
            case hyC1x31x15 => (refine Or.inl ⟨by rfl, ?_⟩; intro w' hSw; (try dsimp only at hSw); go_simp; (try (with_reducible rfl)))
            simp only [Act.put, List.setIfInBounds_toArray, List.set_cons_zero, List.set_cons_succ]
            refine wpAnyH_take (i := 16) (oi := ?oiC1x32x16) (v := ?vvC1x32x16) ?hiC1x32x16 (by kernel_rfl) (by kernel_rfl) (by kernel_rfl) ?hqC1x32x16 ?hyC1x32x16 hHeld ?_
            case hiC1x32x16 => simp only [List.getElem?_toArray, List.getElem?_cons_succ, List.getElem?_cons_zero]; rfl
            case hqC1x32x16 => exact fun _ _ _ h => h
            case hyC1x32x16 => (refine Or.inl ⟨by rfl, ?_⟩; intro w' hSw; (try dsimp only at hSw); go_simp; (try (with_reducible rfl)))
            simp only [Act.put, List.setIfInBounds_toArray, List.set_cons_zero, List.set_cons_succ]
            refine wpAnyH_ready (rs := [17]) (by kernel_rfl) (by simp) ?_
            refine (AllReadyH.cons (o := ?oiC1x33x17) ?hiC1x33x17 (fun K hK => ?gC1x33x17) AllReadyH.nil)
            case hiC1x33x17 => simp only [List.getElem?_toArray, List.getElem?_cons_succ, List.getElem?_cons_zero]; rfl
            case gC1x33x17 =>
              go_simp
              refine hK.out _ _ (⟨keep_set2 (heap_cell hF3 (by rfl)) HNE.out, keep_set2 (heap_cell hF3 (by rfl)) HNE.out⟩) (fun hN => ?_)
              clear hK K hHeld
              have hHeld := hN
              clear hN
              try simp only [Act.put, List.setIfInBounds_toArray, List.set_cons_zero, List.set_cons_succ]
              refine wpAnyH_done (by kernel_rfl) ?_ _
              clear hHeld
              have hB4 : (w3.setCell ⟨sb, 0, none⟩ (.slice (some ⟨g, 0, none⟩) (n + 1) cap)).heap[sb]? = some (.cells #[(.slice (some ⟨g, 0, none⟩) (n + 1) cap), .int .i64 sz, .int .i64 al] 71 (0, 0)) := by
                rw [heap_set_same hB3]; rfl
              have HTU : Hid (Turned W0 (w3.setCell ⟨sb, 0, none⟩ (.slice (some ⟨g, 0, none⟩) (n + 1) cap)) sb (Value.slice a n c).ownBlock) := tu_put HQ.out.1 HK10.out
              have HOW3 : Hid ((w3.setCell ⟨sb, 0, none⟩ (.slice (some ⟨g, 0, none⟩) (n + 1) cap)).ownsRow base 49 3 (.slice (some ⟨g, 0, none⟩) (n + 1) cap) (n + 1) (flat3 plV pls ++ [.string nm, .string ty, .int .i64 u]) ∧ ((Value.slice a n c).ownBlock = some g ∨ W0.heap.size ≤ g) ∧ g ≠ sb) := own_put HQ.out.2.1 HQ.out.2.2.1 HK10.out HNS.out
              obtain ⟨W4, hW4⟩ : ∃ W4, W4 = w3.setCell ⟨sb, 0, none⟩ (.slice (some ⟨g, 0, none⟩) (n + 1) cap) := ⟨_, rfl⟩
              rw [← hW4] at hB4 HTU HOW3 ⊢
              clear hW4 HQ hB3 hF3 y0 y1
              have z0 := heap_frozen (o := 1) hB4
              have z1 := heap_frozen (o := 2) hB4
              have z3 := heap_cell (o := 1) (v := .int .i64 sz) hB4 (by rfl)
              have z2 := heap_cell (o := 2) (v := .int .i64 al) hB4 (by rfl)
              go_wp2
              go_ret
              exact ⟨rfl, g, cap, put_end hB4 trivial HOW3.out HNL.out, put_tu HTU.out HW0.out.1, HOW3.out.2.1.imp id (fun h => by have := HW0.out.2.1; omega)⟩
      case gC1x28x13 =>
        clear hb7
        go_simp
        have c0 := keep_alloc (keep_cell HK10.out C0.out) (.cells #[.string nm, .string ty, .int .i64 u] 49)
        refine hK.out _ _ (⟨keep_alloc hHeld.1 _, keep_alloc hHeld.2 _⟩) (fun hN => ?_)
        clear hK K hHeld
        have hHeld := hN
        clear hN
        try simp only [Act.put, List.setIfInBounds_toArray, List.set_cons_zero, List.set_cons_succ]
        refine wpAnyH_ready (rs := [4]) (by kernel_rfl) (by simp) ?_
        refine (AllReadyH.cons (o := ?oiC1x34x4) ?hiC1x34x4 (fun K hK => ?gC1x34x4) AllReadyH.nil)
        case hiC1x34x4 => simp only [List.getElem?_toArray, List.getElem?_cons_succ, List.getElem?_cons_zero]; rfl
        case gC1x34x4 =>
          go_simp
          refine hK.out _ _ (hHeld) (fun hN => ?_)
          clear hK K hHeld
          have hHeld := hN
          clear hN
          try simp only [Act.put, List.setIfInBounds_toArray, List.set_cons_zero, List.set_cons_succ]
          refine wpAnyH_ready (rs := [14]) (by kernel_rfl) (by simp) ?_
          refine (AllReadyH.cons (o := ?oiC1x35x14) ?hiC1x35x14 (fun K hK => ?gC1x35x14) AllReadyH.nil)
          case hiC1x35x14 => simp only [List.getElem?_toArray, List.getElem?_cons_succ, List.getElem?_cons_zero]; rfl
          case gC1x35x14 =>
            refine step_append_lies _ (by rfl) _ _ 31 (by rfl) base 49 i0 (.agg #[.string ⟨#[]⟩, .string ⟨#[]⟩, .int .i64 0]) 3 40 Tryd.underlying31 HI.out.1 HI.out.2.1 HI.out.2.2.1 HI.out.2.2.2 rfl (by omega) (Value.slice a n c) n (flat3 plV pls) (by rfl) (HOW.out _ HK10.out) ⟨v10.heap.size, 0, none⟩ 1 1 [.string nm, .string ty, .int .i64 u] (by rfl) (by rfl) (World.news_of_block (heap_new v10 _)) H1.out (by omega) (by have := HN.out.1; unfold maxLen; omega) (by have := HN.out.1; omega) (by have h9 := HN.out.2; have h8 : W0.heap.size ≤ v10.heap.size := HK10.out.size; have h7 := HW0.out.2.1; rw [World.size_alloc]; omega) (v10.heap.size + 1) (by simp) ?_
            intro g cap w3 hown hgrow hat hlt
            have HQ : Hid ((v10.alloc (.cells ([.string nm, .string ty, .int .i64 u] : List Value).toArray 49)).grownBy w3 (Value.slice a n c).ownBlock ∧ w3.ownsRow base 49 3 (.slice (some ⟨g, 0, none⟩) (n + 1) cap) (n + 1) (flat3 plV pls ++ [.string nm, .string ty, .int .i64 u]) ∧ ((Value.slice a n c).ownBlock = some g ∨ g = v10.heap.size + 1) ∧ g < w3.heap.size) := ⟨hgrow, hown, hat, hlt⟩
            obtain ⟨hB3, hF3⟩ := HFAR.out _ _ HK10.out hgrow
            clear hown hgrow hat hlt
            have y0 := heap_frozen (o := 0) hB3
            have y1 := heap_cell (o := 0) (v := (Value.slice a n c)) hB3 (by rfl)
            refine hK.out _ _ (⟨heap_cell hF3 (by rfl), heap_cell hF3 (by rfl)⟩) (fun hN => ?_)
            clear hK K hHeld
            have hHeld := hN
            clear hN
            try simp only [Act.put, List.setIfInBounds_toArray, List.set_cons_zero, List.set_cons_succ]
            refine wpAnyH_take (i := 15) (oi := ?oiC1x36x15) (v := ?vvC1x36x15) ?hiC1x36x15 (by kernel_rfl) (by kernel_rfl) (by kernel_rfl) ?hqC1x36x15 ?hyC1x36x15 hHeld ?_
            case hiC1x36x15 => simp only [List.getElem?_toArray, List.getElem?_cons_succ, List.getElem?_cons_zero]; rfl
            case hqC1x36x15 => exact fun _ _ _ h => h
            case hyC1x36x15 => (refine Or.inl ⟨by rfl, ?_⟩; intro w' hSw; (try dsimp only at hSw); go_simp; (try (with_reducible rfl)))
            simp only [Act.put, List.setIfInBounds_toArray, List.set_cons_zero, List.set_cons_succ]
            refine wpAnyH_take (i := 16) (oi := ?oiC1x37x16) (v := ?vvC1x37x16) ?hiC1x37x16 (by kernel_rfl) (by kernel_rfl) (by kernel_rfl) ?hqC1x37x16 ?hyC1x37x16 hHeld ?_
            case hiC1x37x16 => simp only [List.getElem?_toArray, List.getElem?_cons_succ, List.getElem?_cons_zero]; rfl
            case hqC1x37x16 => exact fun _ _ _ h => h
            case hyC1x37x16 => (refine Or.inl ⟨by rfl, ?_⟩; intro w' hSw; (try dsimp only at hSw); go_simp; (try (with_reducible rfl)))
            simp only [Act.put, List.setIfInBounds_toArray, List.set_cons_zero, List.set_cons_succ]
            refine wpAnyH_ready (rs := [17]) (by kernel_rfl) (by simp) ?_
            refine (AllReadyH.cons (o := ?oiC1x38x17) ?hiC1x38x17 (fun K hK => ?gC1x38x17) AllReadyH.nil)
            case hiC1x38x17 => simp only [List.getElem?_toArray, List.getElem?_cons_succ, List.getElem?_cons_zero]; rfl
            case gC1x38x17 =>
              go_simp
              refine hK.out _ _ (⟨keep_set2 (heap_cell hF3 (by rfl)) HNE.out, keep_set2 (heap_cell hF3 (by rfl)) HNE.out⟩) (fun hN => ?_)
              clear hK K hHeld
              have hHeld := hN
              clear hN
              try simp only [Act.put, List.setIfInBounds_toArray, List.set_cons_zero, List.set_cons_succ]
              refine wpAnyH_done (by kernel_rfl) ?_ _
              clear hHeld
              have hB4 : (w3.setCell ⟨sb, 0, none⟩ (.slice (some ⟨g, 0, none⟩) (n + 1) cap)).heap[sb]? = some (.cells #[(.slice (some ⟨g, 0, none⟩) (n + 1) cap), .int .i64 sz, .int .i64 al] 71 (0, 0)) := by
                rw [heap_set_same hB3]; rfl
              have HTU : Hid (Turned W0 (w3.setCell ⟨sb, 0, none⟩ (.slice (some ⟨g, 0, none⟩) (n + 1) cap)) sb (Value.slice a n c).ownBlock) := tu_put HQ.out.1 HK10.out
              have HOW3 : Hid ((w3.setCell ⟨sb, 0, none⟩ (.slice (some ⟨g, 0, none⟩) (n + 1) cap)).ownsRow base 49 3 (.slice (some ⟨g, 0, none⟩) (n + 1) cap) (n + 1) (flat3 plV pls ++ [.string nm, .string ty, .int .i64 u]) ∧ ((Value.slice a n c).ownBlock = some g ∨ W0.heap.size ≤ g) ∧ g ≠ sb) := own_put HQ.out.2.1 HQ.out.2.2.1 HK10.out HNS.out
              obtain ⟨W4, hW4⟩ : ∃ W4, W4 = w3.setCell ⟨sb, 0, none⟩ (.slice (some ⟨g, 0, none⟩) (n + 1) cap) := ⟨_, rfl⟩
              rw [← hW4] at hB4 HTU HOW3 ⊢
              clear hW4 HQ hB3 hF3 y0 y1
              have z0 := heap_frozen (o := 1) hB4
              have z1 := heap_frozen (o := 2) hB4
              have z3 := heap_cell (o := 1) (v := .int .i64 sz) hB4 (by rfl)
              have z2 := heap_cell (o := 2) (v := .int .i64 al) hB4 (by rfl)
              go_wp2
              go_ret
              exact ⟨rfl, g, cap, put_end hB4 trivial HOW3.out HNL.out, put_tu HTU.out HW0.out.1, HOW3.out.2.1.imp id (fun h => by have := HW0.out.2.1; omega)⟩

end Go.Proofs.YtpedfnfangaelaaDoor
