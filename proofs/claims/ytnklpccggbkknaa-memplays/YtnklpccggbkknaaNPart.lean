/- Contract of the document's own part: what a byte is. -/
import Derived.Test.YtnklpccggbkknaaNLive
namespace Go.Proofs.Ytnklpccggbkknaa
open Go.ChangeShapes Go.WideShapes Go.ChangeAt Go.RowKit Pl
set_option linter.unusedSimpArgs false
set_option linter.unusedVariables false

/-- What a byte is: its number or its place in a pointer, and the pointer. -/
def partN (N : RM) (x : Int) : Int × V := if x < 1000 then (x, noV) else (1000 + x % 8, (N.ptrs[((x - 1000) / 8).toNat]?).getD noV)
def retPt (y : Int) (v : V) (w : World) : Ending → World → Prop := fun e w' => e = .returned (.tuple #[.int .i64 y, .agg #[.int .i64 v.k, .int .i64 v.n, .int .i64 v.b]]) ∧ Below w.heap.size w w'
theorem end_Pt {P : Program} {fn : Func} {a : Act} {w w' : World} {y : Int} {v : V} (hr : (results fn a.tmps).run P w' = .ok (.tuple #[.int .i64 y, .agg #[.int .i64 v.k, .int .i64 v.n, .int .i64 v.b]]) w') (hd : a.defers = []) (hb : Below w.heap.size w w') :
    bodyPost P fn (retPt y v w) .ret a w' := bodyPost_ret hr hd ⟨rfl, hb⟩
set_option maxHeartbeats 1000000 in
theorem part_low (p : Nat) (x : Int) (w : World) (hx : x < 1000) :
    Calls Try.prog 45 #[.pointer (some ⟨p, 0, none⟩), .int .i64 x] w (retPt x noV w) := by
  go_enter Try.func45, Try.ntmps45
  go_wp2
  exact end_Pt (by simp [results, Try.results45, go_sem, noV]) rfl (by repeat (first | with_reducible exact Below.refl _ _ | with_reducible refine bel_alloc ?_ _ | with_reducible refine bel_set ?_ (by first | exact Nat.le_refl _ | (simp; done) | (simp; omega)) _ | with_reducible refine Below.drew ?_ | refine bel_trans ?_ (by assumption)))
set_option maxHeartbeats 1000000 in
theorem part_high (p n cap g k : Nat) (x d q : Int) (v : V) (w : World) (hx : 1000 ≤ x) (hd : x.tmod 8 = d) (d0 : 0 ≤ d) (d7 : d ≤ 7) (hq : x - 1000 = q) (hqw : wrap64 q = q) (hk : q.tdiv 8 = k) (hkw : wrap64 (k : Int) = k) (k1 : (k : Int) < n)
    (c1 : w.cell? ⟨p, 1, none⟩ = some (.slice (some ⟨g, 0, none⟩) n cap)) (e0 : w.cell? ⟨g, k * 3, none⟩ = some (.int .i64 v.k)) (e1 : w.cell? ⟨g, k * 3 + 1, none⟩ = some (.int .i64 v.n)) (e2 : w.cell? ⟨g, k * 3 + 2, none⟩ = some (.int .i64 v.b)) :
    Calls Try.prog 45 #[.pointer (some ⟨p, 0, none⟩), .int .i64 x] w (retPt (1000 + d) v w) := by
  have k0 : (0 : Int) ≤ k := by omega
  go_enter Try.func45, Try.ntmps45
  have hq3 : IntKind.i64.wrap q = q := by rw [i64w]; exact hqw
  have hk3 : IntKind.i64.wrap (k : Int) = (k : Int) := by rw [i64w]; exact hkw
  have hd3 : IntKind.i64.wrap d = d := by rw [i64w]; unfold wrap64; omega
  have hq' : IntKind.i64.wrap (x - 1000) = q := by rw [i64w, hq]; exact hqw
  have hk' : IntKind.i64.wrap (q.tdiv 8) = (k : Int) := by rw [i64w, hk]; exact hkw
  have hd' : IntKind.i64.wrap (x.tmod 8) = d := by rw [i64w, hd]; unfold wrap64; omega
  have hd2 : IntKind.i64.wrap (1000 + d) = 1000 + d := by rw [i64w]; unfold wrap64; omega
  have pl : p < w.heap.size := block_lt_of_cell c1
  have gl : g < w.heap.size := block_lt_of_cell e0
  go_wp2
  have k2 : k < n := by omega
  have kk : ((k : Int)).toNat = k := by omega
  go_region_held3 (fun w' => w'.cell? ⟨p, 1, none⟩ = some (.slice (some ⟨g, 0, none⟩) n cap) ∧ w'.cell? ⟨g, k * 3, none⟩ = some (.int .i64 v.k) ∧ w'.cell? ⟨g, k * 3 + 1, none⟩ = some (.int .i64 v.n) ∧ w'.cell? ⟨g, k * 3 + 2, none⟩ = some (.int .i64 v.b)) ((go_simp; done)) (fail)
  all_goals
    go_wp2
    exact end_Pt (by simp [results, Try.results45, go_sem, e0, e1, e2]) rfl (by repeat (first | with_reducible exact Below.refl _ _ | with_reducible refine bel_alloc ?_ _ | with_reducible refine bel_set ?_ (by first | exact Nat.le_refl _ | (simp; done) | (simp; omega)) _ | with_reducible refine Below.drew ?_ | refine bel_trans ?_ (by assumption)))
theorem part_any {w : World} {base p : Nat} {R : Nat → Option Role} {N : RM} (h : RMem w base p R N) (x : Int) (hx : x < 1000 ∨ ((x - 1000) / 8).toNat < N.ptrs.length) (hb : x < 9000000000000000000) :
    Calls Try.prog 45 #[.pointer (some ⟨p, 0, none⟩), .int .i64 x] w (retPt (partN N x).1 (partN N x).2 w) := by
  obtain ⟨a, cap, g, cur, a2, cap2, g2, cur2, h⟩ := h
  by_cases h1 : x < 1000
  · have e : partN N x = (x, noV) := by simp [partN, h1]
    rw [e]
    exact part_low p x w h1
  · have hl : ((x - 1000) / 8).toNat < N.ptrs.length := hx.resolve_left h1
    obtain ⟨k, hk⟩ : ∃ k : Nat, (x - 1000) / 8 = k := ⟨((x - 1000) / 8).toNat, by omega⟩
    rw [hk, Int.toNat_natCast] at hl
    have hv := List.getElem?_eq_getElem hl
    have e : partN N x = (1000 + x % 8, N.ptrs[k]) := by
      unfold partN
      rw [if_neg h1, hk, Int.toNat_natCast, hv]
      rfl
    rw [e]
    rcases h.pts with ⟨h2, _⟩ | ⟨h2, _, h3, _⟩
    · rw [h2] at hl; simp at hl
    · subst h2
      obtain ⟨e0, e1, e2⟩ := h.ptr k _ hv
      exact part_high p _ cap2 g2 k x (x % 8) (x - 1000) _ w (by omega) (Int.tmod_eq_emod_of_nonneg (by omega)) (by omega) (by omega) rfl (by unfold wrap64; omega) (by rw [Int.tdiv_eq_ediv_of_nonneg (by omega), hk]) (by unfold wrap64; omega) (by omega) h.c1 (heap_cell h3 e0) (heap_cell h3 e1) (heap_cell h3 e2)
end Go.Proofs.Ytnklpccggbkknaa
