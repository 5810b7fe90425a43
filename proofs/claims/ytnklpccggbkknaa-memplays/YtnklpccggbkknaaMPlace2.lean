/- Contracts of place: the walks. -/
import Derived.Test.YtnklpccggbkknaaMPlace
import Derived.Laws.MakeOwn
namespace Go.Proofs.Ytnklpccggbkknaa
open Go.ChangeShapes Go.WideShapes Go.ChangeAt Go.RowKit Pl
set_option linter.unusedSimpArgs false
set_option linter.unusedVariables false

theorem info93 : (Try.prog.info? 91).map (fun i => (i.zero, i.size, i.bytes)) = some (some (.pointer none), 1, 8) := by kernel_rfl
def nilRow (n : Nat) : Array Value := madeCells #[.pointer none] n
theorem nilRow_size (n : Nat) : (nilRow n).size = n := size_madeCells _ _
theorem nilRow_get (n j : Nat) (h : j < n) : (nilRow n)[j]? = some (.pointer none) := by
  rw [Array.getElem?_eq_getElem (by rw [nilRow_size]; exact h)]
  simp [nilRow, madeCells, Nat.mod_one]
theorem make_pages (n : Nat) (hn : n ≤ 1000) (w : World) : (Instr.makeSlice 66 (.int .i64 n) (.int .i64 n)).run Try.prog w = .ok (.slice (some ⟨w.heap.size, 0, none⟩) n n) (w.alloc (.cells (nilRow n) 91)) := by
  obtain ⟨i0, hi, hz0, hz1, hz2⟩ := info_parts info93
  have := run_make (P := Try.prog) w 66 91 i0 (.pointer none) Try.underlying66 hi hz0 .i64 .i64 n n (by omega) (by omega) (by rw [hz2]; omega) (by omega)
  rw [this, hz1]
  simp [nilRow, Value.cells]
set_option maxHeartbeats 1000000 in
theorem place_has (g o b n cap q i r : Nat) (w : World) (c3 : w.cell? ⟨g, o + 3, none⟩ = some (.slice (some ⟨b, 0, none⟩) n cap)) (hr : (i : Int).tmod 64 = r) (r64 : r < 64)
    (HP : Hid (Calls Try.prog 47 #[.pointer (some ⟨g, o, none⟩), .int .i64 i] w fun e w' => e = .returned (.pointer (some ⟨q, 0, none⟩)) ∧ w' = w)) :
    Calls Try.prog 40 #[.pointer (some ⟨g, o, none⟩), .int .i64 i] w fun e w' => e = .returned (.pointer (some ⟨q, r * 6, none⟩)) ∧ w' = w := by
  have q71 := nil71
  have k0 : (0 : Int) ≤ r := by omega
  have k1 : (r : Int) < 64 := by omega
  go_enter Try.func40, Try.ntmps40
  go_wp2_with (go_at_call 47; refine HP.out.mono ?_; rintro e w' ⟨rfl, hw'⟩; replace hw' := hw'.symm; subst hw')
  go_ret
  exact ⟨rfl, rfl⟩
set_option maxHeartbeats 1000000 in
theorem place_page (g o b n cap s j r : Nat) (x : Int) (z : Bool) (w : World) (c0 : w.cell? ⟨g, o, none⟩ = some (.int .i64 s)) (c2 : w.cell? ⟨g, o + 2, none⟩ = some (.bool z)) (c3 : w.cell? ⟨g, o + 3, none⟩ = some (.slice (some ⟨b, 0, none⟩) n cap))
    (hs : s ≤ 65536) (hr : x.tmod 64 = r) (r64 : r < 64) (hj : IntKind.i64.wrap (x.tdiv 64) = j) (hjn : j < n) (hj1 : j ≤ 1000) (cj : w.cell? ⟨b, j, none⟩ = some (.pointer none)) (fj : w.frozen? ⟨b, j, none⟩ = false) (hbg : b ≠ g) :
    Calls Try.prog 40 #[.pointer (some ⟨g, o, none⟩), .int .i64 x] w fun e w' => e = .returned (.pointer (some ⟨w.heap.size, r * 6, none⟩)) ∧
      ∃ w1, Below w.heap.size w w1 ∧ w.heap.size < w1.heap.size ∧ PageIs w1 w.heap.size (fun t => blankF s z (j * 64 + t)) ∧ w' = w1.setCell ⟨b, j, none⟩ (.pointer (some ⟨w.heap.size, 0, none⟩)) := by
  have q71 := nil71
  have k0 : (0 : Int) ≤ r := by omega
  have k1 : (r : Int) < 64 := by omega
  have j0 : (0 : Int) ≤ j := by omega
  have j1 : (j : Int) < n := by omega
  have hj' : wrap64 (x.tdiv 64) = j := by rw [← i64w]; exact hj
  have gl : g < w.heap.size := block_lt_of_cell c0
  have bl : b < w.heap.size := block_lt_of_cell cj
  have HP : Hid (∀ (W : World) (v : Value), W.cell? ⟨g, o + 3, none⟩ = some (.slice (some ⟨b, 0, none⟩) n cap) → W.cell? ⟨b, j, none⟩ = some v → Calls Try.prog 47 #[.pointer (some ⟨g, o, none⟩), .int .i64 x] W fun e w' => e = .returned v ∧ w' = W) :=
    fun W v h3 hv => page_in g o b n cap j x v W h3 hj' hjn hv
  have HB : Hid (∀ (W : World), Below w.heap.size w W → W.heap.size = w.heap.size → Calls Try.prog 53 #[.pointer (some ⟨g, o, none⟩), .int .i64 j] W fun e w' => e = .returned (.pointer (some ⟨w.heap.size, 0, none⟩)) ∧ Below w.heap.size w w' ∧ w.heap.size < w'.heap.size ∧ PageIs w' w.heap.size (fun i => blankF s z (j * 64 + i))) :=
    fun W hW hz => (bp_any g o s j z W (keep_cell hW c0) (keep_cell hW c2) hs hj1).mono fun e w' ⟨h1, h2, h3, h4⟩ => by
      rw [hz] at h1 h2 h3 h4
      exact ⟨h1, hW.trans h2, h3, h4⟩
  have HJ : Hid (wrap64 (x.tdiv 64) = j) := hj'
  go_enter Try.func40, Try.ntmps40
  go_wp2_with (go_at_call 47; refine (HP.out _ _ c3 cj).mono ?_; rintro e w' ⟨rfl, hw'⟩; replace hw' := hw'.symm; subst hw')
  go_region_held3 (fun w' => w'.cell? ⟨g, o + 3, none⟩ = some (.slice (some ⟨b, 0, none⟩) n cap)) ((go_simp; done))
    (first | (go_at_call 53; refine (HB.out _ (by repeat (first | with_reducible exact Below.refl _ _ | assumption | with_reducible refine bel_alloc ?_ _ | with_reducible refine Below.drew ?_ | with_reducible refine bel_drewN ?_ _ | with_reducible refine bel_set ?_ (by go_light; first | (simp; done) | (simp; omega) | omega) _ | refine bel_trans ?_ (by assumption))) (by rfl)).mono ?_; rintro e w1 ⟨rfl, hb1, hz1, hp1⟩; have d3 := keep_cell hb1 c3; have dj := keep_cell hb1 cj; have zj := keep_frozen hb1 cj fj; have HQ : Hid (Below w.heap.size w w1 ∧ w.heap.size < w1.heap.size ∧ PageIs w1 w.heap.size (fun i => blankF s z (j * 64 + i))) := ⟨hb1, hz1, hp1⟩; clear hb1 hp1))
  all_goals
    go_wp2_with (go_at_call 47; refine (HP.out _ (.pointer (some ⟨w.heap.size, 0, none⟩)) (by go_simp) (by go_simp)).mono ?_; rintro e w' ⟨rfl, hw'⟩; replace hw' := hw'.symm; subst hw')
    go_ret
    exact ⟨rfl, w1, HQ.out.1, HQ.out.2.1, HQ.out.2.2, rfl⟩
/-- The block behind its pages' slice is made. -/
def madeW (w : World) (g o n : Nat) : World := (w.setCell ⟨g, o + 3, none⟩ (.slice (some ⟨w.heap.size, 0, none⟩) n n)).alloc (.cells (nilRow n) 91)
set_option maxHeartbeats 1000000 in
theorem place_new (g o n s nw j r : Nat) (x : Int) (z : Bool) (w : World) (c0 : w.cell? ⟨g, o, none⟩ = some (.int .i64 s)) (c2 : w.cell? ⟨g, o + 2, none⟩ = some (.bool z)) (c3 : w.cell? ⟨g, o + 3, none⟩ = some (.slice none 0 0)) (f3 : w.frozen? ⟨g, o + 3, none⟩ = false)
    (hs : s ≤ 65536) (hr : x.tmod 64 = r) (r64 : r < 64) (hj : IntKind.i64.wrap (x.tdiv 64) = j) (hjn : j < n) (hj1 : j ≤ 1000) (hnw : nw = (s + 7) / 8) (hn : ((nw : Int) + 64 - 1) / 64 = n) (hn1 : n ≤ 1000) :
    Calls Try.prog 40 #[.pointer (some ⟨g, o, none⟩), .int .i64 x] w fun e w' => e = .returned (.pointer (some ⟨w.heap.size + 1, r * 6, none⟩)) ∧
      ∃ w1, Below (w.heap.size + 1) (madeW w g o n) w1 ∧ w.heap.size + 1 < w1.heap.size ∧ PageIs w1 (w.heap.size + 1) (fun t => blankF s z (j * 64 + t)) ∧ w' = w1.setCell ⟨w.heap.size, j, none⟩ (.pointer (some ⟨w.heap.size + 1, 0, none⟩)) := by
  have q71 := nil71
  have mk := make_pages n hn1
  have k0 : (0 : Int) ≤ r := by omega
  have k1 : (r : Int) < 64 := by omega
  have j0 : (0 : Int) ≤ j := by omega
  have j1 : (j : Int) < n := by omega
  have nw1 : nw ≤ 8192 := by omega
  have hj' : wrap64 (x.tdiv 64) = j := by rw [← i64w]; exact hj
  have gl : g < w.heap.size := block_lt_of_cell c0
  have hrow := nilRow_get n j hjn
  have WC : Hid (∀ W : World, W.cell? ⟨g, o, none⟩ = some (.int .i64 s) → Calls Try.prog 52 #[.pointer (some ⟨g, o, none⟩)] W fun e w' => e = .returned (.int .i64 nw) ∧ w' = W) := fun W h0 => by
    have := words_any g o s W h0 hs
    rwa [← hnw] at this
  have HP : Hid (∀ (W : World) (v : Value), W.cell? ⟨g, o + 3, none⟩ = some (.slice (some ⟨w.heap.size, 0, none⟩) n n) → W.cell? ⟨w.heap.size, j, none⟩ = some v → Calls Try.prog 47 #[.pointer (some ⟨g, o, none⟩), .int .i64 x] W fun e w' => e = .returned v ∧ w' = W) :=
    fun W v h3 hv => page_in g o w.heap.size n n j x v W h3 hj' hjn hv
  have m0 : (madeW w g o n).cell? ⟨g, o, none⟩ = some (.int .i64 s) := by unfold madeW; go_simp
  have m2 : (madeW w g o n).cell? ⟨g, o + 2, none⟩ = some (.bool z) := by unfold madeW; go_simp
  have m3 : (madeW w g o n).cell? ⟨g, o + 3, none⟩ = some (.slice (some ⟨w.heap.size, 0, none⟩) n n) := by unfold madeW; go_simp
  have mj : (madeW w g o n).cell? ⟨w.heap.size, j, none⟩ = some (.pointer none) := by unfold madeW; go_simp
  have mf : (madeW w g o n).frozen? ⟨w.heap.size, j, none⟩ = false := by unfold madeW; go_simp
  have ms : (madeW w g o n).heap.size = w.heap.size + 1 := by unfold madeW; simp [size_set]
  have HB : Hid (∀ (W : World), Below (madeW w g o n).heap.size (madeW w g o n) W → W.heap.size = (madeW w g o n).heap.size → Calls Try.prog 53 #[.pointer (some ⟨g, o, none⟩), .int .i64 j] W fun e w' => e = .returned (.pointer (some ⟨w.heap.size + 1, 0, none⟩)) ∧ Below (madeW w g o n).heap.size (madeW w g o n) w' ∧ w.heap.size + 1 < w'.heap.size ∧ PageIs w' (w.heap.size + 1) (fun i => blankF s z (j * 64 + i))) :=
    fun W hW hz => (bp_any g o s j z W (keep_cell hW m0) (keep_cell hW m2) hs hj1).mono fun e w' ⟨h1, h2, h3, h4⟩ => by
      rw [hz, ms] at h1 h2 h3 h4
      rw [ms] at hW ⊢
      exact ⟨h1, hW.trans h2, h3, h4⟩
  have M3 : Hid ((madeW w g o n).cell? ⟨g, o + 3, none⟩ = some (.slice (some ⟨w.heap.size, 0, none⟩) n n) ∧ (madeW w g o n).cell? ⟨w.heap.size, j, none⟩ = some (.pointer none) ∧ (madeW w g o n).frozen? ⟨w.heap.size, j, none⟩ = false ∧ (madeW w g o n).heap.size = w.heap.size + 1) := ⟨m3, mj, mf, ms⟩
  clear m0 m2 m3 mj mf ms hnw hn1 hj1 hs
  have fl : Hid (wrap64 (x.tdiv 64) = j) := hj'
  go_enter Try.func40, Try.ntmps40
  go_wp2_with (first
    | (go_at_call 52; refine (WC.out _ (by go_simp)).mono ?_; rintro e w' ⟨rfl, hw'⟩; replace hw' := hw'.symm; subst hw')
    | (go_at_call 47; refine (HP.out _ (.pointer none) (by go_simp) (by go_simp)).mono ?_; rintro e w' ⟨rfl, hw'⟩; subst hw'))
  go_region_held3 (fun w' => w'.cell? ⟨g, o + 3, none⟩ = some (.slice (some ⟨w.heap.size, 0, none⟩) n n)) ((go_simp; done))
    (first | (go_at_call 53; refine (HB.out _ (Below.drew (Below.refl _ (madeW w g o n))) (by rfl)).mono ?_; rintro e w1 ⟨rfl, hb1, hz1, hp1⟩; have d3 := keep_cell hb1 M3.out.1; have dj := keep_cell hb1 M3.out.2.1; have zj := keep_frozen hb1 M3.out.2.1 M3.out.2.2.1; rw [M3.out.2.2.2] at hb1; have HQ : Hid (Below (w.heap.size + 1) (madeW w g o n) w1 ∧ w.heap.size + 1 < w1.heap.size ∧ PageIs w1 (w.heap.size + 1) (fun i => blankF s z (j * 64 + i))) := ⟨hb1, hz1, hp1⟩; clear hb1 hp1))
  all_goals
    go_wp2_with (go_at_call 47; refine (HP.out _ (.pointer (some ⟨w.heap.size + 1, 0, none⟩)) (by go_simp) (by go_simp)).mono ?_; rintro e w' ⟨rfl, hw'⟩; subst hw')
    go_ret
    exact ⟨rfl, w1, HQ.out.1, HQ.out.2.1, HQ.out.2.2, rfl⟩
end Go.Proofs.Ytnklpccggbkknaa
