/- Edges and numbers that came in, opened. -/
import Derived.Test.YtiigfggebpmlnaaGreatDoorFlNI
import Derived.Deep.Slices
import Derived.Deep.SlicePairs
import Derived.Deep.Strs
import Derived.OpenShut
namespace Go.Proofs.YtiigfggebpmlnaaGreatDoor
open Go.ChangeShapes Go.WideShapes Go.ChangeAt Go.RowKit Go.Deep
set_option linter.unusedSimpArgs false
set_option linter.unusedVariables false
set_option maxRecDepth 100000

section
variable {H : Type} {enc : TypeId × Value → H} {w : World}
theorem gcI : Tryz.prog.cellsOf 3 = 1 := by kernel_rfl
theorem gcIs : Tryz.prog.cellsOf 23 = 1 := by kernel_rfl
theorem gcA : Tryz.prog.cellsOf 28 = 2 := by kernel_rfl
theorem gbA : Tryz.prog.bytesOf 28 = 16 := by kernel_rfl
theorem gbI : Tryz.prog.bytesOf 3 = 8 := by kernel_rfl
theorem gspot_none {a : Addr} {v : Value} (h : w.cell? (a.add 0) = some v) : a = ⟨a.block, a.off, none⟩ := by
  obtain ⟨b, off, spot⟩ := a
  have := World.cell?_spot h
  have : spot = none := by simpa [Addr.add] using this
  subst this; rfl
theorem ggetElem?_map_range {α : Type} (f : Nat → α) {n i : Nat} {x : α} (h : ((List.range n).map f)[i]? = some x) : i < n ∧ x = f i := by
  rw [List.getElem?_map] at h
  by_cases hi : i < n
  · rw [List.getElem?_range hi] at h; simp at h; exact ⟨hi, h.symm⟩
  · rw [List.getElem?_eq_none (by simpa using hi)] at h; simp at h
/-- What is read is no heavier than a machine's memory. -/
def GLt (t : TypeId) (d : DataW H) : Prop := ∀ n ∈ d.weights Tryz.prog t, n ≤ reachBytes
theorem gweightsAll_mem {t : TypeId} {n : Nat} : ∀ {l : List (DataW H)} {d : DataW H}, d ∈ l → n ∈ d.weights Tryz.prog t → n ∈ DataW.weightsAll Tryz.prog t l
  | [], d, h, _ => by cases h
  | e :: l, d, h, hn => by
    rw [DataW.weightsAll, List.mem_append]
    rw [List.mem_cons] at h
    rcases h with rfl | h
    · exact .inl hn
    · exact .inr (gweightsAll_mem h hn)
theorem GLt.slice {t e : TypeId} (ht : Tryz.prog.underlying t = some (.slice e)) {es sp : List (DataW H)} (h : GLt t (.slice es sp)) : (es.length + sp.length) * Tryz.prog.bytesOf e ≤ reachBytes ∧ ∀ d ∈ es, GLt e d := by
  constructor
  · exact h _ (by unfold DataW.weights; rw [ht]; exact List.mem_cons_self)
  · intro d hd n hn
    refine h n ?_
    unfold DataW.weights
    rw [ht]
    exact List.mem_cons_of_mem _ (List.mem_append_left _ (gweightsAll_mem hd hn))

theorem gopen_ints {fuel : Nat} {c : Value} {x : DataW H × List MemPlace} (h : DataW.trod enc Tryz.prog w 0 (fun _ => true) true fuel 23 [c] = some x) (hw : GLt 23 x.1) : ∃ l, IL w c l := by
  rcases open_slice Tryz.underlying23 h with ⟨hcs, _⟩ | ⟨a, len, cap, m, nn, D, Pl, hcs, hb, hl, hm, hmm, hx, hall⟩
  · simp at hcs
    subst hcs
    exact ⟨[], none, 0, rfl, by decide, fun _ => ⟨rfl, rfl⟩, fun h => absurd rfl h⟩
  · simp at hcs
    subst hcs hx
    have hlm : len ≤ m := by rw [hmm]; split <;> omega
    obtain ⟨hw1, hw2⟩ := GLt.slice Tryz.underlying23 hw
    rw [gbI] at hw1
    have hr : reachBytes ≤ 140737488355328 := by decide
    have hlen : len * 8 ≤ 140737488355328 := by
      simp only [List.length_map, List.length_range] at hw1
      omega
    have each : ∀ i, i < len → ∃ e : Int, w.cell? (a.add i) = some (.int .i64 e) := fun i hi => by
      obtain ⟨cs', h1, h2⟩ := hall i (by omega)
      rw [gcI] at h1
      obtain ⟨_, hlen, hcell⟩ := World.cells?_some h1
      match cs', hlen with
      | [c0], _ =>
        obtain ⟨z, e0, _, _⟩ := DataW.trod_int Tryz.underlying3 h2
        simp at e0
        subst e0
        have q0 := hcell 0 (by omega)
        rw [add_add] at q0
        exact ⟨z, by simpa using q0⟩
    obtain ⟨E, hE⟩ := choose_lt each
    refine ⟨(List.range len).map E, some a, cap, by simp, by simp; omega, (fun h => by cases h), fun hne => ?_⟩
    have hpos : 0 < len := by
      rcases Nat.eq_zero_or_pos len with h0 | h0
      · exact absurd (by rw [h0]; rfl) hne
      · exact h0
    have ha := gspot_none (hE 0 (by omega))
    refine ⟨a.block, a.off, by rw [← ha], fun i y hy => ?_⟩
    obtain ⟨hi, rfl⟩ := ggetElem?_map_range E hy
    have := hE i (by omega)
    rw [ha, add_plain] at this
    exact this

theorem arr_cells {n : Nat} {cs : List Value} {x : DataW H × List MemPlace} (hl : cs.length = 2) (h : DataW.trod enc Tryz.prog w 0 (fun _ => true) true n 28 cs = some x) : ∃ e : Int × Int, cs[0]? = some (.int .i64 e.1) ∧ cs[1]? = some (.int .i64 e.2) := by
  obtain ⟨xs, k, hk, hxy, _, hxl, hf⟩ := DataW.trod_array Tryz.underlying28 h
  match cs, hl with
  | [c0, c1], _ =>
    have g0 := hf 0 (by omega)
    have g1 := hf 1 (by omega)
    simp only [gcI, Nat.zero_mul, Nat.one_mul, List.drop_zero, List.drop_succ_cons, List.take_succ_cons, List.take_zero] at g0 g1
    match xs, hxl with
    | [y0, y1], _ =>
      simp only [List.getElem?_cons_zero, List.getElem?_cons_succ] at g0 g1
      obtain ⟨a0, e0, _, _⟩ := DataW.trod_int Tryz.underlying3 g0
      obtain ⟨a1, e1, _, _⟩ := DataW.trod_int Tryz.underlying3 g1
      simp at e0 e1
      subst e0 e1
      exact ⟨(a0, a1), rfl, rfl⟩

theorem gopen_edges {fuel : Nat} {c : Value} {x : DataW H × List MemPlace} (h : DataW.trod enc Tryz.prog w 0 (fun _ => true) true fuel 22 [c] = some x) (hw : GLt 22 x.1) : ∃ l, EL w c l := by
  rcases open_slice Tryz.underlying22 h with ⟨hcs, _⟩ | ⟨a, len, cap, m, nn, D, Pl, hcs, hb, hl, hm, hmm, hx, hall⟩
  · simp at hcs
    subst hcs
    exact ⟨[], none, 0, rfl, by decide, fun _ => ⟨rfl, rfl⟩, fun h => absurd rfl h⟩
  · simp at hcs
    subst hcs hx
    have hlm : len ≤ m := by rw [hmm]; split <;> omega
    obtain ⟨hw1, hw2⟩ := GLt.slice Tryz.underlying22 hw
    rw [gbA] at hw1
    have hr : reachBytes ≤ 140737488355328 := by decide
    have hlen : len * 16 ≤ 140737488355328 := by
      simp only [List.length_map, List.length_range] at hw1
      omega
    have each : ∀ i, i < len → ∃ e : Int × Int, w.cell? (a.add (i * 2)) = some (.int .i64 e.1) ∧ w.cell? (a.add (i * 2 + 1)) = some (.int .i64 e.2) := fun i hi => by
      obtain ⟨cs', h1, h2⟩ := hall i (by omega)
      rw [gcA] at h1
      obtain ⟨_, hlen, hcell⟩ := World.cells?_some h1
      obtain ⟨f, e0, e1⟩ := arr_cells hlen h2
      have q0 := hcell 0 (by omega)
      have q1 := hcell 1 (by omega)
      rw [add_add] at q0 q1
      exact ⟨f, by rw [← e0, ← q0, Nat.add_zero], by rw [← e1, ← q1]⟩
    obtain ⟨E, hE⟩ := choose_lt each
    refine ⟨(List.range len).map E, some a, cap, by simp, by simp; omega, (fun h => by cases h), fun hne => ?_⟩
    have hpos : 0 < len := by
      rcases Nat.eq_zero_or_pos len with h0 | h0
      · exact absurd (by rw [h0]; rfl) hne
      · exact h0
    obtain ⟨hz, _⟩ := hE 0 (by omega)
    have ha := gspot_none (by simpa using hz)
    refine ⟨a.block, a.off, by rw [← ha], fun i y hy => ?_⟩
    obtain ⟨hi, rfl⟩ := ggetElem?_map_range E hy
    obtain ⟨k0, k1⟩ := hE i (by omega)
    rw [ha, add_plain] at k0 k1
    exact ⟨k0, by rw [Nat.add_assoc]; exact k1⟩

theorem open_el {r : Reach} {b0 : Nat} {v : Value} {d : DataW H} {p : List MemPlace} (hv : Value.okWide Tryz.prog w r b0 22 v) (h : DataW.Trod enc Tryz.prog w 0 (fun _ => true) true 22 v d p) (hw : GLt 22 d) : ∃ l : List (Int × Int), EL w v l := by
  obtain ⟨a0, len0, cap0, rfl⟩ := okWide_slice Tryz.underlying22 hv
  obtain ⟨fuel, hf0⟩ := h
  have hf : DataW.trod enc Tryz.prog w 0 (fun _ => true) true fuel 22 [.slice a0 len0 cap0] = some (d, p) := hf0
  exact gopen_edges hf hw

theorem open_il {r : Reach} {b0 : Nat} {v : Value} {d : DataW H} {p : List MemPlace} (hv : Value.okWide Tryz.prog w r b0 23 v) (h : DataW.Trod enc Tryz.prog w 0 (fun _ => true) true 23 v d p) (hw : GLt 23 d) : ∃ l : List (Int), IL w v l := by
  obtain ⟨a0, len0, cap0, rfl⟩ := okWide_slice Tryz.underlying23 hv
  obtain ⟨fuel, hf0⟩ := h
  have hf : DataW.trod enc Tryz.prog w 0 (fun _ => true) true fuel 23 [.slice a0 len0 cap0] = some (d, p) := hf0
  exact gopen_ints hf hw

end
end Go.Proofs.YtiigfggebpmlnaaGreatDoor
