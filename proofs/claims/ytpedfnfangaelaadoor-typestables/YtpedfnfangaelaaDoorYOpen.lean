/- The structs that came in, opened. -/
import Derived.Test.YtpedfnfangaelaaDoorYFrame
import Derived.Deep.Slices
import Derived.Deep.SlicePairs
namespace Go.Proofs.YtpedfnfangaelaaDoor
open Go.ChangeShapes Go.WideShapes Go.ChangeAt Go.RowKit Go.Joins Go.Deep
set_option linter.unusedSimpArgs false
set_option linter.unusedVariables false

section
variable {H : Type} {enc : TypeId × Value → H} {w : World}
instance : Inhabited Fd := ⟨⟨⟨#[]⟩, ⟨#[]⟩⟩⟩
instance : Inhabited St := ⟨⟨⟨#[]⟩, []⟩⟩
theorem cells9 : Tryd.prog.cellsOf 9 = 1 := by kernel_rfl
theorem cellsFd : Tryd.prog.cellsOf 51 = 2 := by kernel_rfl
theorem cellsSt : Tryd.prog.cellsOf 40 = 2 := by kernel_rfl
theorem cellsFs : Tryd.prog.cellsOf 38 = 1 := by kernel_rfl
theorem bytesFd : Tryd.prog.bytesOf 51 = 32 := by kernel_rfl
theorem bytesSt : Tryd.prog.bytesOf 40 = 40 := by kernel_rfl
theorem bytes9 : Tryd.prog.bytesOf 9 = 16 := by kernel_rfl
theorem spot_none {a : Addr} {v : Value} (h : w.cell? (a.add 0) = some v) : a = ⟨a.block, a.off, none⟩ := by
  obtain ⟨b, off, spot⟩ := a
  have := World.cell?_spot h
  have : spot = none := by simpa [Addr.add] using this
  subst this; rfl
theorem getElem?_map_range {α : Type} (f : Nat → α) {n i : Nat} {x : α} (h : ((List.range n).map f)[i]? = some x) : i < n ∧ x = f i := by
  rw [List.getElem?_map] at h
  by_cases hi : i < n
  · rw [List.getElem?_range hi] at h; simp at h; exact ⟨hi, h.symm⟩
  · rw [List.getElem?_eq_none (by simpa using hi)] at h; simp at h
/-- What is read is no heavier than a machine's memory. -/
def Lt (t : TypeId) (d : DataW H) : Prop := ∀ n ∈ d.weights Tryd.prog t, n ≤ reachBytes
theorem weightsAll_mem {t : TypeId} {n : Nat} : ∀ {l : List (DataW H)} {d : DataW H}, d ∈ l → n ∈ d.weights Tryd.prog t → n ∈ DataW.weightsAll Tryd.prog t l
  | [], d, h, _ => by cases h
  | e :: l, d, h, hn => by
    rw [DataW.weightsAll, List.mem_append]
    rw [List.mem_cons] at h
    rcases h with rfl | h
    · exact .inl hn
    · exact .inr (weightsAll_mem h hn)
theorem Lt.slice {t e : TypeId} (ht : Tryd.prog.underlying t = some (.slice e)) {es sp : List (DataW H)} (h : Lt t (.slice es sp)) : (es.length + sp.length) * Tryd.prog.bytesOf e ≤ reachBytes ∧ ∀ d ∈ es, Lt e d := by
  constructor
  · exact h _ (by unfold DataW.weights; rw [ht]; exact List.mem_cons_self)
  · intro d hd n hn
    refine h n ?_
    unfold DataW.weights
    rw [ht]
    exact List.mem_cons_of_mem _ (List.mem_append_left _ (weightsAll_mem hd hn))
set_option maxRecDepth 100000 in
theorem fd_cells {n : Nat} {cs : List Value} {x : DataW H × List MemPlace} (hl : cs.length = 2) (h : DataW.trod enc Tryd.prog w 0 (fun _ => true) true n 51 cs = some x) (hw : Lt 51 x.1) :
    ∃ f : Fd, cs[0]? = some (.string f.name) ∧ cs[1]? = some (.string f.typ) ∧ f.name.size ≤ 281474976710656 ∧ f.typ.size ≤ 281474976710656 := by
  obtain ⟨xs, k, hk, hxy, _, hxl, hf⟩ := DataW.trod_struct Tryd.underlying51 h
  match cs, hl with
  | [c0, c1], _ =>
    have g0 := hf 0 _ rfl
    have g1 := hf 1 _ rfl
    simp only [List.getElem_toArray, List.getElem_cons_zero, List.getElem_cons_succ, cells9, List.drop_zero, List.drop_succ_cons, List.take_succ_cons, List.take_zero] at g0 g1
    match xs, hxl with
    | [y0, y1], _ =>
      simp only [List.getElem?_cons_zero, List.getElem?_cons_succ] at g0 g1
      obtain ⟨a, e0, f0, _⟩ := DataW.trod_string Tryd.underlying9 g0
      obtain ⟨b, e1, f1, _⟩ := DataW.trod_string Tryd.underlying9 g1
      simp at e0 e1
      subst e0 e1 f0 f1
      subst hxy
      have hr : reachBytes ≤ 281474976710656 := by decide
      have h0 := hw a.data.toList.length (by simp [DataW.weights, DataW.weightsEach, Tryd.underlying51])
      have h1 := hw b.data.toList.length (by simp [DataW.weights, DataW.weightsEach, Tryd.underlying51])
      exact ⟨⟨a, b⟩, rfl, rfl, Nat.le_trans h0 hr, Nat.le_trans h1 hr⟩
theorem open_fds {fuel : Nat} {c : Value} {x : DataW H × List MemPlace} (h : DataW.trod enc Tryd.prog w 0 (fun _ => true) true fuel 38 [c] = some x) (hw : Lt 38 x.1) : ∃ l, FdAt w c l ∧ FdS l := by
  rcases open_slice Tryd.underlying38 h with ⟨hcs, _⟩ | ⟨a, len, cap, m, n, D, Pl, hcs, hb, hl, hm, hmm, hx, hall⟩
  · simp at hcs
    subst hcs
    exact ⟨[], ⟨none, 0, rfl, by decide, fun h => absurd rfl h⟩, fun y hy => by cases hy⟩
  · simp at hcs
    subst hcs hx
    have hlm : len ≤ m := by rw [hmm]; split <;> omega
    obtain ⟨hw1, hw2⟩ := Lt.slice Tryd.underlying38 hw
    rw [bytesFd] at hw1
    have hr : reachBytes ≤ 140737488355328 := by decide
    have hlen : len * 32 ≤ 140737488355328 := by
      simp only [List.length_map, List.length_range] at hw1
      omega
    have each : ∀ i, i < len → ∃ f : Fd, w.cell? (a.add (i * 2)) = some (.string f.name) ∧ w.cell? (a.add (i * 2 + 1)) = some (.string f.typ) ∧ f.name.size ≤ 281474976710656 ∧ f.typ.size ≤ 281474976710656 := fun i hi => by
      obtain ⟨cs', h1, h2⟩ := hall i (by omega)
      rw [cellsFd] at h1
      obtain ⟨_, hlen, hcell⟩ := World.cells?_some h1
      obtain ⟨f, e0, e1, s0, s1⟩ := fd_cells hlen h2 (hw2 _ (List.mem_map.2 ⟨i, by simpa using hi, rfl⟩))
      have q0 := hcell 0 (by omega)
      have q1 := hcell 1 (by omega)
      rw [add_add] at q0 q1
      exact ⟨f, by rw [← e0, ← q0, Nat.add_zero], by rw [← e1, ← q1], s0, s1⟩
    obtain ⟨E, hE⟩ := choose_lt each
    refine ⟨(List.range len).map E, ⟨some a, cap, by simp, by simp; omega, fun hne => ?_⟩, fun y hy => ?_⟩
    · have hpos : 0 < len := by
        rcases Nat.eq_zero_or_pos len with h0 | h0
        · exact absurd (by rw [h0]; rfl) hne
        · exact h0
      have ha := spot_none (hE 0 (by omega)).1
      refine ⟨a.block, a.off, by rw [← ha], fun i y hy => ?_⟩
      obtain ⟨hi, rfl⟩ := getElem?_map_range E hy
      have := hE i (by omega)
      rw [ha, add_plain, add_plain] at this
      exact ⟨this.1, by rw [Nat.add_assoc]; exact this.2.1⟩
    · simp only [List.mem_map, List.mem_range] at hy
      obtain ⟨i, hi, rfl⟩ := hy
      exact ⟨(hE i (by omega)).2.2.1, (hE i (by omega)).2.2.2⟩
set_option maxRecDepth 100000 in
theorem st_cells {n : Nat} {cs : List Value} {x : DataW H × List MemPlace} (hl : cs.length = 2) (h : DataW.trod enc Tryd.prog w 0 (fun _ => true) true n 40 cs = some x) (hw : Lt 40 x.1) :
    ∃ s : St, cs[0]? = some (.string s.name) ∧ (∃ fv, cs[1]? = some fv ∧ FdAt w fv s.fields) ∧ s.name.size ≤ 281474976710656 ∧ FdS s.fields := by
  obtain ⟨xs, k, hk, hxy, _, hxl, hf⟩ := DataW.trod_struct Tryd.underlying40 h
  match cs, hl with
  | [c0, c1], _ =>
    have g0 := hf 0 _ rfl
    have g1 := hf 1 _ rfl
    simp only [List.getElem_toArray, List.getElem_cons_zero, List.getElem_cons_succ, cells9, cellsFs, List.drop_zero, List.drop_succ_cons, List.take_succ_cons, List.take_zero] at g0 g1
    match xs, hxl with
    | [y0, y1], _ =>
      simp only [List.getElem?_cons_zero, List.getElem?_cons_succ] at g0 g1
      obtain ⟨a, e0, f0, _⟩ := DataW.trod_string Tryd.underlying9 g0
      subst hxy
      have hw1 : Lt 38 y1.1 := fun m hm => hw m (by
        simp only [DataW.weights, DataW.weightsEach, Tryd.underlying40, List.map_cons, List.map_nil, List.mem_append]
        exact .inr (.inl hm))
      obtain ⟨l, h1, h2⟩ := open_fds g1 hw1
      simp at e0
      subst e0 f0
      have hr : reachBytes ≤ 281474976710656 := by decide
      have h0 := hw a.data.toList.length (by simp [DataW.weights, DataW.weightsEach, Tryd.underlying40])
      exact ⟨⟨a, l⟩, rfl, ⟨c1, rfl, h1⟩, Nat.le_trans h0 hr, h2⟩
/-- Structs that came in. -/
theorem open_sts {fuel : Nat} {c : Value} {x : DataW H × List MemPlace} (h : DataW.trod enc Tryd.prog w 0 (fun _ => true) true fuel 27 [c] = some x) (hw : Lt 27 x.1) : ∃ l, StAt w c l ∧ StS l := by
  rcases open_slice Tryd.underlying27 h with ⟨hcs, _⟩ | ⟨a, len, cap, m, n, D, Pl, hcs, hb, hl, hm, hmm, hx, hall⟩
  · simp at hcs
    subst hcs
    exact ⟨[], ⟨none, 0, rfl, by decide, fun h => absurd rfl h⟩, fun y hy => by cases hy⟩
  · simp at hcs
    subst hcs hx
    have hlm : len ≤ m := by rw [hmm]; split <;> omega
    obtain ⟨hw1, hw2⟩ := Lt.slice Tryd.underlying27 hw
    rw [bytesSt] at hw1
    have hr : reachBytes ≤ 140737488355328 := by decide
    have hlen : len * 40 ≤ 140737488355328 := by
      simp only [List.length_map, List.length_range] at hw1
      omega
    have each : ∀ i, i < len → ∃ s : St, w.cell? (a.add (i * 2)) = some (.string s.name) ∧ (∃ fv, w.cell? (a.add (i * 2 + 1)) = some fv ∧ FdAt w fv s.fields) ∧ s.name.size ≤ 281474976710656 ∧ FdS s.fields := fun i hi => by
      obtain ⟨cs', h1, h2⟩ := hall i (by omega)
      rw [cellsSt] at h1
      obtain ⟨_, hlen, hcell⟩ := World.cells?_some h1
      obtain ⟨s, e0, ⟨fv, e1, e2⟩, s0, s1⟩ := st_cells hlen h2 (hw2 _ (List.mem_map.2 ⟨i, by simpa using hi, rfl⟩))
      have q0 := hcell 0 (by omega)
      have q1 := hcell 1 (by omega)
      rw [add_add] at q0 q1
      exact ⟨s, by rw [← e0, ← q0, Nat.add_zero], ⟨fv, by rw [← e1, ← q1], e2⟩, s0, s1⟩
    obtain ⟨E, hE⟩ := choose_lt each
    refine ⟨(List.range len).map E, ⟨some a, cap, by simp, by simp; omega, fun hne => ?_⟩, fun y hy => ?_⟩
    · have hpos : 0 < len := by
        rcases Nat.eq_zero_or_pos len with h0 | h0
        · exact absurd (by rw [h0]; rfl) hne
        · exact h0
      have ha := spot_none (hE 0 (by omega)).1
      refine ⟨a.block, a.off, by rw [← ha], fun i y hy => ?_⟩
      obtain ⟨hi, rfl⟩ := getElem?_map_range E hy
      have := hE i (by omega)
      rw [ha, add_plain, add_plain] at this
      exact ⟨this.1, by rw [Nat.add_assoc]; exact this.2.1⟩
    · simp only [List.mem_map, List.mem_range] at hy
      obtain ⟨i, hi, rfl⟩ := hy
      exact (hE i (by omega)).2.2
set_option maxRecDepth 100000 in
theorem open_sl {r : Reach} {b0 : Nat} {v : Value} {d : DataW H} {p : List MemPlace} (hv : Value.okWide Tryd.prog w r b0 27 v) (h : DataW.Trod enc Tryd.prog w 0 (fun _ => true) true 27 v d p) (hw : Lt 27 d) : ∃ l, StAt w v l ∧ StS l := by
  obtain ⟨a0, len, cap, rfl⟩ := okWide_slice Tryd.underlying27 hv
  obtain ⟨fuel, hf⟩ := h
  exact open_sts hf hw
end
end Go.Proofs.YtpedfnfangaelaaDoor
