/- A program that came in, opened. -/
import Derived.Test.YtofnnpchobgapaaGreatDoorAsB
import Derived.Deep.Slices
import Derived.Deep.SlicePairs
import Derived.Deep.Strs
import Derived.OpenShut
namespace Go.Proofs.YtofnnpchobgapaaGreatDoor
open Go.ChangeShapes Go.WideShapes Go.ChangeAt Go.RowKit Go.Deep
set_option linter.unusedSimpArgs false
set_option linter.unusedVariables false

section
variable {H : Type} {enc : TypeId × Value → H} {w : World}
theorem gcS : Tryz.prog.cellsOf 9 = 1 := by kernel_rfl
theorem gcI : Tryz.prog.cellsOf 3 = 1 := by kernel_rfl
theorem gcL : Tryz.prog.cellsOf 2 = 1 := by kernel_rfl
theorem gcIs : Tryz.prog.cellsOf 22 = 1 := by kernel_rfl
theorem gcCs : Tryz.prog.cellsOf 42 = 1 := by kernel_rfl
theorem gcFs : Tryz.prog.cellsOf 23 = 1 := by kernel_rfl
theorem gcIn : Tryz.prog.cellsOf 46 = 7 := by kernel_rfl
theorem gcFn : Tryz.prog.cellsOf 44 = 2 := by kernel_rfl
theorem gcPg : Tryz.prog.cellsOf 25 = 4 := by kernel_rfl
theorem gbI : Tryz.prog.bytesOf 3 = 8 := by kernel_rfl
theorem gbIn : Tryz.prog.bytesOf 46 = 56 := by kernel_rfl
theorem gbFn : Tryz.prog.bytesOf 44 = 40 := by kernel_rfl
theorem gspot_none {a : Addr} {v : Value} (h : w.cell? (a.add 0) = some v) : a = ⟨a.block, a.off, none⟩ := by
  obtain ⟨b, off, spot⟩ := a
  have := World.cell?_spot h
  have : spot = none := by simpa [Addr.add] using this
  subst this; rfl
theorem ggetElem?_map_range {α : Type} (f : Nat → α) {n i : Nat} {x : α} (h : ((List.range n).map f)[i]? = some x) : i < n ∧ x = f i := by
  rw [List.getElem?_map] at h
  by_cases hi : i < n
  · rw [List.getElem?_range hi] at h; simp at h; exact ⟨hi, h.symm⟩
  · rw [List.getElem?_eq_none (by simpa using hi)] at h; simp at h
/-- What is read is no heavier than a machine's memory. -/
def GLt (t : TypeId) (d : DataW H) : Prop := ∀ n ∈ d.weights Tryz.prog t, n ≤ reachBytes
theorem gweightsAll_mem {t : TypeId} {n : Nat} : ∀ {l : List (DataW H)} {d : DataW H}, d ∈ l → n ∈ d.weights Tryz.prog t → n ∈ DataW.weightsAll Tryz.prog t l
  | [], d, h, _ => by cases h
  | e :: l, d, h, hn => by
    rw [DataW.weightsAll, List.mem_append]
    rw [List.mem_cons] at h
    rcases h with rfl | h
    · exact .inl hn
    · exact .inr (gweightsAll_mem h hn)
theorem GLt.slice {t e : TypeId} (ht : Tryz.prog.underlying t = some (.slice e)) {es sp : List (DataW H)} (h : GLt t (.slice es sp)) : (es.length + sp.length) * Tryz.prog.bytesOf e ≤ reachBytes ∧ ∀ d ∈ es, GLt e d := by
  constructor
  · exact h _ (by unfold DataW.weights; rw [ht]; exact List.mem_cons_self)
  · intro d hd n hn
    refine h n ?_
    unfold DataW.weights
    rw [ht]
    exact List.mem_cons_of_mem _ (List.mem_append_left _ (gweightsAll_mem hd hn))

theorem gopen_ints {fuel : Nat} {c : Value} {x : DataW H × List MemPlace} (h : DataW.trod enc Tryz.prog w 0 (fun _ => true) true fuel 22 [c] = some x) (hw : GLt 22 x.1) : ∃ l, IL w c l := by
  rcases open_slice Tryz.underlying22 h with ⟨hcs, _⟩ | ⟨a, len, cap, m, nn, D, Pl, hcs, hb, hl, hm, hmm, hx, hall⟩
  · simp at hcs
    subst hcs
    exact ⟨[], none, 0, rfl, by decide, fun _ => ⟨rfl, rfl⟩, fun h => absurd rfl h⟩
  · simp at hcs
    subst hcs hx
    have hlm : len ≤ m := by rw [hmm]; split <;> omega
    obtain ⟨hw1, hw2⟩ := GLt.slice Tryz.underlying22 hw
    rw [gbI] at hw1
    have hr : reachBytes ≤ 140737488355328 := by decide
    have hlen : len * 8 ≤ 140737488355328 := by
      simp only [List.length_map, List.length_range] at hw1
      omega
    have each : ∀ i, i < len → ∃ e : Int, w.cell? (a.add i) = some (.int .i64 e) := fun i hi => by
      obtain ⟨cs', h1, h2⟩ := hall i (by omega)
      rw [gcI] at h1
      obtain ⟨_, hlen, hcell⟩ := World.cells?_some h1
      match cs', hlen with
      | [c0], _ =>
        obtain ⟨z, e0, _, _⟩ := DataW.trod_int Tryz.underlying3 h2
        simp at e0
        subst e0
        have q0 := hcell 0 (by omega)
        rw [add_add] at q0
        exact ⟨z, by simpa using q0⟩
    obtain ⟨E, hE⟩ := choose_lt each
    refine ⟨(List.range len).map E, some a, cap, by simp, by simp; omega, (fun h => by cases h), fun hne => ?_⟩
    have hpos : 0 < len := by
      rcases Nat.eq_zero_or_pos len with h0 | h0
      · exact absurd (by rw [h0]; rfl) hne
      · exact h0
    have ha := gspot_none (hE 0 (by omega))
    refine ⟨a.block, a.off, by rw [← ha], fun i y hy => ?_⟩
    obtain ⟨hi, rfl⟩ := ggetElem?_map_range E hy
    have := hE i (by omega)
    rw [ha, add_plain] at this
    exact this

theorem gwE {t : TypeId} {fs : Array Field} (ht : Tryz.prog.underlying t = some (.struct fs)) {ds : List (DataW H)} (h : GLt t (.agg ds)) : ∀ n ∈ DataW.weightsEach Tryz.prog (fs.toList.map (·.type)) ds, n ≤ reachBytes := fun n hn => h n (by simp only [DataW.weights, ht]; exact hn)
set_option maxRecDepth 100000 in
theorem ains_cells {n : Nat} {cs : List Value} {x : DataW H × List MemPlace} (hl : cs.length = 7) (h : DataW.trod enc Tryz.prog w 0 (fun _ => true) true n 46 cs = some x) :
    ∃ i : AIns, cs[0]? = some (.int .i64 i.op) ∧ cs[1]? = some (.int .i64 i.r) ∧ cs[2]? = some (.int .i64 i.m) ∧ cs[3]? = some (.int .i64 i.sub) ∧ cs[4]? = some (.int .i64 i.cc) ∧ cs[5]? = some (.int .i64 i.l) ∧ cs[6]? = some (.int .i64 i.k) := by
  obtain ⟨xs, k, hk, hxy, _, hxl, hf⟩ := DataW.trod_struct Tryz.underlying46 h
  match cs, hl with
  | [c0, c1, c2, c3, c4, c5, c6], _ =>
    have g0 := hf 0 _ rfl
    have g1 := hf 1 _ rfl
    have g2 := hf 2 _ rfl
    have g3 := hf 3 _ rfl
    have g4 := hf 4 _ rfl
    have g5 := hf 5 _ rfl
    have g6 := hf 6 _ rfl
    simp only [List.getElem_toArray, List.getElem_cons_zero, List.getElem_cons_succ, gcI, gcL, List.drop_zero, List.drop_succ_cons, List.take_succ_cons, List.take_zero] at g0 g1 g2 g3 g4 g5 g6
    match xs, hxl with
    | [y0, y1, y2, y3, y4, y5, y6], _ =>
      simp only [List.getElem?_cons_zero, List.getElem?_cons_succ] at g0 g1 g2 g3 g4 g5 g6
      obtain ⟨a0, e0, _, _⟩ := DataW.trod_int Tryz.underlying3 g0
      obtain ⟨a1, e1, _, _⟩ := DataW.trod_int Tryz.underlying3 g1
      obtain ⟨a2, e2, _, _⟩ := DataW.trod_int Tryz.underlying3 g2
      obtain ⟨a3, e3, _, _⟩ := DataW.trod_int Tryz.underlying3 g3
      obtain ⟨a4, e4, _, _⟩ := DataW.trod_int Tryz.underlying3 g4
      obtain ⟨a5, e5, _, _⟩ := DataW.trod_int Tryz.underlying3 g5
      obtain ⟨a6, e6, _, _⟩ := DataW.trod_int Tryz.underlying2 g6
      simp at e0 e1 e2 e3 e4 e5 e6
      subst e0 e1 e2 e3 e4 e5 e6
      exact ⟨⟨a0, a1, a2, a3, a4, a5, a6⟩, rfl, rfl, rfl, rfl, rfl, rfl, rfl⟩

theorem gopen_acode {fuel : Nat} {c : Value} {x : DataW H × List MemPlace} (h : DataW.trod enc Tryz.prog w 0 (fun _ => true) true fuel 42 [c] = some x) (hw : GLt 42 x.1) : ∃ l, ACodeAt w c l := by
  rcases open_slice Tryz.underlying42 h with ⟨hcs, _⟩ | ⟨a, len, cap, m, nn, D, Pl, hcs, hb, hl, hm, hmm, hx, hall⟩
  · simp at hcs
    subst hcs
    exact ⟨[], none, 0, rfl, by decide, fun _ => ⟨rfl, rfl⟩, fun h => absurd rfl h⟩
  · simp at hcs
    subst hcs hx
    have hlm : len ≤ m := by rw [hmm]; split <;> omega
    obtain ⟨hw1, hw2⟩ := GLt.slice Tryz.underlying42 hw
    rw [gbIn] at hw1
    have hr : reachBytes ≤ 140737488355328 := by decide
    have hlen : len * 56 ≤ 140737488355328 := by
      simp only [List.length_map, List.length_range] at hw1
      omega
    have each : ∀ i, i < len → ∃ e : AIns, w.cell? (a.add (i * 7)) = some (.int .i64 e.op) ∧ w.cell? (a.add (i * 7 + 1)) = some (.int .i64 e.r) ∧ w.cell? (a.add (i * 7 + 2)) = some (.int .i64 e.m) ∧ w.cell? (a.add (i * 7 + 3)) = some (.int .i64 e.sub) ∧ w.cell? (a.add (i * 7 + 4)) = some (.int .i64 e.cc) ∧ w.cell? (a.add (i * 7 + 5)) = some (.int .i64 e.l) ∧ w.cell? (a.add (i * 7 + 6)) = some (.int .i64 e.k) := fun i hi => by
      obtain ⟨cs', h1, h2⟩ := hall i (by omega)
      rw [gcIn] at h1
      obtain ⟨_, hlen, hcell⟩ := World.cells?_some h1
      obtain ⟨f, e0, e1, e2, e3, e4, e5, e6⟩ := ains_cells hlen h2
      have q0 := hcell 0 (by omega)
      have q1 := hcell 1 (by omega)
      have q2 := hcell 2 (by omega)
      have q3 := hcell 3 (by omega)
      have q4 := hcell 4 (by omega)
      have q5 := hcell 5 (by omega)
      have q6 := hcell 6 (by omega)
      rw [add_add] at q0 q1 q2 q3 q4 q5 q6
      exact ⟨f, by rw [← e0, ← q0, Nat.add_zero], by rw [← e1, ← q1], by rw [← e2, ← q2], by rw [← e3, ← q3], by rw [← e4, ← q4], by rw [← e5, ← q5], by rw [← e6, ← q6]⟩
    obtain ⟨E, hE⟩ := choose_lt each
    refine ⟨(List.range len).map E, some a, cap, by simp, by simp; omega, (fun h => by cases h), fun hne => ?_⟩
    have hpos : 0 < len := by
      rcases Nat.eq_zero_or_pos len with h0 | h0
      · exact absurd (by rw [h0]; rfl) hne
      · exact h0
    have hz := (hE 0 (by omega)).1
    have ha := gspot_none (by simpa using hz)
    refine ⟨a.block, a.off, by rw [← ha], fun i y hy => ?_⟩
    obtain ⟨hi, rfl⟩ := ggetElem?_map_range E hy
    obtain ⟨k0, k1, k2, k3, k4, k5, k6⟩ := hE i (by omega)
    rw [ha, add_plain] at k0 k1 k2 k3 k4 k5 k6
    exact ⟨k0, by rw [Nat.add_assoc]; exact k1, by rw [Nat.add_assoc]; exact k2, by rw [Nat.add_assoc]; exact k3, by rw [Nat.add_assoc]; exact k4, by rw [Nat.add_assoc]; exact k5, by rw [Nat.add_assoc]; exact k6⟩

set_option maxRecDepth 100000 in
theorem afn_cells {n : Nat} {cs : List Value} {x : DataW H × List MemPlace} (hl : cs.length = 2) (h : DataW.trod enc Tryz.prog w 0 (fun _ => true) true n 44 cs = some x) (hw : GLt 44 x.1) :
    ∃ f : AFn, ∃ cv, ACodeAt w cv f.code ∧ f.name.size ≤ 140737488355328 ∧ cs[0]? = some (.string f.name) ∧ cs[1]? = some cv := by
  obtain ⟨xs, k, hk, hxy, _, hxl, hf⟩ := DataW.trod_struct Tryz.underlying44 h
  match cs, hl with
  | [c0, c1], _ =>
    have g0 := hf 0 _ rfl
    have g1 := hf 1 _ rfl
    simp only [List.getElem_toArray, List.getElem_cons_zero, List.getElem_cons_succ, gcS, gcCs, List.drop_zero, List.drop_succ_cons, List.take_succ_cons, List.take_zero] at g0 g1
    match xs, hxl with
    | [y0, y1], _ =>
      simp only [List.getElem?_cons_zero, List.getElem?_cons_succ] at g0 g1
      obtain ⟨a0, e0, f0, _⟩ := DataW.trod_string Tryz.underlying9 g0
      subst hxy
      have hw1 : GLt 42 y1.1 := fun m hm => hw m (by
        simp only [DataW.weights, DataW.weightsEach, Tryz.underlying44, List.map_cons, List.map_nil, List.mem_append]
        simp only [hm, true_or, or_true])
      obtain ⟨cd, h1⟩ := gopen_acode g1 hw1
      simp at e0
      subst e0 f0
      have hr : reachBytes ≤ 140737488355328 := by decide
      have h0 := hw a0.data.toList.length (by simp [DataW.weights, DataW.weightsEach, Tryz.underlying44])
      exact ⟨⟨a0, cd⟩, c1, h1, Nat.le_trans h0 hr, rfl, rfl⟩

theorem gopen_afns {fuel : Nat} {c : Value} {x : DataW H × List MemPlace} (h : DataW.trod enc Tryz.prog w 0 (fun _ => true) true fuel 23 [c] = some x) (hw : GLt 23 x.1) : ∃ l, AFnsAt w c l := by
  rcases open_slice Tryz.underlying23 h with ⟨hcs, _⟩ | ⟨a, len, cap, m, nn, D, Pl, hcs, hb, hl, hm, hmm, hx, hall⟩
  · simp at hcs
    subst hcs
    exact ⟨[], none, 0, rfl, by decide, fun _ => ⟨rfl, rfl⟩, fun h => absurd rfl h⟩
  · simp at hcs
    subst hcs hx
    have hlm : len ≤ m := by rw [hmm]; split <;> omega
    obtain ⟨hw1, hw2⟩ := GLt.slice Tryz.underlying23 hw
    rw [gbFn] at hw1
    have hr : reachBytes ≤ 140737488355328 := by decide
    have hlen : len * 40 ≤ 140737488355328 := by
      simp only [List.length_map, List.length_range] at hw1
      omega
    have each : ∀ i, i < len → ∃ e : AFn, ∃ cv, ACodeAt w cv e.code ∧ e.name.size ≤ 140737488355328 ∧ w.cell? (a.add (i * 2)) = some (.string e.name) ∧ w.cell? (a.add (i * 2 + 1)) = some (cv) := fun i hi => by
      obtain ⟨cs', h1, h2⟩ := hall i (by omega)
      rw [gcFn] at h1
      obtain ⟨_, hlen, hcell⟩ := World.cells?_some h1
      obtain ⟨f, cv, hc, hn, e0, e1⟩ := afn_cells hlen h2 (hw2 _ (List.mem_map.2 ⟨i, by simpa using hi, rfl⟩))
      have q0 := hcell 0 (by omega)
      have q1 := hcell 1 (by omega)
      rw [add_add] at q0 q1
      exact ⟨f, cv, hc, hn, by rw [← e0, ← q0, Nat.add_zero], by rw [← e1, ← q1]⟩
    obtain ⟨E, hE⟩ := choose_lt each
    refine ⟨(List.range len).map E, some a, cap, by simp, by simp; omega, (fun h => by cases h), fun hne => ?_⟩
    have hpos : 0 < len := by
      rcases Nat.eq_zero_or_pos len with h0 | h0
      · exact absurd (by rw [h0]; rfl) hne
      · exact h0
    obtain ⟨_, _, _, hz, _⟩ := hE 0 (by omega)
    have ha := gspot_none (by simpa using hz)
    refine ⟨a.block, a.off, by rw [← ha], fun i y hy => ?_⟩
    obtain ⟨hi, rfl⟩ := ggetElem?_map_range E hy
    obtain ⟨cv, hc, hn, k0, k1⟩ := hE i (by omega)
    rw [ha, add_plain] at k0 k1
    exact ⟨cv, hc, hn, k0, by rw [Nat.add_assoc]; exact k1⟩

set_option maxRecDepth 100000 in
/-- A program that came in. -/
theorem open_apg {r : Reach} {b0 : Nat} {v : Value} {d : DataW H} {p : List MemPlace} (hv : Value.okWide Tryz.prog w r b0 25 v) (h : DataW.Trod enc Tryz.prog w 0 (fun _ => true) true 25 v d p) (hw : GLt 25 d) : ∃ P : APg, APgV w v P := by
  obtain ⟨cs, rfl, hsz⟩ := okWide_struct Tryz.underlying25 hv
  obtain ⟨c0, c1, c2, c3, rfl⟩ : ∃ c0 c1 c2 c3, cs = #[c0, c1, c2, c3] := by
    have hs : cs.toList.length = 4 := by simpa using hsz.trans gcPg
    match hcs : cs.toList, hs with
    | [c0, c1, c2, c3], _ => exact ⟨c0, c1, c2, c3, by apply Array.ext'; simpa using hcs⟩
  obtain ⟨fuel, hf⟩ := h
  obtain ⟨xs, k, hk, hxy, _, hxl, hg⟩ := DataW.trod_struct Tryz.underlying25 hf
  have g0 := hg 0 _ rfl
  have g1 := hg 1 _ rfl
  have g2 := hg 2 _ rfl
  have g3 := hg 3 _ rfl
  simp only [Value.cells, List.getElem_toArray, List.getElem_cons_zero, List.getElem_cons_succ, gcI, gcIs, gcFs, List.drop_zero, List.drop_succ_cons, List.take_succ_cons, List.take_zero] at g0 g1 g2 g3
  match xs, hxl with
  | [y0, y1, y2, y3], _ =>
    simp only [List.getElem?_cons_zero, List.getElem?_cons_succ] at g0 g1 g2 g3
    simp only [Prod.mk.injEq] at hxy
    obtain ⟨rfl, _⟩ := hxy
    obtain ⟨a2, e2, _, _⟩ := DataW.trod_int Tryz.underlying3 g2
    obtain ⟨a3, e3, _, _⟩ := DataW.trod_int Tryz.underlying3 g3
    have hw0 : GLt 22 y0.1 := fun m hm => hw m (by
      simp only [DataW.weights, DataW.weightsEach, Tryz.underlying25, List.map_cons, List.map_nil, List.mem_append]
      simp only [hm, true_or, or_true])
    have hw1 : GLt 23 y1.1 := fun m hm => hw m (by
      simp only [DataW.weights, DataW.weightsEach, Tryz.underlying25, List.map_cons, List.map_nil, List.mem_append]
      simp only [hm, true_or, or_true])
    obtain ⟨l, h0⟩ := gopen_ints g0 hw0
    obtain ⟨fs, h1⟩ := gopen_afns g1 hw1
    simp at e2 e3
    subst e2 e3
    exact ⟨⟨l, fs, a2, a3⟩, c0, c1, rfl, h0, h1⟩

end
end Go.Proofs.YtofnnpchobgapaaGreatDoor
