import Derived.Test.YtncondlfngeilaaGreatDoorTzD
import Derived.Deep.Slices
import Derived.Deep.SlicePairs
import Derived.Deep.Strs
import Derived.OpenShut
namespace Go.Proofs.YtncondlfngeilaaGreatDoor
open Go.ChangeShapes Go.WideShapes Go.ChangeAt Go.RowKit Go.Deep Go.Proofs.Tryz
set_option linter.unusedSimpArgs false
set_option linter.unusedVariables false
set_option maxRecDepth 100000

section
variable {H : Type} {enc : TypeId × Value → H} {w : World}
instance : Inhabited Ins := ⟨⟨0, 0, 0, 0, 0, 0, [], 0, 0⟩⟩
instance : Inhabited Fn := ⟨⟨⟨#[]⟩, [], 0, 0, 0, []⟩⟩
theorem gcS : prog.cellsOf 9 = 1 := by kernel_rfl
theorem gcI : prog.cellsOf 3 = 1 := by kernel_rfl
theorem gcL : prog.cellsOf 2 = 1 := by kernel_rfl
theorem gcIs : prog.cellsOf 22 = 1 := by kernel_rfl
theorem gcCs : prog.cellsOf 23 = 1 := by kernel_rfl
theorem gcIn : prog.cellsOf 38 = 9 := by kernel_rfl
theorem gcFn : prog.cellsOf 25 = 6 := by kernel_rfl
theorem gbI : prog.bytesOf 3 = 8 := by kernel_rfl
theorem gbIn : prog.bytesOf 38 = 88 := by kernel_rfl
theorem gspot_none {a : Addr} {v : Value} (h : w.cell? (a.add 0) = some v) : a = ⟨a.block, a.off, none⟩ := by
 obtain ⟨b, off, spot⟩ := a;have := World.cell?_spot h;have : spot = none := by simpa [Addr.add] using this
 subst this; rfl
theorem ggetElem?_map_range {α : Type} (f : Nat → α) {n i : Nat} {x : α} (h : ((List.range n).map f)[i]? = some x) : i < n ∧ x = f i := by
 rw [List.getElem?_map] at h
 by_cases hi : i < n
 ·rw [List.getElem?_range hi] at h; simp at h; exact ⟨hi, h.symm⟩
 ·rw [List.getElem?_eq_none (by simpa using hi)] at h; simp at h
def GLt (t : TypeId) (d : DataW H) : Prop := ∀ n ∈ d.weights prog t, n ≤ reachBytes
theorem gweightsAll_mem {t : TypeId} {n : Nat} : ∀ {l : List (DataW H)} {d : DataW H}, d ∈ l → n ∈ d.weights prog t → n ∈ DataW.weightsAll prog t l
 | [], d, h, _ => by cases h
 | e :: l, d, h, hn => by
  rw [DataW.weightsAll, List.mem_append];rw [List.mem_cons] at h
  rcases h with rfl | h
  ·exact .inl hn
  ·exact .inr (gweightsAll_mem h hn)
theorem GLt.slice {t e : TypeId} (ht : prog.underlying t = some (.slice e)) {es sp : List (DataW H)} (h : GLt t (.slice es sp)) : (es.length + sp.length) * prog.bytesOf e ≤ reachBytes ∧ ∀ d ∈ es, GLt e d := by
 constructor
 ·exact h _ (by unfold DataW.weights; rw [ht]; exact List.mem_cons_self)
 ·intro d hd n hn
  refine h n ?_;unfold DataW.weights;rw [ht];exact List.mem_cons_of_mem _ (List.mem_append_left _ (gweightsAll_mem hd hn))

theorem gopen_ints {fuel : Nat} {c : Value} {x : DataW H × List MemPlace} (h : DataW.trod enc prog w 0 (fun _ => true) true fuel 22 [c] = some x) (hw : GLt 22 x.1) : ∃ l, IL w c l := by
 rcases open_slice underlying22 h with ⟨hcs, _⟩ | ⟨a, len, cap, m, nn, D, Pl, hcs, hb, hl, hm, hmm, hx, hall⟩
 ·simp at hcs
  subst hcs;exact ⟨[], none, 0, rfl, by decide, fun _ => ⟨rfl, rfl⟩, fun h => absurd rfl h⟩
 ·simp at hcs
  subst hcs hx;have hlm : len ≤ m := by rw [hmm]; split <;> omega
  obtain ⟨hw1, hw2⟩ := GLt.slice underlying22 hw;rw [gbI] at hw1;have hr : reachBytes ≤ 140737488355328 := by decide
  have hlen : len * 8 ≤ 140737488355328 := by
   simp only [List.length_map, List.length_range] at hw1
   omega
  have each : ∀ i, i < len → ∃ e : Int, w.cell? (a.add i) = some (.int .i64 e) := fun i hi => by
   obtain ⟨cs', h1, h2⟩ := hall i (by omega);rw [gcI] at h1;obtain ⟨_, hlen, hcell⟩ := World.cells?_some h1
   match cs', hlen with
   | [c0], _ =>
    obtain ⟨z, e0, _, _⟩ := DataW.trod_int underlying3 h2;simp at e0;subst e0;have q0 := hcell 0 (by omega);rw [add_add] at q0;exact ⟨z, by simpa using q0⟩
  obtain ⟨E, hE⟩ := choose_lt each;refine ⟨(List.range len).map E, some a, cap, by simp, by simp; omega, (fun h => by cases h), fun hne => ?_⟩
  have hpos : 0 < len := by
   rcases Nat.eq_zero_or_pos len with h0 | h0
   ·exact absurd (by rw [h0]; rfl) hne
   ·exact h0
  have ha := gspot_none (hE 0 (by omega));refine ⟨a.block, a.off, by rw [← ha], fun i y hy => ?_⟩;obtain ⟨hi, rfl⟩ := ggetElem?_map_range E hy;have := hE i (by omega);rw [ha, add_plain] at this;exact this

theorem ins_cells {n : Nat} {cs : List Value} {x : DataW H × List MemPlace} (hl : cs.length = 9) (h : DataW.trod enc prog w 0 (fun _ => true) true n 38 cs = some x) (hw : GLt 38 x.1) :
  ∃ i : Ins, ∃ v, IL w v i.args ∧ cs[0]? = some (.int .i64 i.op) ∧ cs[1]? = some (.int .i64 i.sub) ∧ cs[2]? = some (.int .i64 i.a) ∧ cs[3]? = some (.int .i64 i.b) ∧ cs[4]? = some (.int .i64 i.d) ∧ cs[5]? = some (.int .i64 i.k) ∧ cs[6]? = some v ∧ cs[7]? = some (.int .i64 i.s) ∧ cs[8]? = some (.int .i64 i.t) := by
 obtain ⟨xs, k, hk, hxy, _, hxl, hf⟩ := DataW.trod_struct underlying38 h
 match cs, hl with
 | [c0, c1, c2, c3, c4, c5, c6, c7, c8], _ =>
  have g0 := hf 0 _ rfl;have g1 := hf 1 _ rfl;have g2 := hf 2 _ rfl;have g3 := hf 3 _ rfl;have g4 := hf 4 _ rfl;have g5 := hf 5 _ rfl;have g6 := hf 6 _ rfl;have g7 := hf 7 _ rfl;have g8 := hf 8 _ rfl;simp only [List.getElem_toArray, List.getElem_cons_zero, List.getElem_cons_succ, gcI, gcL, gcIs, List.drop_zero, List.drop_succ_cons, List.take_succ_cons, List.take_zero] at g0 g1 g2 g3 g4 g5 g6 g7 g8
  match xs, hxl with
  | [y0, y1, y2, y3, y4, y5, y6, y7, y8], _ =>
   simp only [List.getElem?_cons_zero, List.getElem?_cons_succ] at g0 g1 g2 g3 g4 g5 g6 g7 g8;obtain ⟨a0, e0, _, _⟩ := DataW.trod_int underlying3 g0;obtain ⟨a1, e1, _, _⟩ := DataW.trod_int underlying3 g1;obtain ⟨a2, e2, _, _⟩ := DataW.trod_int underlying3 g2;obtain ⟨a3, e3, _, _⟩ := DataW.trod_int underlying3 g3;obtain ⟨a4, e4, _, _⟩ := DataW.trod_int underlying3 g4;obtain ⟨a5, e5, _, _⟩ := DataW.trod_int underlying2 g5;obtain ⟨a7, e7, _, _⟩ := DataW.trod_int underlying3 g7;obtain ⟨a8, e8, _, _⟩ := DataW.trod_int underlying3 g8;subst hxy
   have hw6 : GLt 22 y6.1 := fun m hm => hw m (by
    simp only [DataW.weights, DataW.weightsEach, underlying38, List.map_cons, List.map_nil, List.mem_append];simp only [hm, true_or, or_true])
   obtain ⟨l, h6⟩ := gopen_ints g6 hw6;simp at e0 e1 e2 e3 e4 e5 e7 e8;subst e0 e1 e2 e3 e4 e5 e7 e8;exact ⟨⟨a0, a1, a2, a3, a4, a5, l, a7, a8⟩, c6, h6, rfl, rfl, rfl, rfl, rfl, rfl, rfl, rfl, rfl⟩

theorem gopen_code {fuel : Nat} {c : Value} {x : DataW H × List MemPlace} (h : DataW.trod enc prog w 0 (fun _ => true) true fuel 23 [c] = some x) (hw : GLt 23 x.1) : ∃ l, CodeAt w c l := by
 rcases open_slice underlying23 h with ⟨hcs, _⟩ | ⟨a, len, cap, m, nn, D, Pl, hcs, hb, hl, hm, hmm, hx, hall⟩
 ·simp at hcs
  subst hcs;exact ⟨[], none, 0, rfl, by decide, fun _ => ⟨rfl, rfl⟩, fun h => absurd rfl h⟩
 ·simp at hcs
  subst hcs hx;have hlm : len ≤ m := by rw [hmm]; split <;> omega
  obtain ⟨hw1, hw2⟩ := GLt.slice underlying23 hw;rw [gbIn] at hw1;have hr : reachBytes ≤ 140737488355328 := by decide
  have hlen : len * 88 ≤ 140737488355328 := by
   simp only [List.length_map, List.length_range] at hw1
   omega
  have each : ∀ i, i < len → ∃ e : Ins, ∃ v, IL w v e.args ∧ w.cell? (a.add (i * 9)) = some (.int .i64 e.op) ∧ w.cell? (a.add (i * 9 + 1)) = some (.int .i64 e.sub) ∧ w.cell? (a.add (i * 9 + 2)) = some (.int .i64 e.a) ∧ w.cell? (a.add (i * 9 + 3)) = some (.int .i64 e.b) ∧ w.cell? (a.add (i * 9 + 4)) = some (.int .i64 e.d) ∧ w.cell? (a.add (i * 9 + 5)) = some (.int .i64 e.k) ∧ w.cell? (a.add (i * 9 + 6)) = some (v) ∧ w.cell? (a.add (i * 9 + 7)) = some (.int .i64 e.s) ∧ w.cell? (a.add (i * 9 + 8)) = some (.int .i64 e.t) := fun i hi => by
   obtain ⟨cs', h1, h2⟩ := hall i (by omega);rw [gcIn] at h1;obtain ⟨_, hlen, hcell⟩ := World.cells?_some h1;obtain ⟨f, v, hv, e0, e1, e2, e3, e4, e5, e6, e7, e8⟩ := ins_cells hlen h2 (hw2 _ (List.mem_map.2 ⟨i, by simpa using hi, rfl⟩));have q0 := hcell 0 (by omega);have q1 := hcell 1 (by omega);have q2 := hcell 2 (by omega);have q3 := hcell 3 (by omega);have q4 := hcell 4 (by omega);have q5 := hcell 5 (by omega);have q6 := hcell 6 (by omega);have q7 := hcell 7 (by omega);have q8 := hcell 8 (by omega);rw [add_add] at q0 q1 q2 q3 q4 q5 q6 q7 q8;exact ⟨f, v, hv, by rw [← e0, ← q0, Nat.add_zero], by rw [← e1, ← q1], by rw [← e2, ← q2], by rw [← e3, ← q3], by rw [← e4, ← q4], by rw [← e5, ← q5], by rw [← e6, ← q6], by rw [← e7, ← q7], by rw [← e8, ← q8]⟩
  obtain ⟨E, hE⟩ := choose_lt each;refine ⟨(List.range len).map E, some a, cap, by simp, by simp; omega, (fun h => by cases h), fun hne => ?_⟩
  have hpos : 0 < len := by
   rcases Nat.eq_zero_or_pos len with h0 | h0
   ·exact absurd (by rw [h0]; rfl) hne
   ·exact h0
  obtain ⟨_, _, hz, _⟩ := hE 0 (by omega);have ha := gspot_none (by simpa using hz);refine ⟨a.block, a.off, by rw [← ha], fun i y hy => ?_⟩;obtain ⟨hi, rfl⟩ := ggetElem?_map_range E hy;obtain ⟨v, hv, k0, k1, k2, k3, k4, k5, k6, k7, k8⟩ := hE i (by omega);rw [ha, add_plain] at k0 k1 k2 k3 k4 k5 k6 k7 k8;exact ⟨v, hv, k0, by rw [Nat.add_assoc]; exact k1, by rw [Nat.add_assoc]; exact k2, by rw [Nat.add_assoc]; exact k3, by rw [Nat.add_assoc]; exact k4, by rw [Nat.add_assoc]; exact k5, by rw [Nat.add_assoc]; exact k6, by rw [Nat.add_assoc]; exact k7, by rw [Nat.add_assoc]; exact k8⟩

theorem fn_cells {n : Nat} {cs : List Value} {x : DataW H × List MemPlace} (hl : cs.length = 6) (h : DataW.trod enc prog w 0 (fun _ => true) true n 25 cs = some x) (hw : GLt 25 x.1) :
  ∃ f : Fn, ∃ pv cv, IL w pv f.params ∧ CodeAt w cv f.code ∧ f.name.size ≤ 140737488355328 ∧ cs[0]? = some (.string f.name) ∧ cs[1]? = some pv ∧ cs[2]? = some (.int .i64 f.regs) ∧ cs[3]? = some (.int .i64 f.frame) ∧ cs[4]? = some (.int .i64 f.entry) ∧ cs[5]? = some cv := by
 obtain ⟨xs, k, hk, hxy, _, hxl, hf⟩ := DataW.trod_struct underlying25 h
 match cs, hl with
 | [c0, c1, c2, c3, c4, c5], _ =>
  have g0 := hf 0 _ rfl;have g1 := hf 1 _ rfl;have g2 := hf 2 _ rfl;have g3 := hf 3 _ rfl;have g4 := hf 4 _ rfl;have g5 := hf 5 _ rfl;simp only [List.getElem_toArray, List.getElem_cons_zero, List.getElem_cons_succ, gcI, gcS, gcIs, gcCs, List.drop_zero, List.drop_succ_cons, List.take_succ_cons, List.take_zero] at g0 g1 g2 g3 g4 g5
  match xs, hxl with
  | [y0, y1, y2, y3, y4, y5], _ =>
   simp only [List.getElem?_cons_zero, List.getElem?_cons_succ] at g0 g1 g2 g3 g4 g5;obtain ⟨a0, e0, f0, _⟩ := DataW.trod_string underlying9 g0;obtain ⟨a2, e2, _, _⟩ := DataW.trod_int underlying3 g2;obtain ⟨a3, e3, _, _⟩ := DataW.trod_int underlying3 g3;obtain ⟨a4, e4, _, _⟩ := DataW.trod_int underlying3 g4;subst hxy
   have hw1 : GLt 22 y1.1 := fun m hm => hw m (by
    simp only [DataW.weights, DataW.weightsEach, underlying25, List.map_cons, List.map_nil, List.mem_append];simp only [hm, true_or, or_true])
   have hw5 : GLt 23 y5.1 := fun m hm => hw m (by
    simp only [DataW.weights, DataW.weightsEach, underlying25, List.map_cons, List.map_nil, List.mem_append];simp only [hm, true_or, or_true])
   obtain ⟨l, h1⟩ := gopen_ints g1 hw1;obtain ⟨cd, h5⟩ := gopen_code g5 hw5;simp at e0 e2 e3 e4;subst e0 e2 e3 e4 f0;have hr : reachBytes ≤ 140737488355328 := by decide
   have h0 := hw a0.data.toList.length (by simp [DataW.weights, DataW.weightsEach, underlying25]);exact ⟨⟨a0, l, a2, a3, a4, cd⟩, c1, c5, h1, h5, Nat.le_trans h0 hr, rfl, rfl, rfl, rfl, rfl, rfl⟩

end
end Go.Proofs.YtncondlfngeilaaGreatDoor
namespace Go.Proofs.YtncondlfngeilaaGreatDoor
open Go.ChangeShapes Go.WideShapes Go.ChangeAt Go.RowKit Go.Deep Go.Proofs.Tryz
set_option linter.unusedSimpArgs false
set_option linter.unusedVariables false
set_option maxRecDepth 100000

section
variable {H : Type} {enc : TypeId × Value → H} {w : World}
theorem open_fn {r : Reach} {b0 : Nat} {v : Value} {d : DataW H} {p : List MemPlace} (hv : Value.okWide prog w r b0 25 v) (h : DataW.Trod enc prog w 0 (fun _ => true) true 25 v d p) (hw : GLt 25 d) : ∃ f : Fn, FnV w v f := by
 obtain ⟨cs, rfl, hsz⟩ := okWide_struct underlying25 hv
 obtain ⟨c0, c1, c2, c3, c4, c5, rfl⟩ : ∃ c0 c1 c2 c3 c4 c5, cs = #[c0, c1, c2, c3, c4, c5] := by
  have hs : cs.toList.length = 6 := by simpa using hsz.trans gcFn
  match hcs : cs.toList, hs with
  | [c0, c1, c2, c3, c4, c5], _ => exact ⟨c0, c1, c2, c3, c4, c5, by apply Array.ext'; simpa using hcs⟩
 obtain ⟨fuel, hf⟩ := h;obtain ⟨f, pv, cv, hp, hc, hn, e0, e1, e2, e3, e4, e5⟩ := fn_cells (cs := [c0, c1, c2, c3, c4, c5]) rfl hf hw;simp at e0 e1 e2 e3 e4 e5;subst e0 e1 e2 e3 e4 e5;exact ⟨f, _, _, rfl, hp, hc, hn⟩
end
end Go.Proofs.YtncondlfngeilaaGreatDoor
