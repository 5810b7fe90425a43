/- Contract of own: a block gets pages of its own. -/
import Derived.Test.YtnklpccggbkknaaMClone
import Derived.Deep.MidRow
namespace Go.Proofs.Ytnklpccggbkknaa
open Go.ChangeShapes Go.WideShapes Go.ChangeAt Go.RowKit Pl
set_option linter.unusedSimpArgs false
set_option linter.unusedVariables false

theorem size101 : (Try.prog.info? 93).map (·.size) = some 384 := by kernel_rfl
theorem flat_len64 (f : Nat → WD) : (flat f 64).length = 384 := by rw [flat_len]
theorem page_range (w : World) (q : Nat) (f : Nat → WD) (h : PageIs w q f) : w.rangeAt q 0 (flat f 64) := by
  intro j v hj
  have hjl : j < 64 * 6 := by
    have := lt_of_get hj
    rw [flat_len] at this
    exact this
  have e : j / 6 * 6 + j % 6 = j := by omega
  rw [← e, flat_get f (j / 6) (j % 6) (by omega) 64 (by omega)] at hj
  have hc := h.c (j / 6) (by omega)
  rw [Nat.zero_add, ← e]
  have hr : j % 6 < 6 := by omega
  generalize j % 6 = r at hj hr
  match r, hr, hj with
  | 0, _, hj => simp [wcell] at hj; subst hj; exact hc.c0
  | 1, _, hj => simp [wcell] at hj; subst hj; exact hc.c1
  | 2, _, hj => simp [wcell] at hj; subst hj; exact hc.c2
  | 3, _, hj => simp [wcell] at hj; subst hj; exact hc.c3
  | 4, _, hj => simp [wcell] at hj; subst hj; exact hc.c4
  | 5, _, hj => simp [wcell] at hj; subst hj; exact hc.c5
theorem flat_one (f : Nat → WD) : ∀ n, ∀ v ∈ flat f n, v.oneCell' = true
  | 0, v, h => by simp [flat] at h
  | n + 1, v, h => by
    rw [flat, List.mem_append] at h
    rcases h with h | h
    · exact flat_one f n v h
    · simp [wcell] at h
      rcases h with rfl | rfl | rfl | rfl | rfl | rfl <;> rfl
set_option maxHeartbeats 1000000 in
theorem own_nil (g o : Nat) (w : World) (c3 : w.cell? ⟨g, o + 3, none⟩ = some (.slice none 0 0)) (z3 : w.frozen? ⟨g, o + 3, none⟩ = false) :
    Calls Try.prog 30 #[.pointer (some ⟨g, o, none⟩)] w fun e w' => e = .returned (.tuple #[]) ∧ w' = w.setCell ⟨g, o + 3, none⟩ (.slice none 0 0) := by
  go_enter Try.func30, Try.ntmps30
  go_wp2_with (go_at_call 46; refine (clone_pages_nil _).mono ?_; rintro e w' ⟨rfl, hw'⟩; replace hw' := hw'.symm; subst hw')
  go_loopw [18] (fun i wr => i = .int .i64 0 ∧ wr = w.setCell ⟨g, o + 3, none⟩ (.slice none 0 0)) (fun i _ => 0)
  case atStart => exact ⟨rfl, rfl⟩
  case round =>
    obtain ⟨rfl, rfl⟩ := hrel
    go_wp2
    go_end0
    exact ⟨rfl, rfl⟩
theorem setCells_heap (b : Nat) : ∀ (vs : List Value) (o : Nat) (w : World), (∀ x, x ≠ b → (w.setCells b o vs).heap[x]? = w.heap[x]?) ∧ (w.setCells b o vs).heap.size = w.heap.size ∧ (w.setCells b o vs).os = w.os ∧ (w.setCells b o vs).tape = w.tape ∧ (w.setCells b o vs).output = w.output
  | [], o, w => ⟨fun _ _ => rfl, rfl, rfl, rfl, rfl⟩
  | v :: r, o, w => by
    have ih := setCells_heap b r (o + 1) (w.setCell ⟨b, o, none⟩ v)
    rw [World.setCells]
    exact ⟨fun x hx => (ih.1 x hx).trans (heap_set_other hx), ih.2.1.trans (size_set _ _ _), ih.2.2.1, ih.2.2.2.1, ih.2.2.2.2⟩
theorem page_of_range {w : World} {q : Nat} {f : Nat → WD} (h : w.rangeAt q 0 (flat f 64)) (hf : ∀ o, w.frozen? ⟨q, o, none⟩ = false) : PageIs w q f :=
  ⟨fun i hi => by
    have hg : ∀ r v, r < 6 → (wcell (f i))[r]? = some v → w.cell? ⟨q, i * 6 + r, none⟩ = some v := fun r v hr hv => by
      have := h (i * 6 + r) v (by rw [flat_get f i r hr 64 hi]; exact hv)
      rwa [Nat.zero_add] at this
    exact ⟨hg 0 _ (by omega) rfl, hg 1 _ (by omega) rfl, hg 2 _ (by omega) rfl, hg 3 _ (by omega) rfl, hg 4 _ (by omega) rfl, hg 5 _ (by omega) rfl⟩, hf⟩
/-- The rounds of own: the first i pages are copied. -/
structure OwnR (W1 : World) (B n cp k : Nat) (ab : AB) (ents : Array Value) (R0 : Nat → Option Role) (i : Nat) (wr : World) (E : Array Value) (R2 : Nat → Option Role) : Prop where
  os : wr.os = W1.os
  tape : wr.tape = W1.tape
  output : wr.output = W1.output
  size : W1.heap.size ≤ wr.heap.size
  block : ∀ x, x < W1.heap.size → x ≠ B → wr.heap[x]? = W1.heap[x]?
  row : wr.heap[B]? = some (.cells E 91 (0, 0))
  sz : E.size = cp
  done : ∀ j, j < i → j < n → ∃ v, E[j]? = some v ∧ PageOk wr R2 k ab j v
  left : ∀ j, i ≤ j → j < n → E[j]? = ents[j]?
  role : ∀ x, x < W1.heap.size → R2 x = R0 x
  rng : ∀ x, R2 x ≠ none → R0 x ≠ none ∨ (W1.heap.size ≤ x ∧ x < wr.heap.size)
set_option maxHeartbeats 1000000 in
theorem own_pages (g o b n cap k : Nat) (ab : AB) (R R0 : Nat → Option Role) (w : World) (c3 : w.cell? ⟨g, o + 3, none⟩ = some (.slice (some ⟨b, 0, none⟩) n cap)) (z3 : w.frozen? ⟨g, o + 3, none⟩ = false) (ents : Array Value)
    (hn : n ≤ 1000)
    (PG : Hid (∀ j, j < n → ∃ v, ents[j]? = some v ∧ PageOk w R k ab j v)) (RG : Hid (∀ q, R q ≠ none → q < w.heap.size ∧ q ≠ g)) (RZ : Hid (∀ q, R0 q ≠ none → q < w.heap.size))
    (CL : Hid (Calls Try.prog 46 #[.slice (some ⟨b, 0, none⟩) n cap] w fun e w' => ∃ B cp cur', e = .returned (.slice (some ⟨B, 0, none⟩) n cp) ∧ Cloned w w' 91 1 n (fun o => ents[o]?) B cp cur')) :
    Calls Try.prog 30 #[.pointer (some ⟨g, o, none⟩)] w fun e w' => e = .returned (.tuple #[]) ∧ ∃ w1 B cp cur' E R2, Cloned w w1 91 1 n (fun o => ents[o]?) B cp cur' ∧ OwnR (w1.setCell ⟨g, o + 3, none⟩ (.slice (some ⟨B, 0, none⟩) n cp)) B n cp k ab ents (updR R0 B (.pages k)) n w' E R2 := by
  have gl : g < w.heap.size := block_lt_of_cell c3
  have z101 := zv101
  go_enter Try.func30, Try.ntmps30
  go_wp2_with (go_at_call 46; refine CL.out.mono ?_; rintro e w1 ⟨B, cp, cur', rfl, hcl⟩; have d3 := keep_cell hcl.bel c3; have y3 := keep_frozen hcl.bel c3 z3; have hgB : g ≠ B := (by have := hcl.ge; omega); have HCL : Hid (Cloned w w1 91 1 n (fun o => ents[o]?) B cp cur') := hcl; clear hcl)
  have gl1 : g < w1.heap.size := block_lt_of_cell d3
  have HW1 : Hid ((w1.setCell ⟨g, o + 3, none⟩ (.slice (some ⟨B, 0, none⟩) n cp)).cell? ⟨g, o + 3, none⟩ = some (.slice (some ⟨B, 0, none⟩) n cp)) := World.cell?_setCell_same _ _ _ d3
  have HR0 : Hid (OwnR (w1.setCell ⟨g, o + 3, none⟩ (.slice (some ⟨B, 0, none⟩) n cp)) B n cp k ab ents (updR R0 B (.pages k)) 0 (w1.setCell ⟨g, o + 3, none⟩ (.slice (some ⟨B, 0, none⟩) n cp)) cur' (updR R0 B (.pages k))) := by
    have h := HCL.out
    exact ⟨rfl, rfl, rfl, Nat.le_refl _, fun _ _ _ => rfl, by rw [heap_set_other hgB.symm]; exact h.row, by have := h.sz; omega, fun j hj => by omega, fun j _ hj => h.same j (by omega), fun _ _ => rfl, fun x hx => .inl hx⟩
  have HS1 : Hid ((w1.setCell ⟨g, o + 3, none⟩ (.slice (some ⟨B, 0, none⟩) n cp)).heap.size = w1.heap.size) := size_set _ _ _
  generalize hW1 : w1.setCell ⟨g, o + 3, none⟩ (.slice (some ⟨B, 0, none⟩) n cp) = W1 at *
  have HWE : Hid (w1.setCell ⟨g, o + 3, none⟩ (.slice (some ⟨B, 0, none⟩) n cp) = W1) := hW1
  clear hW1 d3 y3
  go_loopw [18] (fun i wr => ∃ (j : Nat) (E : Array Value) (R2 : Nat → Option Role), j ≤ n ∧ i = .int .i64 j ∧ Hid (OwnR W1 B n cp k ab ents (updR R0 B (.pages k)) j wr E R2)) (fun i _ => n - (intOf i).toNat)
  case atStart => exact ⟨0, _, _, by omega, rfl, HR0⟩
  case round =>
    obtain ⟨j, E, R2, hj, rfl, HO⟩ := hrel
    by_cases hjn : j < n
    · obtain ⟨v, hv, hpo⟩ := PG.out j hjn
      have cE : wr.cell? ⟨B, j, none⟩ = some v := heap_cell HO.out.row ((HO.out.left j (Nat.le_refl _) hjn).trans hv)
      have zE : wr.frozen? ⟨B, j, none⟩ = false := heap_frozen HO.out.row
      have j0 : (0 : Int) ≤ j := by omega
      have j1 : (j : Int) < n := by omega
      have cg : wr.cell? ⟨g, o + 3, none⟩ = some (.slice (some ⟨B, 0, none⟩) n cp) := (World.cell?_of_block (HO.out.block g (by rw [HS1.out]; exact gl1) hgB)).trans HW1.out
      have Bl : B < wr.heap.size := block_lt_of_cell cE
      have gl2 : g < wr.heap.size := block_lt_of_cell cg
      have HB9 : Hid (B < W1.heap.size) := by show _; rw [HS1.out]; exact HCL.out.lt
      have HR9 : Hid (∀ x, updR R0 B (.pages k) x ≠ none → x < wr.heap.size) := fun x hx => by
        by_cases e : x = B
        · subst e; exact Bl
        · rw [updR_ne e] at hx
          have h1 := RZ.out x hx
          have h2 := HCL.out.bel.size
          have h3 := HO.out.size
          rw [HS1.out] at h3
          omega
      rcases hpo with ⟨rfl, hbl⟩ | ⟨q, rfl, hqR, hq⟩
      · have HV : Hid (ents[j]? = some (.pointer none) ∧ ∀ i, i < 64 → ab.wd (j * 64 + i) = blankF ab.size ab.zeroed (j * 64 + i)) := ⟨hv, hbl⟩
        clear hv hbl
        go_wp2
        go_roundw
        case rel =>
          refine ⟨j + 1, E, R2, by omega, by simp, ?_⟩
          have h := HO.out
          exact ⟨h.os, h.tape, h.output, h.size, h.block, h.row, h.sz, fun i hi hin => by
            by_cases e : i = j
            · subst e
              exact ⟨_, (h.left i (Nat.le_refl _) hin).trans HV.out.1, .inl ⟨rfl, HV.out.2⟩⟩
            · exact h.done i (by omega) hin, fun i hi hin => h.left i (by omega) hin, h.role, h.rng⟩
        case measure => simp [intOf]; omega
      · have hqw := RG.out q (by rw [hqR]; simp)
        have hqB : q ≠ B := by have := HCL.out.ge; omega
        have hpq : PageIs wr q (fun t => ab.wd (j * 64 + t)) := by
          refine hq.keep ?_
          have hs := HCL.out.bel.size
          rw [HO.out.block q (by rw [HS1.out]; omega) hqB, ← HWE.out, heap_set_other hqw.2, HCL.out.bel.block q hqw.1]
        have ql : q < wr.heap.size := block_lt_of_cell (hpq.c 0 (by omega)).c0
        have HV : Hid (wr.rangeAt q 0 (flat (fun t => ab.wd (j * 64 + t)) 64)) := page_range wr q _ hpq
        have HST : Hid ((wr.alloc (.cells zpage 93)).there wr.heap.size 0 (flat (fun t => ab.wd (j * 64 + t)) 64).toArray.size) := fun i hi => by
          have hz := page_of_flat (f := fun _ => noW) (heap_alloc_new wr (.cells zpage 93))
          have h384 : i < 384 := by rw [List.size_toArray, flat_len64] at hi; exact hi
          refine ⟨?_, hz.fz _⟩
          rw [cell_of_row _ _ _ _ _ _ (heap_alloc_new wr (.cells zpage 93))]
          rw [Array.getElem?_eq_getElem (by simp only [zpage, List.size_toArray, flat_len64]; omega)]
          rfl
        have HSZ : Hid ((Try.prog.info? 93).map (·.size) = some (flat (fun t => ab.wd (j * 64 + t)) 64).length) := by
          show _ = _
          rw [flat_len64]; exact size101
        have HOC : Hid ((flat (fun t => ab.wd (j * 64 + t)) 64).toArray.all (·.oneCell') = true) := all_oneCell_toArray (flat_one _ 64)
        clear hv hq hpq hqR hqw
        generalize hfl : flat (fun t => ab.wd (j * 64 + t)) 64 = fl at HV HST HSZ HOC
        have HFA : Hid (flat (fun t => ab.wd (j * 64 + t)) 64 = fl) := hfl
        clear hfl
        generalize hzp : zpage = zp at z101 HST
        have HZP : Hid (zpage = zp) := hzp
        clear hzp
        go_upto_region 5 with fail
        iterate 7 go_step
        refine wpList_load_mid (by rfl) 93 _ (by rfl) q 0 (by rfl) fl (.array 64 74) HV.out un101 (by rfl) HSZ.out ?_
        iterate 3 go_step
        refine wpList_store_mid (by rfl) 93 _ _ (by rfl) wr.heap.size 0 fl.toArray (by rfl) (by rfl) HST.out (by have := HSZ.out; simpa using this) HOC.out ?_
        obtain ⟨W2, hW2⟩ : ∃ W2, W2 = (wr.alloc (.cells zp 93)).setCells wr.heap.size 0 fl.toArray.toList := ⟨_, rfl⟩
        have HF2 : Hid ((∀ x, x < wr.heap.size → W2.heap[x]? = wr.heap[x]?) ∧ W2.heap.size = wr.heap.size + 1 ∧ W2.os = wr.os ∧ W2.tape = wr.tape ∧ W2.output = wr.output ∧ PageIs W2 wr.heap.size (fun t => ab.wd (j * 64 + t))) := by
          have h := setCells_heap wr.heap.size fl.toArray.toList 0 (wr.alloc (.cells zp 93))
          rw [← hW2] at h
          refine ⟨fun x hx => (h.1 x (by omega)).trans (Below.heap_alloc _ _ x hx), by rw [h.2.1]; simp, h.2.2.1, h.2.2.2.1, h.2.2.2.2, page_of_range ?_ fun o => ?_⟩
          · rw [HFA.out, hW2]
            have := World.rangeAt_setCells_same (wr.alloc (.cells zp 93)) wr.heap.size 0 fl (by have := HST.out; simpa using this)
            simpa using this
          · rw [hW2, World.frozen?_setCells]
            exact heap_frozen (heap_alloc_new wr (.cells zp 93))
        rw [← hW2]
        clear hW2
        have cE2 : W2.cell? ⟨B, j, none⟩ = some (.pointer (some ⟨q, 0, none⟩)) := (World.cell?_of_block (HF2.out.1 B Bl)).trans cE
        have zE2 : W2.frozen? ⟨B, j, none⟩ = false := (World.frozen?_of_block (HF2.out.1 B Bl)).trans zE
        have cg2 : W2.cell? ⟨g, o + 3, none⟩ = some (.slice (some ⟨B, 0, none⟩) n cp) := (World.cell?_of_block (HF2.out.1 g gl2)).trans cg
        go_wp2
        go_roundw
        case rel =>
          have h := HO.out
          have f2 := HF2.out
          have hQB : wr.heap.size ≠ B := by omega
          refine ⟨j + 1, E.setIfInBounds j (.pointer (some ⟨wr.heap.size, 0, none⟩)), updR R2 wr.heap.size (.page k j), by omega, by simp, ?_⟩
          have hEj : E[j]? = some (.pointer (some ⟨q, 0, none⟩)) := by
            have := cE
            rw [cell_of_row wr B j E _ _ h.row] at this
            exact this
          have hrow2 : W2.heap[B]? = some (.cells E 91 (0, 0)) := (f2.1 B Bl).trans h.row
          have hkp : ∀ x, x < wr.heap.size → x ≠ B → (W2.setCell ⟨B, j, none⟩ (.pointer (some ⟨wr.heap.size, 0, none⟩))).heap[x]? = wr.heap[x]? := fun x hx hne => (heap_set_other hne).trans (f2.1 x hx)
          refine ⟨f2.2.2.1.trans h.os, f2.2.2.2.1.trans h.tape, f2.2.2.2.2.1.trans h.output, by rw [size_set, f2.2.1]; have := h.size; omega, fun x hx hne => (hkp x (by have := h.size; omega) hne).trans (h.block x hx hne), heap_set_same hrow2 _, by simpa using h.sz, fun i hi hin => ?_, fun i hi hin => by rw [sib_ne (by omega)]; exact h.left i (by omega) hin,
            fun x hx => by rw [updR_ne (by have := h.size; omega)]; exact h.role x hx, fun x hx => ?_⟩
          · by_cases e : i = j
            · subst e
              exact ⟨_, sib_eq hEj, .inr ⟨wr.heap.size, rfl, updR_same _ _ _, f2.2.2.2.2.2.keep (heap_set_other hQB)⟩⟩
            · obtain ⟨v, hv, ho⟩ := h.done i (by omega) hin
              have hrw : ∀ x, R2 x ≠ none → x < wr.heap.size := fun x hx => by
                rcases h.rng x hx with h1 | h1
                · exact (HR9.out x h1)
                · exact h1.2
              refine ⟨v, by rw [sib_ne (Ne.symm e)]; exact hv, ho.keep fun x hx => ⟨by rw [updR_ne (by have := hrw x (by rw [hx]; simp); omega)]; exact hx, hkp x (hrw x (by rw [hx]; simp)) ?_⟩⟩
              intro e
              have h1 := h.role B HB9.out
              rw [e] at hx
              rw [hx, updR_same] at h1
              cases h1
          · rw [size_set, f2.2.1]
            by_cases e : x = wr.heap.size
            · subst e
              exact .inr ⟨h.size, by omega⟩
            · rw [updR_ne e] at hx
              rcases h.rng x hx with h1 | h1
              · exact .inl h1
              · exact .inr ⟨h1.1, by omega⟩
        case measure => simp [intOf]; omega
    · have hj' : j = n := by omega
      subst hj'
      go_wp2
      go_end0
      exact ⟨rfl, w1, B, cp, cur', E, R2, HCL.out, by rw [HWE.out]; exact HO.out⟩
end Go.Proofs.Ytnklpccggbkknaa
