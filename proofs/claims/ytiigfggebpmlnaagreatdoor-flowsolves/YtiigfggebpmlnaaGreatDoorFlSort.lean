/- Package flow: the greatest numbers first. -/
import Derived.Test.YtiigfggebpmlnaaGreatDoorFlLeaf
import Derived.Test.YtiigfggebpmlnaaGreatDoorShelf
import Derived.Shelf.SlSortCmp.NoneTotal
namespace Go.Proofs.YtiigfggebpmlnaaGreatDoor
open Go.ChangeShapes Go.WideShapes Go.ChangeAt Go.RowKit
set_option linter.unusedSimpArgs false
set_option linter.unusedVariables false

set_option maxRecDepth 100000 in
set_option maxHeartbeats 4000000 in
theorem cmp24 (SB sb so n sc x y : Nat) (a b : Int) (w : World) (c0 : w.cell? ⟨SB, 0, none⟩ = some (.slice (some ⟨sb, so, none⟩) n sc)) (cA : w.cell? ⟨sb, so + x, none⟩ = some (.int .i64 a)) (cB : w.cell? ⟨sb, so + y, none⟩ = some (.int .i64 b))
    (x0 : (0 : Int) ≤ x) (x1 : (x : Int) < n) (y0 : (0 : Int) ≤ y) (y1 : (y : Int) < n) :
    Calls Tryz.prog 24 #[.int .i64 x, .int .i64 y, .pointer (some ⟨SB, 0, none⟩)] w fun e w' => e = .returned (.int .i64 (Lib.compareInt b a)) ∧ w' = w.drew := by
  generalize hr : Lib.compareInt b a = r
  have HC : Hid (∀ W, Calls Tryz.prog 25 #[.int .i64 b, .int .i64 a] W fun e w' => e = .returned (.int .i64 r) ∧ w' = W) := fun W => hr ▸ Tryz.cmp_Compare_int b a W
  go_enter Tryz.func24, Tryz.ntmps24
  go_upto_region 1 with fail
  refine wp_region_held_drew (S := (fun w' => w'.cell? ⟨SB, 0, none⟩ = some (.slice (some ⟨sb, so, none⟩) n sc) ∧ w'.cell? ⟨sb, so + x, none⟩ = some (.int .i64 a) ∧ w'.cell? ⟨sb, so + y, none⟩ = some (.int .i64 b))) (by kernel_rfl) (⟨c0, cA, cB⟩) (fun hHeld => ?_)
  refine wpAnyH_take (i := 0) (oi := ?oia0) (v := ?vva0) ?hia0 (by kernel_rfl) (by kernel_rfl) (by kernel_rfl) ?hqa0 ?hya0 hHeld ?_
  case hia0 => simp only [List.getElem?_toArray, List.getElem?_cons_succ, List.getElem?_cons_zero]; rfl
  case hqa0 => exact fun _ _ _ h => h
  case hya0 => (refine Or.inl ⟨by rfl, ?_⟩; intro w' hSw; (try dsimp only at hSw); go_simp; (try (with_reducible rfl)))
  simp only [Act.put, List.setIfInBounds_toArray, List.set_cons_zero, List.set_cons_succ]
  refine wpAnyH_take (i := 1) (oi := ?oia1) (v := ?vva1) ?hia1 (by kernel_rfl) (by kernel_rfl) (by kernel_rfl) ?hqa1 ?hya1 hHeld ?_
  case hia1 => simp only [List.getElem?_toArray, List.getElem?_cons_succ, List.getElem?_cons_zero]; rfl
  case hqa1 => exact fun _ _ _ h => h
  case hya1 => (refine Or.inl ⟨by rfl, ?_⟩; intro w' hSw; (try dsimp only at hSw); go_simp; (try (with_reducible rfl)))
  simp only [Act.put, List.setIfInBounds_toArray, List.set_cons_zero, List.set_cons_succ]
  refine wpAnyH_take (i := 2) (oi := ?oia2) (v := ?vva2) ?hia2 (by kernel_rfl) (by kernel_rfl) (by kernel_rfl) ?hqa2 ?hya2 hHeld ?_
  case hia2 => simp only [List.getElem?_toArray, List.getElem?_cons_succ, List.getElem?_cons_zero]; rfl
  case hqa2 => exact fun _ _ _ h => h
  case hya2 => (refine Or.inl ⟨by rfl, ?_⟩; intro w' hSw; (try dsimp only at hSw); go_simp; (try (with_reducible rfl)))
  simp only [Act.put, List.setIfInBounds_toArray, List.set_cons_zero, List.set_cons_succ]
  refine wpAnyH_take (i := 3) (oi := ?oia3) (v := ?vva3) ?hia3 (by kernel_rfl) (by kernel_rfl) (by kernel_rfl) ?hqa3 ?hya3 hHeld ?_
  case hia3 => simp only [List.getElem?_toArray, List.getElem?_cons_succ, List.getElem?_cons_zero]; rfl
  case hqa3 => exact fun _ _ _ h => h
  case hya3 => (refine Or.inl ⟨by rfl, ?_⟩; intro w' hSw; (try dsimp only at hSw); go_simp; (try (with_reducible rfl)))
  simp only [Act.put, List.setIfInBounds_toArray, List.set_cons_zero, List.set_cons_succ]
  refine wpAnyH_take (i := 4) (oi := ?oia4) (v := ?vva4) ?hia4 (by kernel_rfl) (by kernel_rfl) (by kernel_rfl) ?hqa4 ?hya4 hHeld ?_
  case hia4 => simp only [List.getElem?_toArray, List.getElem?_cons_succ, List.getElem?_cons_zero]; rfl
  case hqa4 => exact fun _ _ _ h => h
  case hya4 => (refine Or.inl ⟨by rfl, ?_⟩; intro w' hSw; (try dsimp only at hSw); go_simp; (try (with_reducible rfl)))
  simp only [Act.put, List.setIfInBounds_toArray, List.set_cons_zero, List.set_cons_succ]
  refine wpAnyH_take (i := 5) (oi := ?oia5) (v := ?vva5) ?hia5 (by kernel_rfl) (by kernel_rfl) (by kernel_rfl) ?hqa5 ?hya5 hHeld ?_
  case hia5 => simp only [List.getElem?_toArray, List.getElem?_cons_succ, List.getElem?_cons_zero]; rfl
  case hqa5 => exact fun _ _ _ h => h
  case hya5 => (refine Or.inl ⟨by rfl, ?_⟩; intro w' hSw; (try dsimp only at hSw); go_simp; (try (with_reducible rfl)))
  simp only [Act.put, List.setIfInBounds_toArray, List.set_cons_zero, List.set_cons_succ]
  refine wpAnyH_take (i := 6) (oi := ?oia6) (v := ?vva6) ?hia6 (by kernel_rfl) (by kernel_rfl) (by kernel_rfl) ?hqa6 ?hya6 hHeld ?_
  case hia6 => simp only [List.getElem?_toArray, List.getElem?_cons_succ, List.getElem?_cons_zero]; rfl
  case hqa6 => exact fun _ _ _ h => h
  case hya6 => (refine Or.inl ⟨by rfl, ?_⟩; intro w' hSw; (try dsimp only at hSw); go_simp; (try (with_reducible rfl)))
  simp only [Act.put, List.setIfInBounds_toArray, List.set_cons_zero, List.set_cons_succ]
  refine wpAnyH_take (i := 7) (oi := ?oia7) (v := ?vva7) ?hia7 (by kernel_rfl) (by kernel_rfl) (by kernel_rfl) ?hqa7 ?hya7 hHeld ?_
  case hia7 => simp only [List.getElem?_toArray, List.getElem?_cons_succ, List.getElem?_cons_zero]; rfl
  case hqa7 => exact fun _ _ _ h => h
  case hya7 => (refine Or.inl ⟨by rfl, ?_⟩; intro w' hSw; (try dsimp only at hSw); go_simp; (try (with_reducible rfl)))
  simp only [Act.put, List.setIfInBounds_toArray, List.set_cons_zero, List.set_cons_succ]
  refine wpAnyH_ready (rs := [8]) (by kernel_rfl) (by simp) ?_
  refine AllReadyH.cons (o := ?oia8) ?hia8 (fun K hK => ?_) AllReadyH.nil
  case hia8 => simp only [List.getElem?_toArray, List.getElem?_cons_succ, List.getElem?_cons_zero]; rfl
  go_simp
  refine (HC.out _).mono ?_
  rintro e v8 ⟨rfl, rfl⟩
  go_wp2_with fail
  refine hK.out _ _ (hHeld) (fun hN => ?_)
  clear hK K hHeld
  have hHeld := hN
  clear hN
  try simp only [Act.put, List.setIfInBounds_toArray, List.set_cons_zero, List.set_cons_succ]
  refine wpAnyH_take (i := 9) (oi := ?oia9) (v := ?vva9) ?hia9 (by kernel_rfl) (by kernel_rfl) (by kernel_rfl) ?hqa9 ?hya9 hHeld ?_
  case hia9 => simp only [List.getElem?_toArray, List.getElem?_cons_succ, List.getElem?_cons_zero]; rfl
  case hqa9 => exact fun _ _ _ h => h
  case hya9 => (refine Or.inl ⟨by rfl, ?_⟩; intro w' hSw; (try dsimp only at hSw); go_simp; (try (with_reducible rfl)))
  simp only [Act.put, List.setIfInBounds_toArray, List.set_cons_zero, List.set_cons_succ]
  refine wpAnyH_done (by kernel_rfl) ?_ _
  go_wp2
  go_ret
  exact ⟨rfl, rfl⟩


section
variable {n : Nat} (st : List Int)
def cfS (x y : Fin n) : Int := Lib.compareInt (st.getD y.val 0) (st.getD x.val 0)
theorem ltS (x y : Fin n) : ltOf (cfS st) x y = decide (st.getD y.val 0 < st.getD x.val 0) := by
  unfold ltOf cfS Lib.compareInt
  generalize st.getD y.val 0 = p
  generalize st.getD x.val 0 = q
  by_cases h1 : p < q
  · simp [h1]
  · by_cases h2 : q < p <;> simp [h1, h2]
theorem swoS : Go.Sort.SWO (ltOf (cfS (n := n) st)) where
  irrefl x := by rw [ltS]; simp
  trans x y z h1 h2 := by
    rw [ltS, decide_eq_true_eq] at *
    omega
  ntrans x y z h1 h2 := by
    rw [ltS, decide_eq_false_iff_not] at *
    omega
end
/-- What a sort leaves: its row turned, all else as it was. -/
theorem sort_grown {α : Type} [Inhabited α] (enc : α → Value) (w : World) (FB m : Nat) (d : Array α) (os : Array Obj) : w.grownBy (sortWorld enc w FB 0 m d os) (some FB) := by
  have hh : (sortWorld enc w FB 0 m d os).heap = (w.heap.modify FB (Go.Sort.onCells (Go.Sort.putCells enc 0 d))) ++ os := rfl
  refine ⟨rfl, rfl, rfl, by rw [hh]; simp, fun k hk hn => ?_⟩
  rw [hh, Array.getElem?_append_left (by simpa using hk)]
  have hne : FB ≠ k := fun e => hn (by rw [e])
  rw [Array.getElem?_modify, if_neg hne]
theorem ext_all {α : Type} (a : Array α) (k : Nat) (h : a.size = k) : a.extract 0 k = a := by subst h; simp
theorem fin_get {n : Nat} [Inhabited (Fin n)] (j : Nat) (hj : j < n) : (Array.ofFn (id : Fin n → Fin n))[j]! = ⟨j, hj⟩ := by
  rw [getElem!_pos _ j (by simpa using hj)]
  simp
/-- The numbers from nought on, sorted by what they stand for, the greatest first. -/
theorem sort_any (FB SB sb so n sc : Nat) (st : List Int) (w : World) (h0 : 0 < n) (hn : n ≤ 1000000) (hl : st.length = n) (c0 : w.cell? ⟨SB, 0, none⟩ = some (.slice (some ⟨sb, so, none⟩) n sc)) (hs : ∀ (i : Nat) (x : Int), st[i]? = some x → w.cell? ⟨sb, so + i, none⟩ = some (.int .i64 x))
    (hf : ∀ i : Nat, i < n → w.cell? ⟨FB, i, none⟩ = some (.int .i64 i) ∧ w.frozen? ⟨FB, i, none⟩ = false) (h1 : FB ≠ SB) (h2 : FB ≠ sb) :
    Calls Tryz.prog 23 #[.slice (some ⟨FB, 0, none⟩) n n, .func (.func 24) #[] #[.pointer (some ⟨SB, 0, none⟩)]] w fun e w' => e = .returned (.tuple #[]) ∧ w.grownBy w' (some FB) ∧
      ∃ od : List Nat, od.Perm (List.range n) ∧ (∀ (i j x y : Nat), i < j → od[i]? = some x → od[j]? = some y → st.getD y 0 ≤ st.getD x 0) ∧ ∀ (i x : Nat), od[i]? = some x → w'.cell? ⟨FB, i, none⟩ = some (.int .i64 x) := by
  letI : Inhabited (Fin n) := ⟨⟨0, h0⟩⟩
  let enc : Fin n → Value := fun x => .int .i64 (x.val : Int)
  let d : Array (Fin n) := Array.ofFn (id : Fin n → Fin n)
  have hd : d.size = n := by simp [d]
  have hH : Go.Sort.Holds enc w FB 0 d := fun j hj => by
    have hj' : j < n := by rw [hd] at hj; exact hj
    rw [show d[j]! = ⟨j, hj'⟩ from fin_get j hj', Nat.zero_add]
    exact hf j hj'
  have eg : ∀ args w, (callFunc 24 args).run Tryz.prog w = .ok (.enter 24 args) w := enters_of Tryz.func24 (by kernel_rfl) rfl
  have hget : ∀ x : Fin n, st[x.val]? = some (st.getD x.val 0) := fun x => by
    rw [List.getD_eq_getElem?_getD, List.getElem?_eq_getElem (by rw [hl]; exact x.isLt)]; rfl
  have hcmp : CmpReads Tryz.prog 24 #[.pointer (some ⟨SB, 0, none⟩)] enc (cfS st) FB 0 d.size w := fun m os dk hdk x y => by
    have hg := sort_grown enc w FB m dk os
    have k0 := hg.cell c0 (fun e => h1 (by injection e with e; exact e.symm))
    have kA := hg.cell (hs x.val _ (hget x)) (fun e => h2 (by injection e with e; exact e.symm))
    have kB := hg.cell (hs y.val _ (hget y)) (fun e => h2 (by injection e with e; exact e.symm))
    have := cmp24 SB sb so n sc x.val y.val _ _ _ k0 kA kB (by omega) (by have := x.isLt; omega) (by omega) (by have := y.isLt; omega)
    exact this.mono fun e w' ⟨he, hw⟩ => ⟨he, 1, hw⟩
  have hblk : FB < w.heap.size := block_lt_of_cell (hf 0 h0).1
  have hS := Tryz.slices_SortFunc enc (fun _ => rfl) (cfS st) (swoS st) 24 #[.pointer (some ⟨SB, 0, none⟩)] FB 0 n d w eg hcmp.lays hH hblk (by rw [hd]; omega)
  rw [hd] at hS
  refine hS.mono ?_
  rintro e w' ⟨rfl, d', m, os, hp, hsd, rfl⟩
  have hsz : d'.size = n := by rw [hp.1, hd]
  have hH' : Go.Sort.Holds enc (sortWorld enc w FB 0 m d' os) FB 0 d' := SW.holds ⟨m, os, rfl⟩ hblk hH (by rw [hsz, hd])
  refine ⟨rfl, sort_grown enc w FB m d' os, d'.toList.map (·.val), ?_, ?_, ?_⟩
  · have h := hp.2.2
    rw [ext_all d' n hsz, ext_all d n hd] at h
    have h2 := h.map (fun x : Fin n => x.val)
    refine h2.trans ?_
    have e : d.toList.map (fun x : Fin n => x.val) = List.range n := by
      apply List.ext_getElem?
      intro i
      by_cases hi : i < n
      · simp [d, hi, List.getElem?_range]
      · simp [d, hi]
    rw [e]
  · intro i j x y hij hx hy
    rw [List.getElem?_map, Option.map_eq_some_iff] at hx hy
    obtain ⟨x', hx', rfl⟩ := hx
    obtain ⟨y', hy', rfl⟩ := hy
    have hj : j < d'.size := by have := (List.getElem?_eq_some_iff.1 hy').1; simpa using this
    have hi : i < d'.size := by omega
    have e1 : d'[i]! = x' := by rw [getElem!_pos d' i hi]; have := (List.getElem?_eq_some_iff.1 hx').2; simpa using this
    have e2 : d'[j]! = y' := by rw [getElem!_pos d' j hj]; have := (List.getElem?_eq_some_iff.1 hy').2; simpa using this
    have := hsd i j (Nat.zero_le _) hij (by omega)
    rw [e1, e2, ltS] at this
    simp at this
    simpa using this
  · intro i x hx
    rw [List.getElem?_map, Option.map_eq_some_iff] at hx
    obtain ⟨x', hx', rfl⟩ := hx
    have hi : i < d'.size := by have := (List.getElem?_eq_some_iff.1 hx').1; simpa using this
    have e1 : d'[i]! = x' := by rw [getElem!_pos d' i hi]; have := (List.getElem?_eq_some_iff.1 hx').2; simpa using this
    have := (hH' i hi).1
    rw [e1, Nat.zero_add] at this
    exact this
end Go.Proofs.YtiigfggebpmlnaaGreatDoor

