/- Package rtl: are the globals, the parameters as they may be? -/
import Derived.Test.YthieicjnenlpfaaGreatDoorGLeaf
namespace Go.Proofs.YthieicjnenlpfaaGreatDoor
open Go.ChangeShapes Go.WideShapes Go.ChangeAt Go.RowKit
set_option linter.unusedSimpArgs false
set_option linter.unusedVariables false


theorem sizeB_eq (x : Int) : withinB x 65536 = sizeB x := by
  unfold withinB sizeB
  rw [Bool.eq_iff_iff]
  simp
set_option maxHeartbeats 4000000 in
theorem hasGlobals_walk (pb po : Nat) (ga : Option Addr) (ng gcap gb go : Nat) (globals : List Int) (r : Bool) (w : World) (c0 : w.cell? ⟨pb, po, none⟩ = some (.slice ga ng gcap)) (hg : ng * 8 ≤ 140737488355328) (HN : Hid (ng = globals.length)) (HA : Hid (0 < ng → ga = some ⟨gb, go, none⟩)) (HC : Hid (∀ (i : Nat) x, globals[i]? = some x → w.cell? ⟨gb, go + i, none⟩ = some (.int .i64 x)))
    (HE : Hid (r = (globals.all sizeB && decide ((ng : Int) ≤ 200)))) :
    Calls Tryz.prog 24 #[.pointer (some ⟨pb, po, none⟩)] w fun e w' => e = .returned (.bool r) ∧ w' = w := by
  have hnm : (ng : Int) ≤ 9223372036854775807 := by omega
  have HB : Hid (∀ (i : Nat) x, globals[i]? = some x → sizeB x = false → r = false) := fun i x h1 h2 => by rw [HE.out, all_bad h1 h2]; rfl
  go_enter Tryz.func24, Tryz.ntmps24
  go_wp2
  go_loopw [10] (fun vv wz => ∃ i : Nat, i ≤ ng ∧ vv = .int .i64 i ∧ Hid (∀ (j : Nat) y, j < i → globals[j]? = some y → sizeB y = true) ∧ wz = w) (fun vv _ => ng - (intOf vv).toNat)
  case atStart => exact ⟨0, by omega, rfl, fun j y hj => by omega, rfl⟩
  case round =>
    obtain ⟨i, hi, rfl, HI, rfl⟩ := hrel
    by_cases hin : i < ng
    · obtain rfl := HA.out (by omega)
      have j0 : (0 : Int) ≤ i := by omega
      have j1 : (i : Int) < ng := by omega
      have hget := List.getElem?_eq_getElem (l := globals) (show i < globals.length by rw [← HN.out]; exact hin)
      generalize globals[i]'(by rw [← HN.out]; exact hin) = y at hget
      have cx := HC.out i y hget
      have HG := hid hget
      have HW : Hid (∀ W, Calls Tryz.prog 32 #[.int .i64 y, .int .i64 65536] W fun e w' => e = .returned (.bool (sizeB y)) ∧ w' = W) := fun W => sizeB_eq y ▸ within_any y 65536 W
      clear hget
      cases hq : sizeB y with
      | false =>
        rw [hq] at HW
        have er := HB.out i y HG.out hq
        subst er
        go_wp2_with (go_at_call 32; refine (HW.out _).mono ?_; rintro e w1 ⟨rfl, hw⟩; subst hw)
        go_ret
        exact ⟨rfl, rfl⟩
      | true =>
        rw [hq] at HW
        have HI2 := hid (all_step HG.out hq HI.out)
        go_wp2_with (go_at_call 32; refine (HW.out _).mono ?_; rintro e w1 ⟨rfl, hw⟩; subst hw)
        go_roundw
        case rel => exact ⟨i + 1, by omega, by simp, HI2, trivial⟩
        case measure => simp [intOf]; omega
    · obtain rfl : ng = i := by omega
      have er : r = decide ((ng : Int) ≤ 200) := by rw [HE.out, all_good HN.out HI.out]; rfl
      subst er
      go_wp2
      go_ret
      exact ⟨by simp, rfl⟩
theorem hasGlobals_any {w : World} {pb po : Nat} {gv : Value} {globals : List Int} (c0 : w.cell? ⟨pb, po, none⟩ = some gv) (h : IL w gv globals) :
    Calls Tryz.prog 24 #[.pointer (some ⟨pb, po, none⟩)] w fun e w' => e = .returned (.bool (globals.all sizeB && decide ((globals.length : Int) ≤ 200))) ∧ w' = w := by
  obtain ⟨ga, gcap, gb, go, rfl, hl, ha, hc⟩ := h.parts
  exact hasGlobals_walk pb po ga _ gcap gb go globals _ w c0 hl rfl ha hc rfl

/-- Marks: which numbers were seen. -/
def MarksAt (w : World) (B n : Nat) (l : List Int) : Prop := ∀ j, j < n → w.cell? ⟨B, j, none⟩ = some (.bool (l.contains (j : Int))) ∧ w.frozen? ⟨B, j, none⟩ = false
def falses (n : Nat) : Array Value := madeCells #[.bool false] n
theorem falses_size (n : Nat) : (falses n).size = n := size_madeCells _ _
theorem falses_get (n j : Nat) (h : j < n) : (falses n)[j]? = some (.bool false) := by
  rw [Array.getElem?_eq_getElem (by rw [falses_size]; exact h)]
  simp [falses, madeCells, Nat.mod_one]
theorem infoBool : (Tryz.prog.info? 4).map (fun i => (i.zero, i.size, i.bytes)) = some (some (.bool false), 1, 1) := by kernel_rfl
theorem make_marks (n : Nat) (hn : n ≤ 5000) (w : World) : (Instr.makeSlice 116 (.int .i64 n) (.int .i64 n)).run Tryz.prog w = .ok (.slice (some ⟨w.heap.size, 0, none⟩) n n) (w.alloc (.cells (falses n) 4)) := by
  obtain ⟨i0, hi, hz0, hz1, hz2⟩ := info_parts infoBool
  have := run_make (P := Tryz.prog) w 116 4 i0 (.bool false) Tryz.underlying116 hi hz0 .i64 .i64 n n (by omega) (by omega) (by rw [hz2]; omega) (by omega)
  rw [this, hz1]
  simp [falses, Value.cells]
theorem marks_start (w : World) (n : Nat) : MarksAt (w.alloc (.cells (falses n) 4 (0, 0))) w.heap.size n [] := fun j hj => by
  have h : (w.alloc (.cells (falses n) 4 (0, 0))).heap[w.heap.size]? = some (.cells (falses n) 4 (0, 0)) := by
    show (w.heap.push _)[w.heap.size]? = _
    simp
  constructor
  · unfold World.cell?
    rw [h]
    simpa using falses_get n j hj
  · unfold World.frozen?
    rw [h]
    simp
theorem marks_step {w : World} {B n m i : Nat} {l : List Int} (h : MarksAt w B n (l.take i)) (hm : m < n) (hget : l[i]? = some (m : Int)) : MarksAt (w.setCell ⟨B, m, none⟩ (.bool true)) B n (l.take (i + 1)) := fun j hj => by
  obtain ⟨h1, h2⟩ := h j hj
  obtain ⟨g1, g2⟩ := h m hm
  have e : l.take (i + 1) = l.take i ++ [(m : Int)] := by rw [List.take_add_one, hget]; rfl
  rw [e]
  constructor
  · by_cases hjm : j = m
    · subst hjm
      rw [show ((l.take i ++ [(j : Int)]).contains (j : Int)) = true by simp]
      go_simp
    · rw [show ((l.take i ++ [(m : Int)]).contains (j : Int)) = (l.take i).contains (j : Int) by
        rw [Bool.eq_iff_iff]
        simp only [List.contains_iff_mem, List.mem_append, List.mem_singleton]
        exact ⟨fun h => h.elim id fun h => absurd (Int.ofNat_inj.1 h) hjm, Or.inl⟩]
      rw [World.cell?_setCell_other _ _ _ _ (by simp [hjm])]
      exact h1
  · simp only [World.frozen?_setCell]; exact h2
set_option maxRecDepth 100000 in
set_option maxHeartbeats 4000000 in
theorem hasParams_walk (fb fo : Nat) (pa : Option Addr) (np pcap pb po n : Nat) (params : List Int) (r : Bool) (w : World) (c1 : w.cell? ⟨fb, fo + 1, none⟩ = some (.slice pa np pcap)) (c2 : w.cell? ⟨fb, fo + 2, none⟩ = some (.int .i64 n)) (hn : n ≤ 5000) (hp : np * 8 ≤ 140737488355328) (HN : Hid (np = params.length)) (HA : Hid (0 < np → pa = some ⟨pb, po, none⟩)) (HC : Hid (∀ (i : Nat) x, params[i]? = some x → w.cell? ⟨pb, po + i, none⟩ = some (.int .i64 x)))
    (HP1 : Hid (∀ (i : Nat) x, params[i]? = some x → inB n x = false → r = false))
    (HP2 : Hid (∀ (i j : Nat) x, i < j → params[i]? = some x → params[j]? = some x → r = false))
    (HP3 : Hid ((∀ (i : Nat) x, i < np → params[i]? = some x → inB n x = true) → (∀ (i j : Nat) x y, i < j → j < np → params[i]? = some x → params[j]? = some y → x ≠ y) → r = true)) :
    Calls Tryz.prog 47 #[.pointer (some ⟨fb, fo, none⟩)] w (retP (.bool r) w) := by
  have hnm : (np : Int) ≤ 9223372036854775807 := by omega
  have mk := make_marks n hn
  have fl : fb < w.heap.size := block_lt_of_cell c1
  go_enter Tryz.func47, Tryz.ntmps47
  go_wp2
  go_loopw [16] (fun vv wz => ∃ i : Nat, i ≤ np ∧ vv = .int .i64 i ∧ Hid (∀ (j : Nat) x, j < i → params[j]? = some x → inB n x = true) ∧ Hid (∀ (k j : Nat) x y, k < j → j < i → params[k]? = some x → params[j]? = some y → x ≠ y) ∧ Hid (MarksAt wz w.heap.size n (params.take i)) ∧ Hid (Below w.heap.size w wz)) (fun vv _ => np - (intOf vv).toNat)
  case atStart => exact ⟨0, by omega, rfl, fun j x hj => by omega, fun k j x y h1 h2 => by omega, marks_start w n, bel_alloc (Below.refl _ _) _⟩
  case round =>
    obtain ⟨i, hi, rfl, HI, HJ, HM, HBz⟩ := hrel
    rename World => wz
    by_cases hin : i < np
    · obtain rfl := HA.out (by omega)
      have j0 : (0 : Int) ≤ i := by omega
      have j1 : (i : Int) < np := by omega
      have hget := List.getElem?_eq_getElem (l := params) (show i < params.length by rw [← HN.out]; exact hin)
      generalize params[i]'(by rw [← HN.out]; exact hin) = y at hget
      have cx := keep_cell HBz.out (HC.out i y hget)
      have HG := hid hget
      have HW : Hid (Calls Tryz.prog 69 #[.pointer (some ⟨fb, fo, none⟩), .int .i64 y] wz fun e w' => e = .returned (.bool (inB n y)) ∧ w' = wz) := hasRegister_any fb fo n y wz (keep_cell HBz.out c2) (by omega) (by omega)
      clear hget
      cases hq : inB n y with
      | false =>
        rw [hq] at HW
        have er := HP1.out i y HG.out hq
        subst er
        go_wp2_with (go_at_call 69; refine HW.out.mono ?_; rintro e w1 ⟨rfl, hw⟩; replace hw := hw.symm; subst hw)
        go_ret
        exact ⟨rfl, HBz.out⟩
      | true =>
        rw [hq] at HW
        have hr : 0 ≤ y ∧ y < n := by simp [inB] at hq; omega
        obtain ⟨m, rfl⟩ : ∃ m : Nat, y = m := ⟨y.toNat, by omega⟩
        have m0 : (0 : Int) ≤ m := by omega
        have m1 : (m : Int) < n := by omega
        have HI2 := hid (all_step HG.out hq HI.out)
        obtain ⟨g1, g2⟩ := HM.out m (by omega)
        cases hs : (params.take i).contains (m : Int) with
        | true =>
          rw [hs] at g1
          have er : r = false := by
            rw [List.contains_iff_mem] at hs
            obtain ⟨k, hk⟩ := List.getElem?_of_mem hs
            have hki : k < i := by have := (List.getElem?_eq_some_iff.1 hk).1; simp at this; omega
            rw [List.getElem?_take, if_pos hki] at hk
            exact HP2.out k i m hki hk HG.out
          subst er
          clear hs hq hr
          go_wp2_with (go_at_call 69; refine HW.out.mono ?_; rintro e w1 ⟨rfl, hw⟩; replace hw := hw.symm; subst hw)
          go_ret
          exact ⟨rfl, HBz.out⟩
        | false =>
          rw [hs] at g1
          have HJ2 : Hid (∀ (a j : Nat) x y, a < j → j < i + 1 → params[a]? = some x → params[j]? = some y → x ≠ y) := fun a j x' y' h1 h2 h3 h4 => by
            by_cases e : j = i
            · subst e; rw [HG.out] at h4; cases h4
              intro e2; subst e2
              have : (m : Int) ∈ params.take j := List.mem_of_getElem? (i := a) (by rw [List.getElem?_take, if_pos h1]; exact h3)
              rw [← List.contains_iff_mem, hs] at this
              cases this
            · exact HJ.out a j x' y' h1 (by omega) h3 h4
          have HM2 := hid (marks_step HM.out (by omega) HG.out)
          clear hs hq hr
          go_wp2_with (go_at_call 69; refine HW.out.mono ?_; rintro e w1 ⟨rfl, hw⟩; replace hw := hw.symm; subst hw)
          go_roundw
          case rel => exact ⟨i + 1, by omega, by simp, HI2, HJ2, HM2, hid (bel_set HBz.out (by simp) _)⟩
          case measure => simp [intOf]; omega
    · obtain rfl : np = i := by omega
      have er : r = true := HP3.out HI.out HJ.out
      subst er
      go_wp2
      go_ret
      exact ⟨rfl, HBz.out⟩
theorem hasParams_any {w : World} {fb fo : Nat} {pv : Value} {params : List Int} {regs : Int} (c1 : w.cell? ⟨fb, fo + 1, none⟩ = some pv) (c2 : w.cell? ⟨fb, fo + 2, none⟩ = some (.int .i64 regs)) (h : IL w pv params) (h0 : 0 ≤ regs) (h1 : regs ≤ 5000) :
    Calls Tryz.prog 47 #[.pointer (some ⟨fb, fo, none⟩)] w (retP (.bool (parF regs params)) w) := by
  obtain ⟨pa, pcap, pb, po, rfl, hl, ha, hc⟩ := h.parts
  obtain ⟨n, rfl⟩ : ∃ n : Nat, regs = n := ⟨regs.toNat, by omega⟩
  refine hasParams_walk fb fo pa _ pcap pb po n params _ w c1 c2 (by omega) hl rfl ha hc (fun i x h1 h2 => ?_) (fun i j x h0 h1 h2 => ?_) (fun h1 h2 => ?_)
  · rw [parF, all_bad h1 h2]; rfl
  · rw [parF, Bool.and_eq_false_iff]
    right
    rw [decide_eq_false_iff_not]
    intro hnd
    exact nodup_get.1 hnd i j x x h0 h1 h2 rfl
  · rw [parF, all_good rfl h1, Bool.true_and, decide_eq_true_eq]
    exact nodup_get.2 fun i j x y h3 h4 h5 => h2 i j x y h3 (List.getElem?_eq_some_iff.1 h5).1 h4 h5
end Go.Proofs.YthieicjnenlpfaaGreatDoor

