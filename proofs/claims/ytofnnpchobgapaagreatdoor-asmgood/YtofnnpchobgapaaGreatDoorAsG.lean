/- Package asm: is a program well formed? -/
import Derived.Test.YtofnnpchobgapaaGreatDoorAsT
import Derived.Test.YtofnnpchobgapaaGreatDoorAsMap
namespace Go.Proofs.YtofnnpchobgapaaGreatDoor
open Go.ChangeShapes Go.WideShapes Go.ChangeAt Go.RowKit
set_option linter.unusedSimpArgs false
set_option linter.unusedVariables false

theorem aall_bad {α : Type} {f : α → Bool} {l : List α} {i : Nat} {x : α} (h : l[i]? = some x) (hx : f x = false) : l.all f = false := by
  rw [List.all_eq_false]
  exact ⟨x, List.mem_of_getElem? h, by simp [hx]⟩
theorem aall_good {α : Type} {f : α → Bool} {l : List α} {n : Nat} (hn : n = l.length) (h : ∀ (j : Nat) x, j < n → l[j]? = some x → f x = true) : l.all f = true := by
  rw [List.all_eq_true]
  intro x hx
  obtain ⟨j, hj⟩ := List.getElem?_of_mem hx
  exact h j x (by rw [hn]; exact (List.getElem?_eq_some_iff.1 hj).1) hj
theorem aall_step {α : Type} {f : α → Bool} {l : List α} {i : Nat} {x : α} (hget : l[i]? = some x) (hf : f x = true) (h : ∀ (j : Nat) y, j < i → l[j]? = some y → f y = true) : ∀ (j : Nat) y, j < i + 1 → l[j]? = some y → f y = true := fun j y hj hy => by
  by_cases e : j = i
  · subst e; rw [hget] at hy; cases hy; exact hf
  · exact h j y (by omega) hy
set_option maxHeartbeats 4000000 in
theorem aglobals_walk (pb po : Nat) (ga : Option Addr) (ng gcap gb go : Nat) (globals : List Int) (r : Bool) (w : World) (c0 : w.cell? ⟨pb, po, none⟩ = some (.slice ga ng gcap)) (hg : ng * 8 ≤ 140737488355328) (HN : Hid (ng = globals.length)) (HA : Hid (0 < ng → ga = some ⟨gb, go, none⟩)) (HC : Hid (∀ (i : Nat) x, globals[i]? = some x → w.cell? ⟨gb, go + i, none⟩ = some (.int .i64 x)))
    (HE : Hid (r = globalsA globals)) :
    Calls Tryz.prog 16 #[.pointer (some ⟨pb, po, none⟩)] w fun e w' => e = .returned (.bool r) ∧ w' = w := by
  have hnm : (ng : Int) ≤ 9223372036854775807 := by omega
  have HB : Hid (∀ (i : Nat) x, globals[i]? = some x → awB x 65536 = false → r = false) := fun i x h1 h2 => by rw [HE.out, globalsA, aall_bad h1 h2]; rfl
  go_enter Tryz.func16, Tryz.ntmps16
  go_wp2
  go_loopw [10] (fun vv wz => ∃ i : Nat, i ≤ ng ∧ vv = .int .i64 i ∧ Hid (∀ (j : Nat) y, j < i → globals[j]? = some y → awB y 65536 = true) ∧ wz = w) (fun vv _ => ng - (intOf vv).toNat)
  case atStart => exact ⟨0, by omega, rfl, fun j y hj => by omega, rfl⟩
  case round =>
    obtain ⟨i, hi, rfl, HI, rfl⟩ := hrel
    by_cases hin : i < ng
    · obtain rfl := HA.out (by omega)
      have j0 : (0 : Int) ≤ i := by omega
      have j1 : (i : Int) < ng := by omega
      have hget := List.getElem?_eq_getElem (l := globals) (show i < globals.length by rw [← HN.out]; exact hin)
      generalize globals[i]'(by rw [← HN.out]; exact hin) = y at hget
      have cx := HC.out i y hget
      have HG := hid hget
      have HW : Hid (∀ W, Calls Tryz.prog 25 #[.int .i64 y, .int .i64 65536] W fun e w' => e = .returned (.bool (awB y 65536)) ∧ w' = W) := fun W => awithin_any y 65536 W
      clear hget
      cases hq : awB y 65536 with
      | false =>
        rw [hq] at HW
        have er := HB.out i y HG.out hq
        subst er
        go_wp2_with (go_at_call 25; refine (HW.out _).mono ?_; rintro e w1 ⟨rfl, hw⟩; subst hw)
        go_ret
        exact ⟨rfl, rfl⟩
      | true =>
        rw [hq] at HW
        have HI2 := hid (aall_step HG.out hq HI.out)
        go_wp2_with (go_at_call 25; refine (HW.out _).mono ?_; rintro e w1 ⟨rfl, hw⟩; subst hw)
        go_roundw
        case rel => exact ⟨i + 1, by omega, by simp, HI2, trivial⟩
        case measure => simp [intOf]; omega
    · obtain rfl : ng = i := by omega
      have er : r = decide ((ng : Int) ≤ 200) := by rw [HE.out, globalsA, aall_good HN.out HI.out, HN.out]; rfl
      subst er
      go_wp2
      go_ret
      exact ⟨by simp, rfl⟩
theorem aglobals_any {w : World} {pb po : Nat} {gv : Value} {globals : List Int} (c0 : w.cell? ⟨pb, po, none⟩ = some gv) (h : IL w gv globals) :
    Calls Tryz.prog 16 #[.pointer (some ⟨pb, po, none⟩)] w fun e w' => e = .returned (.bool (globalsA globals)) ∧ w' = w := by
  obtain ⟨ga, gcap, gb, go, rfl, hl, ha, hc⟩ := h.parts
  exact aglobals_walk pb po ga _ gcap gb go globals _ w c0 hl rfl ha hc rfl
set_option maxHeartbeats 4000000 in
theorem asome_walk (ca : Option Addr) (n cap cb co : Nat) (code : List AIns) (r : Bool) (w : World) (hn : n * 56 ≤ 140737488355328) (HN : Hid (n = code.length)) (HA : Hid (0 < n → ca = some ⟨cb, co, none⟩)) (HC : Hid (∀ (i : Nat) x, code[i]? = some x → AInsAt w cb (co + i * 7) x)) (HE : Hid (r = someA code)) :
    Calls Tryz.prog 38 #[.slice ca n cap] w fun e w' => e = .returned (.bool r) ∧ w' = w := by
  have hnm : (n : Int) ≤ 9223372036854775807 := by omega
  have HB : Hid (∀ (i : Nat) x, code[i]? = some x → (x.op == 20) = false → r = true) := fun i x h1 h2 => by rw [HE.out, someA, List.any_eq_true]; exact ⟨x, List.mem_of_getElem? h1, by simpa using h2⟩
  go_enter Tryz.func38, Tryz.ntmps38
  go_wp2
  go_loopw [6] (fun vv wz => ∃ i : Nat, i ≤ n ∧ vv = .int .i64 i ∧ Hid (∀ (j : Nat) y, j < i → code[j]? = some y → (y.op == 20) = true) ∧ wz = w) (fun vv _ => n - (intOf vv).toNat)
  case atStart => exact ⟨0, by omega, rfl, fun j y hj => by omega, rfl⟩
  case round =>
    obtain ⟨i, hi, rfl, HI, rfl⟩ := hrel
    by_cases hin : i < n
    · obtain rfl := HA.out (by omega)
      have j0 : (0 : Int) ≤ i := by omega
      have j1 : (i : Int) < n := by omega
      have hget := List.getElem?_eq_getElem (l := code) (show i < code.length by rw [← HN.out]; exact hin)
      generalize code[i]'(by rw [← HN.out]; exact hin) = y at hget
      have HG := hid hget
      have cx := (HC.out i y hget).1
      clear hget
      cases hq : (y.op == 20) with
      | false =>
        have er := HB.out i y HG.out hq
        subst er
        go_wp2
        go_ret
        exact ⟨rfl, rfl⟩
      | true =>
        have HI2 := hid (aall_step (f := fun y : AIns => y.op == 20) HG.out hq HI.out)
        go_wp2
        go_roundw
        case rel => exact ⟨i + 1, by omega, by simp, HI2, trivial⟩
        case measure => simp [intOf]; omega
    · obtain rfl : n = i := by omega
      have er : r = false := by
        rw [HE.out, someA, List.any_eq_false]
        intro x hx
        obtain ⟨j, hj⟩ := List.getElem?_of_mem hx
        have := HI.out j x (by rw [HN.out]; exact (List.getElem?_eq_some_iff.1 hj).1) hj
        simpa using this
      subst er
      go_wp2
      go_ret
      exact ⟨rfl, rfl⟩
/-- Labels are numbers that the machine has. -/
def LbOk (code : List AIns) : Prop := ∀ x ∈ code, (x.op = 18 ∨ x.op = 19 ∨ x.op = 20) → 0 ≤ x.l ∧ x.l ≤ 10000000
set_option maxRecDepth 100000 in
set_option maxHeartbeats 4000000 in
theorem aplaces_walk (ca : Option Addr) (n cap cb co : Nat) (code : List AIns) (w : World) (hn : n * 56 ≤ 140737488355328) (HN : Hid (n = code.length)) (HA : Hid (0 < n → ca = some ⟨cb, co, none⟩)) (HC : Hid (∀ (i : Nat) x, code[i]? = some x → AInsAt w cb (co + i * 7) x)) (HL : Hid (LbOk code)) :
    Calls Tryz.prog 63 #[.slice ca n cap] w fun e w' => e = .returned (.map (some w.heap.size)) ∧ LabMap w' w.heap.size n (plA code n) ∧ Below w.heap.size w w' := by
  have hnm : (n : Int) ≤ 9223372036854775807 := by omega
  have mk := amake
  have H0 : Hid (LabMap (w.alloc (.map #[] 0)) w.heap.size 0 (plA code 0) ∧ Below w.heap.size w (w.alloc (.map #[] 0))) := ⟨LabMap.made w, bel_alloc (Below.refl _ _) _⟩
  go_enter Tryz.func63, Tryz.ntmps63
  go_wp2
  go_loopw [8] (fun vv wz => ∃ i : Nat, i ≤ n ∧ vv = .int .i64 i ∧ Hid (LabMap wz w.heap.size i (plA code i) ∧ Below w.heap.size w wz)) (fun vv _ => n - (intOf vv).toNat)
  case atStart => exact ⟨0, by omega, rfl, H0⟩
  case round =>
    clear H0 mk
    obtain ⟨i, hi, rfl, HI⟩ := hrel
    rename World => wz
    by_cases hin : i < n
    · obtain rfl := HA.out (by omega)
      have j0 : (0 : Int) ≤ i := by omega
      have j1 : (i : Int) < n := by omega
      have hget := List.getElem?_eq_getElem (l := code) (show i < code.length by rw [← HN.out]; exact hin)
      generalize code[i]'(by rw [← HN.out]; exact hin) = y at hget
      have HG := hid hget
      obtain ⟨cx, _, _, _, _, cl, _⟩ := (HC.out i y hget).keep HI.out.2
      clear hget
      cases hq : (y.op == 20) with
      | false =>
        have HI2 : Hid (LabMap wz w.heap.size (i + 1) (plA code (i + 1)) ∧ Below w.heap.size w wz) := by
          refine ⟨?_, HI.out.2⟩
          have hne : ¬ y.op = 20 := by simpa using hq
          rw [plA_step HG.out, plStep, if_neg hne]
          obtain ⟨D, ⟨es, c0, h1, h2, h3, h4⟩, h5⟩ := HI.out.1
          exact ⟨D, ⟨es, c0, h1, h2, by omega, h4⟩, h5⟩
        go_wp2
        go_roundw
        case rel => exact ⟨i + 1, by omega, by simp, HI2⟩
        case measure => simp [intOf]; omega
      | true =>
        have hop : y.op = 20 := by simpa using hq
        have hr := HL.out y (List.mem_of_getElem? HG.out) (.inr (.inr hop))
        obtain ⟨w2, hr2, hm2, hg2⟩ := HI.out.1.put (by unfold maxLen; omega) hop (by omega) (by omega) (j := i) (by omega)
        have HI2 : Hid (LabMap w2 w.heap.size (i + 1) (plA code (i + 1)) ∧ Below w.heap.size w w2) := by
          refine ⟨?_, ?_⟩
          · rw [plA_step HG.out]; exact hm2
          · exact ⟨hg2.os.trans HI.out.2.os, hg2.tape.trans HI.out.2.tape, hg2.output.trans HI.out.2.output, Nat.le_trans HI.out.2.size hg2.size, fun k hk => (hg2.block k (Nat.lt_of_lt_of_le hk HI.out.2.size) (by intro e; cases e; omega)).trans (HI.out.2.block k hk)⟩
        clear hm2 hg2 hr hop
        go_wp2
        go_roundw
        case rel => exact ⟨i + 1, by omega, by simp, HI2⟩
        case measure => simp [intOf]; omega
    · obtain rfl : n = i := by omega
      go_wp2
      go_ret
      exact ⟨rfl, HI.out.1, HI.out.2⟩

end Go.Proofs.YtofnnpchobgapaaGreatDoor
