/- Package flow: contracts of its leaves. -/
import Derived.Test.YtfeglcpipcjaeaaGreatDoorFlFrom
namespace Go.Proofs.YtfeglcpipcjaeaaGreatDoor
open Go.ChangeShapes Go.WideShapes Go.ChangeAt Go.RowKit
set_option linter.unusedSimpArgs false
set_option linter.unusedVariables false

def inM (m x : Int) : Bool := decide (0 ≤ x) && decide (x ≤ m)
set_option maxHeartbeats 1000000 in
theorem fwithin_any (n m : Int) (w : World) : Calls Tryz.prog 34 #[.int .i64 n, .int .i64 m] w fun e w' => e = .returned (.bool (inM m n)) ∧ w' = w := by
  by_cases h : 0 ≤ n
  · go_enter Tryz.func34, Tryz.ntmps34
    go_wp2
    go_ret
    exact ⟨by simp [inM, h], rfl⟩
  · have q : decide (0 ≤ n) = false := by simpa using h
    go_enter Tryz.func34, Tryz.ntmps34
    go_wp2
    go_ret
    exact ⟨by simp only [inM, q]; rfl, rfl⟩
set_option maxRecDepth 100000 in
set_option maxHeartbeats 4000000 in
theorem allWithin_walk (la : Option Addr) (n lc : Nat) (l : List Int) (m : Int) (r : Bool) (w : World) (HN : Hid (n = l.length)) (hn : n * 8 ≤ 140737488355328) (HL : Hid (IL w (.slice la n lc) l))
    (HP : Hid (∀ (i : Nat) x, l[i]? = some x → inM m x = false → r = false)) (HQ : Hid ((∀ (i : Nat) x, i < n → l[i]? = some x → inM m x = true) → r = true)) :
    Calls Tryz.prog 35 #[.slice la n lc, .int .i64 m] w fun e w' => e = .returned (.bool r) ∧ w' = w := by
  have hnm : (n : Int) ≤ 9223372036854775807 := by omega
  go_enter Tryz.func35, Tryz.ntmps35
  go_wp2
  go_loopw [9] (fun vv wz => ∃ i : Nat, i ≤ n ∧ vv = .int .i64 i ∧ Hid (∀ (j : Nat) x, j < i → l[j]? = some x → inM m x = true) ∧ wz = w) (fun vv _ => n - (intOf vv).toNat)
  case atStart => exact ⟨0, by omega, rfl, fun j x hj => by omega, rfl⟩
  case round =>
    obtain ⟨i, hi, rfl, HI, hwz⟩ := hrel
    replace hwz := hwz.symm
    subst hwz
    by_cases hin : i < n
    · have j0 : (0 : Int) ≤ i := by omega
      have j1 : (i : Int) < n := by omega
      have hget := List.getElem?_eq_getElem (l := l) (show i < l.length by rw [← HN.out]; exact hin)
      generalize l[i]'(by rw [← HN.out]; exact hin) = y at hget
      obtain ⟨va2, vc2, hv2, _, _, h2⟩ := HL.out
      obtain ⟨vb, vo, rfl, hc⟩ := h2 (fun e => by rw [e] at hget; simp at hget)
      injection hv2 with q1 q2 q3
      subst q1
      have cx := hc i y hget
      have HG := hidF hget
      have HW := hidF (fwithin_any y m)
      clear hget hc h2 q2 q3
      cases hq : inM m y with
      | false =>
        rw [hq] at HW
        have er := HP.out i y HG.out hq
        subst er
        go_wp2_with (go_at_call 34; refine (HW.out _).mono ?_; rintro e w1 ⟨rfl, hw⟩; subst hw)
        go_ret
        exact ⟨rfl, rfl⟩
      | true =>
        rw [hq] at HW
        have HI2 : Hid (∀ (j : Nat) x, j < i + 1 → l[j]? = some x → inM m x = true) := fun j x hj hx => by
          by_cases e : j = i
          · subst e; rw [HG.out] at hx; cases hx; exact hq
          · exact HI.out j x (by omega) hx
        clear hq
        go_wp2_with (go_at_call 34; refine (HW.out _).mono ?_; rintro e w1 ⟨rfl, hw⟩; subst hw)
        go_roundw
        case rel => exact ⟨i + 1, by omega, by simp, HI2.out, by first | trivial | rfl⟩
        case measure => simp [intOf]; omega
    · obtain rfl : n = i := by omega
      have er : r = true := HQ.out (fun j x hj hx => HI.out j x hj hx)
      subst er
      go_wp2
      go_ret
      exact ⟨rfl, rfl⟩
theorem allWithin_any {w : World} {v : Value} {l : List Int} (h : IL w v l) (m : Int) : Calls Tryz.prog 35 #[v, .int .i64 m] w fun e w' => e = .returned (.bool (l.all (inM m))) ∧ w' = w := by
  obtain ⟨a, cap, rfl, h8⟩ := h.partsF
  refine allWithin_walk a l.length cap l m _ w rfl h8 h (fun i x hx hf => ?_) (fun ha => ?_)
  · rw [Bool.eq_false_iff]
    intro ht
    rw [List.all_eq_true] at ht
    rw [ht x (List.mem_of_getElem? hx)] at hf
    cases hf
  · rw [List.all_eq_true]
    intro x hx
    obtain ⟨i, hi, rfl⟩ := List.mem_iff_getElem.1 hx
    exact ha i _ hi (List.getElem?_eq_getElem hi)
/-- A made row. -/
theorem made_get (x : Value) (n j : Nat) (h : j < n) : (madeCells #[x] n)[j]? = some x := by
  rw [Array.getElem?_eq_getElem (by rw [size_madeCells]; simpa using h)]
  simp [madeCells, Nat.mod_one]
theorem made_at (w : World) (x : Value) (n : Nat) (e : TypeId) (j : Nat) (h : j < n) : (w.alloc (.cells (madeCells #[x] n) e (0, 0))).cell? ⟨w.heap.size, j, none⟩ = some x ∧ (w.alloc (.cells (madeCells #[x] n) e (0, 0))).frozen? ⟨w.heap.size, j, none⟩ = false := by
  have hh : (w.alloc (.cells (madeCells #[x] n) e (0, 0))).heap[w.heap.size]? = some (.cells (madeCells #[x] n) e (0, 0)) := by
    show (w.heap.push _)[w.heap.size]? = _
    simp
  constructor
  · unfold World.cell?
    rw [hh]
    simpa using made_get x n j h
  · unfold World.frozen?
    rw [hh]
    simp
theorem infoBoolF : (Tryz.prog.info? 4).map (fun i => (i.zero, i.size, i.bytes)) = some (some (.bool false), 1, 1) := by kernel_rfl
theorem infoInt : (Tryz.prog.info? 3).map (fun i => (i.zero, i.size, i.bytes)) = some (some (.int .i64 0), 1, 8) := by kernel_rfl
theorem infoRow : (Tryz.prog.info? 22).map (fun i => (i.zero, i.size, i.bytes)) = some (some (.slice none 0 0), 1, 24) := by kernel_rfl

theorem mk_bools (n : Nat) (hn : n ≤ 1000000) (w : World) : (Instr.makeSlice 34 (.int .i64 n) (.int .i64 n)).run Tryz.prog w = .ok (.slice (some ⟨w.heap.size, 0, none⟩) n n) (w.alloc (.cells (madeCells #[.bool false] n) 4)) := by
  obtain ⟨i0, hi, hz0, hz1, hz2⟩ := info_parts infoBoolF
  have := run_make (P := Tryz.prog) w 34 4 i0 (.bool false) Tryz.underlying34 hi hz0 .i64 .i64 n n (by omega) (by omega) (by rw [hz2]; omega) (by omega)
  rw [this, hz1]
  simp [Value.cells]

theorem mk_ints (n : Nat) (hn : n ≤ 1000000) (w : World) : (Instr.makeSlice 22 (.int .i64 n) (.int .i64 n)).run Tryz.prog w = .ok (.slice (some ⟨w.heap.size, 0, none⟩) n n) (w.alloc (.cells (madeCells #[.int .i64 0] n) 3)) := by
  obtain ⟨i0, hi, hz0, hz1, hz2⟩ := info_parts infoInt
  have := run_make (P := Tryz.prog) w 22 3 i0 (.int .i64 0) Tryz.underlying22 hi hz0 .i64 .i64 n n (by omega) (by omega) (by rw [hz2]; omega) (by omega)
  rw [this, hz1]
  simp [Value.cells]

theorem mk_rows (n : Nat) (hn : n ≤ 1000000) (w : World) : (Instr.makeSlice 28 (.int .i64 n) (.int .i64 n)).run Tryz.prog w = .ok (.slice (some ⟨w.heap.size, 0, none⟩) n n) (w.alloc (.cells (madeCells #[.slice none 0 0] n) 22)) := by
  obtain ⟨i0, hi, hz0, hz1, hz2⟩ := info_parts infoRow
  have := run_make (P := Tryz.prog) w 28 22 i0 (.slice none 0 0) Tryz.underlying28 hi hz0 .i64 .i64 n n (by omega) (by omega) (by rw [hz2]; omega) (by omega)
  rw [this, hz1]
  simp [Value.cells]

set_option maxHeartbeats 2000000 in
theorem newSearch_any (NB n cn : Nat) (hn : n ≤ 1000000) (w : World) : Calls Tryz.prog 39 #[.slice (some ⟨NB, 0, none⟩) n cn] w fun e w' => e = .returned (.pointer (some ⟨w.heap.size + 1, 0, none⟩)) ∧
    w' = (w.alloc (.cells (madeCells #[.bool false] n) 4)).alloc (.cells #[.slice (some ⟨NB, 0, none⟩) n cn, .slice (some ⟨w.heap.size, 0, none⟩) n n] 101) := by
  have mk := mk_bools n hn
  go_enter Tryz.func39, Tryz.ntmps39
  go_wp2
  go_ret
  exact ⟨by simp, rfl⟩
set_option maxHeartbeats 2000000 in
theorem from_any (XB : Nat) (sa : Option Addr) (sn sc : Nat) (w : World) : Calls Tryz.prog 44 #[.pointer (some ⟨XB, 0, none⟩), .slice sa sn sc] w fun e w' => e = .returned (.func (.func 65) #[] #[.pointer (some ⟨w.heap.size + 1, 0, none⟩), .pointer (some ⟨w.heap.size, 0, none⟩)]) ∧
    w' = (w.alloc (.cells #[.pointer (some ⟨XB, 0, none⟩)] 73)).alloc (.cells #[.slice sa sn sc] 22) := by
  have hmf : ∀ (fn : Go.Fn) (first cap : Array Value) (w : World), (Instr.makeFunc fn first cap).run Tryz.prog w = .ok (.func fn first cap) w := fun _ _ _ _ => rfl
  go_enter Tryz.func44, Tryz.ntmps44
  go_wp2
  go_ret
  exact ⟨by simp, rfl⟩
end Go.Proofs.YtfeglcpipcjaeaaGreatDoor

