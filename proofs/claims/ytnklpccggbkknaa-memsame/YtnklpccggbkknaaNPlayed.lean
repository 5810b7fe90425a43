/- Contract of the laws' helper: two memories that were told the same. -/
import Derived.Test.YtnklpccggbkknaaNPair
import Derived.Test.YtnklpccggbkknaaMActs
namespace Go.Proofs.Ytnklpccggbkknaa
open Go.ChangeShapes Go.WideShapes Go.ChangeAt Go.RowKit Pl
set_option linter.unusedSimpArgs false
set_option linter.unusedVariables false


set_option maxRecDepth 100000 in
set_option maxHeartbeats 8000000 in
theorem played_walk (a0 : Option Addr) (b off len cap : Nat) (Z : Nat → Nat → Int) (w : World) (hlen : (len : Int) ≤ 80) (hac : 0 < len → a0 = some ⟨b, off, none⟩ ∧ ∀ i, i < len → ∀ j, j < 9 → w.cell? ⟨b, off + i * 9 + j, none⟩ = some (.int .i64 (Z i j))) :
    Calls Try.prog 25 #[.slice a0 len cap] w fun e w' => e = .returned (.tuple #[.pointer (some ⟨w.heap.size, 0, none⟩), .pointer (some ⟨w.heap.size + 1, 0, none⟩)]) ∧ PP w w' w.heap.size (w.heap.size + 1) (playM Z len) (playN Z len) := by
  have H0 : Hid (PP w ((w.alloc (.cells #[.slice none 0 0, .int .i64 0] 64)).alloc (.cells #[.slice none 0 0, .slice none 0 0] 30)) w.heap.size (w.heap.size + 1) (playM Z 0) (playN Z 0)) := by
    have h1 := new_mem w w.heap.size (Nat.le_refl _)
    have h2 := rnew_mem (w.alloc (.cells #[.slice none 0 0, .int .i64 0] 64)) w.heap.size (by simp)
    rw [World.size_alloc] at h2
    refine ⟨_, _, h1.below ((Below.refl _ _).alloc (Nat.le_refl _) _), h2, fun b hb => ?_, ((Below.refl _ w).alloc (Nat.le_refl _) _).alloc (by simp) _⟩
    by_cases e : b = w.heap.size
    · subst e; simp [oneR]
    · simp [oneR, e] at hb
  go_enter Try.func25, Try.ntmps25
  go_wp2_with (go_at_call 7; refine (new_any _).mono ?_; rintro e w' ⟨rfl, rfl⟩)
  go_loopw [6] (fun v wr => ∃ i : Nat, i ≤ len ∧ v = .int .i64 i ∧ Hid (PP w wr w.heap.size (w.heap.size + 1) (playM Z i) (playN Z i))) (fun v _ => len - (intOf v).toNat)
  case atStart => exact ⟨0, by omega, rfl, H0⟩
  case round =>
    obtain ⟨i, hi, rfl, HP⟩ := hrel
    by_cases hin : i < len
    · obtain ⟨rfl, hc0⟩ := hac (by omega)
      have hc : ∀ i, i < len → ∀ j, j < 9 → wr.cell? ⟨b, off + i * 9 + j, none⟩ = some (.int .i64 (Z i j)) := fun i hi j hj => by
        obtain ⟨R, Q, _, _, _, hB⟩ := HP.out
        exact keep_cell hB (hc0 i hi j hj)
      have i0 : (0 : Int) ≤ i := by omega
      have i1 : (i : Int) < len := by omega
      have y0 : wr.cell? ⟨b, off + i * 9, none⟩ = some (.int .i64 (Z i 0)) := hc i hin 0 (by omega)
      have y1 : wr.cell? ⟨b, off + i * 9 + 1, none⟩ = some (.int .i64 (Z i 1)) := hc i hin 1 (by omega)
      have y2 : wr.cell? ⟨b, off + i * 9 + 2, none⟩ = some (.int .i64 (Z i 2)) := hc i hin 2 (by omega)
      have y3 : wr.cell? ⟨b, off + i * 9 + 3, none⟩ = some (.int .i64 (Z i 3)) := hc i hin 3 (by omega)
      have y4 : wr.cell? ⟨b, off + i * 9 + 4, none⟩ = some (.int .i64 (Z i 4)) := hc i hin 4 (by omega)
      have y5 : wr.cell? ⟨b, off + i * 9 + 5, none⟩ = some (.int .i64 (Z i 5)) := hc i hin 5 (by omega)
      have y6 : wr.cell? ⟨b, off + i * 9 + 6, none⟩ = some (.int .i64 (Z i 6)) := hc i hin 6 (by omega)
      have y7 : wr.cell? ⟨b, off + i * 9 + 7, none⟩ = some (.int .i64 (Z i 7)) := hc i hin 7 (by omega)
      have y8 : wr.cell? ⟨b, off + i * 9 + 8, none⟩ = some (.int .i64 (Z i 8)) := hc i hin 8 (by omega)
      clear hc hc0
      have HX : Hid (PX w (wr.alloc (.cells #[.int .i64 (Z i 0), .int .i64 (Z i 1), .int .i64 (Z i 2), .int .i64 (Z i 3), .int .i64 (Z i 4), .int .i64 (Z i 5), .int .i64 (Z i 6), .int .i64 (Z i 7), .int .i64 (Z i 8)] 34)) w.heap.size (w.heap.size + 1) wr.heap.size (Z i) (playM Z i) (playN Z i)) := by
        refine HP.out.box ((Below.refl _ _).alloc (Nat.le_refl _) _) (Nat.le_refl _) (fun j hj => ?_)
        match j, hj with
        | 0, _ => go_simp
        | 1, _ => go_simp
        | 2, _ => go_simp
        | 3, _ => go_simp
        | 4, _ => go_simp
        | 5, _ => go_simp
        | 6, _ => go_simp
        | 7, _ => go_simp
        | 8, _ => go_simp
      have HPT : Hid ((playN Z i).ptrs.length < 100000) := by have := ptrs_play Z i; show _ < _; omega
      clear HP H0
      by_cases h0 : Z i 0 = 0
      · have q0 : (Z i 0 == 0) = true := by simp [h0]
        have K0 : Hid (Z i 0 = 0) := h0
        clear h0
        by_cases hs : Z i 1 ≤ 4096
        · have qs : decide (Z i 1 ≤ 4096) = true := decide_eq_true hs
          obtain ⟨⟨M1, Ma, Mb⟩, hM⟩ : ∃ t, allocM (playM Z i) (Z i 1) = t := ⟨_, rfl⟩
          have HM : Hid (allocM (playM Z i) (Z i 1) = (M1, Ma, Mb)) := hM
          clear hM
          obtain ⟨⟨N1, Na, Nb⟩, hN⟩ : ∃ t, allocN (playN Z i) (Z i 1) = t := ⟨_, rfl⟩
          have HN : Hid (allocN (playN Z i) (Z i 1) = (N1, Na, Nb)) := hN
          clear hN
          go_wp2_with fail
          refine (px_alloc HX.out (Z i 1) HM.out).mono ?_
          rintro e w1 ⟨rfl, hx1⟩
          have x1 := hx1.cell (j := 1) (by omega)
          have HX1 : Hid (PX w w1 w.heap.size (w.heap.size + 1) wr.heap.size (Z i) M1 (playN Z i)) := hx1
          clear hx1
          go_wp2_with fail
          refine (rx_alloc HX1.out (Z i 1) HN.out).mono ?_
          rintro e w2 ⟨rfl, hx2⟩
          have HX2 : Hid (PP w w2 w.heap.size (w.heap.size + 1) (playM Z (i + 1)) (playN Z (i + 1))) := by
            have e1 : playM Z (i + 1) = M1 := by simp [playM, stepM, K0.out, hs, HM.out]
            have e2 : playN Z (i + 1) = N1 := by simp [playN, stepN, K0.out, hs, HN.out]
            rw [e1, e2]
            exact hx2.pp
          clear hx2
          go_wp2
          go_roundw
          case rel => exact ⟨i + 1, by omega, by simp, HX2⟩
          case measure => simp [intOf]; omega
        · have qs : decide (Z i 1 ≤ 4096) = false := decide_eq_false hs
          have HX2 : Hid (PP w (wr.alloc (.cells #[.int .i64 (Z i 0), .int .i64 (Z i 1), .int .i64 (Z i 2), .int .i64 (Z i 3), .int .i64 (Z i 4), .int .i64 (Z i 5), .int .i64 (Z i 6), .int .i64 (Z i 7), .int .i64 (Z i 8)] 34)) w.heap.size (w.heap.size + 1) (playM Z (i + 1)) (playN Z (i + 1))) := by
            have e1 : playM Z (i + 1) = playM Z i := by simp [playM, stepM, K0.out, hs]
            have e2 : playN Z (i + 1) = playN Z i := by simp [playN, stepN, K0.out, hs]
            rw [e1, e2]
            exact HX.out.pp
          go_wp2
          go_roundw
          case rel => exact ⟨i + 1, by omega, by simp, HX2⟩
          case measure => simp [intOf]; omega
      have q0 : (Z i 0 == 0) = false := by simpa using h0
      by_cases h1 : Z i 0 = 1
      · have q1 : (Z i 0 == 1) = true := by simp [h1]
        have K0 : Hid (Z i 0 = 1) := h1
        clear h1
        obtain ⟨⟨M1, Ma⟩, hM⟩ : ∃ t, freeM (playM Z i) (Z i 1) = t := ⟨_, rfl⟩
        have HM : Hid (freeM (playM Z i) (Z i 1) = (M1, Ma)) := hM
        clear hM
        obtain ⟨⟨N1, Na⟩, hN⟩ : ∃ t, freeN (playN Z i) (Z i 1) = t := ⟨_, rfl⟩
        have HN : Hid (freeN (playN Z i) (Z i 1) = (N1, Na)) := hN
        clear hN
        go_wp2_with fail
        refine (px_free HX.out (Z i 1) HM.out).mono ?_
        rintro e w1 ⟨rfl, hx1⟩
        have x1 := hx1.cell (j := 1) (by omega)
        have HX1 : Hid (PX w w1 w.heap.size (w.heap.size + 1) wr.heap.size (Z i) M1 (playN Z i)) := hx1
        clear hx1
        go_wp2_with fail
        refine (rx_free HX1.out (Z i 1) HN.out).mono ?_
        rintro e w2 ⟨rfl, hx2⟩
        have HX2 : Hid (PP w w2 w.heap.size (w.heap.size + 1) (playM Z (i + 1)) (playN Z (i + 1))) := by
          have e1 : playM Z (i + 1) = M1 := by simp [playM, stepM, K0.out, HM.out]
          have e2 : playN Z (i + 1) = N1 := by simp [playN, stepN, K0.out, HN.out]
          rw [e1, e2]
          exact hx2.pp
        clear hx2
        go_wp2
        go_roundw
        case rel => exact ⟨i + 1, by omega, by simp, HX2⟩
        case measure => simp [intOf]; omega
      have q1 : (Z i 0 == 1) = false := by simpa using h1
      by_cases h3 : Z i 0 = 3
      · have q3 : (Z i 0 == 3) = true := by simp [h3]
        have K0 : Hid (Z i 0 = 3) := h3
        clear h3
        obtain ⟨⟨M1, Ma⟩, hM⟩ : ∃ t, storeM (playM Z i) (Z i 2) ⟨Z i 3, Z i 4, Z i 5⟩ ⟨Z i 6, Z i 7, Z i 8⟩ = t := ⟨_, rfl⟩
        have HM : Hid (storeM (playM Z i) (Z i 2) ⟨Z i 3, Z i 4, Z i 5⟩ ⟨Z i 6, Z i 7, Z i 8⟩ = (M1, Ma)) := hM
        clear hM
        obtain ⟨⟨N1, Na⟩, hN⟩ : ∃ t, storeN (playN Z i) (Z i 2) ⟨Z i 3, Z i 4, Z i 5⟩ ⟨Z i 6, Z i 7, Z i 8⟩ = t := ⟨_, rfl⟩
        have HN : Hid (storeN (playN Z i) (Z i 2) ⟨Z i 3, Z i 4, Z i 5⟩ ⟨Z i 6, Z i 7, Z i 8⟩ = (N1, Na)) := hN
        clear hN
        go_wp2_with fail
        refine (px_store HX.out (Z i 2) (Z i 3) (Z i 4) (Z i 5) (Z i 6) (Z i 7) (Z i 8) HM.out).mono ?_
        rintro e w1 ⟨rfl, hx1⟩
        have x2 := hx1.cell (j := 2) (by omega)
        have x3 := hx1.cell (j := 3) (by omega)
        have x4 := hx1.cell (j := 4) (by omega)
        have x5 := hx1.cell (j := 5) (by omega)
        have x6 := hx1.cell (j := 6) (by omega)
        have x7 := hx1.cell (j := 7) (by omega)
        have x8 := hx1.cell (j := 8) (by omega)
        have HX1 : Hid (PX w w1 w.heap.size (w.heap.size + 1) wr.heap.size (Z i) M1 (playN Z i)) := hx1
        clear hx1
        go_wp2_with fail
        refine (rx_store HX1.out HPT.out (Z i 2) (Z i 3) (Z i 4) (Z i 5) (Z i 6) (Z i 7) (Z i 8) HN.out).mono ?_
        rintro e w2 ⟨rfl, hx2⟩
        have HX2 : Hid (PP w w2 w.heap.size (w.heap.size + 1) (playM Z (i + 1)) (playN Z (i + 1))) := by
          have e1 : playM Z (i + 1) = M1 := by simp [playM, stepM, K0.out, HM.out]
          have e2 : playN Z (i + 1) = N1 := by simp [playN, stepN, K0.out, HN.out]
          rw [e1, e2]
          exact hx2.pp
        clear hx2
        go_wp2
        go_roundw
        case rel => exact ⟨i + 1, by omega, by simp, HX2⟩
        case measure => simp [intOf]; omega
      have q3 : (Z i 0 == 3) = false := by simpa using h3
      by_cases h4 : Z i 0 = 4
      · have q4 : (Z i 0 == 4) = true := by simp [h4]
        have K0 : Hid (Z i 0 = 4) := h4
        clear h4
        obtain ⟨⟨M1, Ma⟩, hM⟩ : ∃ t, zeroM (playM Z i) (Z i 1) = t := ⟨_, rfl⟩
        have HM : Hid (zeroM (playM Z i) (Z i 1) = (M1, Ma)) := hM
        clear hM
        obtain ⟨⟨N1, Na⟩, hN⟩ : ∃ t, zeroN (playN Z i) (Z i 1) = t := ⟨_, rfl⟩
        have HN : Hid (zeroN (playN Z i) (Z i 1) = (N1, Na)) := hN
        clear hN
        go_wp2_with fail
        refine (px_zero HX.out (Z i 1) HM.out).mono ?_
        rintro e w1 ⟨rfl, hx1⟩
        have x1 := hx1.cell (j := 1) (by omega)
        have HX1 : Hid (PX w w1 w.heap.size (w.heap.size + 1) wr.heap.size (Z i) M1 (playN Z i)) := hx1
        clear hx1
        go_wp2_with fail
        refine (rx_zero HX1.out (Z i 1) HN.out).mono ?_
        rintro e w2 ⟨rfl, hx2⟩
        have HX2 : Hid (PP w w2 w.heap.size (w.heap.size + 1) (playM Z (i + 1)) (playN Z (i + 1))) := by
          have e1 : playM Z (i + 1) = M1 := by simp [playM, stepM, K0.out, HM.out]
          have e2 : playN Z (i + 1) = N1 := by simp [playN, stepN, K0.out, HN.out]
          rw [e1, e2]
          exact hx2.pp
        clear hx2
        go_wp2
        go_roundw
        case rel => exact ⟨i + 1, by omega, by simp, HX2⟩
        case measure => simp [intOf]; omega
      have q4 : (Z i 0 == 4) = false := by simpa using h4
      have HX2 : Hid (PP w (wr.alloc (.cells #[.int .i64 (Z i 0), .int .i64 (Z i 1), .int .i64 (Z i 2), .int .i64 (Z i 3), .int .i64 (Z i 4), .int .i64 (Z i 5), .int .i64 (Z i 6), .int .i64 (Z i 7), .int .i64 (Z i 8)] 34)) w.heap.size (w.heap.size + 1) (playM Z (i + 1)) (playN Z (i + 1))) := by
        have e1 : playM Z (i + 1) = playM Z i := by simp [playM, stepM, h0, h1, h3, h4]
        have e2 : playN Z (i + 1) = playN Z i := by simp [playN, stepN, h0, h1, h3, h4]
        rw [e1, e2]
        exact HX.out.pp
      go_wp2
      go_roundw
      case rel => exact ⟨i + 1, by omega, by simp, HX2⟩
      case measure => simp [intOf]; omega
    · have hie : i = len := by omega
      subst hie
      go_wp2
      go_ret2
      exact ⟨rfl, HP.out⟩

end Go.Proofs.Ytnklpccggbkknaa
