/- For all calls on a memory and on its copy: a copy goes its own way: what is told to one the other does not tell: the statement MemCopies returns true. No condition. -/
import Derived.Test.YtnklpccggbkknaaNPlayed
import Derived.Test.YtnklpccggbkknaaMAwake
import Derived.Test.YtnklpccggbkknaaMOpen
namespace Go.Proofs.Ytnklpccggbkknaa
open Go.ChangeShapes Go.WideShapes Go.ChangeAt Go.RowKit Go.Joins Pl
set_option linter.unusedSimpArgs false
set_option linter.unusedVariables false

/-- A memory, its copy, and a memory that was told the same. -/
def MC (W0 w : World) (pm pc pw : Nat) (M C : List AB) : Prop := ∃ R1 R2 R3, Mem w W0.heap.size pm R1 M ∧ Mem w W0.heap.size pc R2 C ∧ Mem w W0.heap.size pw R3 M ∧ Apart R2 R1 ∧ Apart R2 R3 ∧ Below W0.heap.size W0 w
theorem MC.bel {W0 w : World} {pm pc pw : Nat} {M C : List AB} (h : MC W0 w pm pc pw M C) : Below W0.heap.size W0 w := by
  obtain ⟨_, _, _, _, _, _, _, _, h⟩ := h
  exact h
theorem MC.below {W0 w w' : World} {pm pc pw : Nat} {M C : List AB} (h : MC W0 w pm pc pw M C) (hb : Below w.heap.size w w') : MC W0 w' pm pc pw M C := by
  obtain ⟨R1, R2, R3, h1, h2, h3, h4, h5, h6⟩ := h
  exact ⟨R1, R2, R3, h1.below hb, h2.below hb, h3.below hb, h4, h5, bel_trans h6 hb⟩
theorem MC.copy {W0 w : World} {pm pc pw : Nat} {M C C' : List AB} {v : Value} {f : FuncId} {args : Array Value} (h : MC W0 w pm pc pw M C)
    (hc : ∀ R, Mem w W0.heap.size pc R C → Calls Try.prog f args w (Wrote W0.heap.size pc R C' v w)) : Calls Try.prog f args w fun e w' => e = .returned v ∧ MC W0 w' pm pc pw M C' := by
  obtain ⟨R1, R2, R3, h1, h2, h3, h4, h5, h6⟩ := h
  refine (hc R2 h2).mono ?_
  rintro e w' ⟨rfl, R', k1, kf⟩
  exact ⟨rfl, R1, R', R3, h1.beside kf h4, k1, h3.beside kf h5, h4.step kf h1, h5.step kf h3, h6.trans (kf.toBelow h6.size fun b hb => (h2.rng b hb).1)⟩
variable {W0 w : World} {pm pc pw : Nat} {M C : List AB}
theorem mc_free (h : MC W0 w pm pc pw M C) (x : Int) : Calls Try.prog 11 #[.pointer (some ⟨pc, 0, none⟩), .int .i64 x] w fun en w' => ∃ r, en = .returned (.bool r) ∧ ∃ C', MC W0 w' pm pc pw M C' :=
  (h.copy (C' := (freeM C x).1) (v := .bool (freeM C x).2) fun R hm => free_to hm x rfl).mono fun e w' ⟨h1, h2⟩ => ⟨_, h1, _, h2⟩
theorem mc_zero (h : MC W0 w pm pc pw M C) (x : Int) : Calls Try.prog 17 #[.pointer (some ⟨pc, 0, none⟩), .int .i64 x] w fun en w' => ∃ r, en = .returned (.bool r) ∧ ∃ C', MC W0 w' pm pc pw M C' :=
  (h.copy (C' := (zeroM C x).1) (v := .bool (zeroM C x).2) fun R hm => zero_to hm x rfl).mono fun e w' ⟨h1, h2⟩ => ⟨_, h1, _, h2⟩
theorem mc_store (h : MC W0 w pm pc pw M C) (c uk un ub vk vn vb : Int) : Calls Try.prog 15 #[.pointer (some ⟨pc, 0, none⟩), .int .i64 c, .agg #[.int .i64 uk, .int .i64 un, .int .i64 ub], .agg #[.int .i64 vk, .int .i64 vn, .int .i64 vb]] w fun en w' => ∃ r, en = .returned (.bool r) ∧ ∃ C', MC W0 w' pm pc pw M C' :=
  (h.copy (C' := (storeM C c ⟨uk, un, ub⟩ ⟨vk, vn, vb⟩).1) (v := .bool (storeM C c ⟨uk, un, ub⟩ ⟨vk, vn, vb⟩).2) fun R hm => store_to hm c uk un ub vk vn vb rfl).mono fun e w' ⟨h1, h2⟩ => ⟨_, h1, _, h2⟩


set_option maxRecDepth 100000 in
set_option maxHeartbeats 2000000 in
theorem memCopies_short (a1 a2 : Option Addr) (n1 c1 n2 c2 : Nat) (w : World) (hl : (40 : Int) < n1 ∨ (40 : Int) < n2) : Calls Try.prog 5 #[.slice a1 n1 c1, .slice a2 n2 c2] w (retP (.bool true) w) := by
  by_cases h0 : (40 : Int) < n1
  · clear hl
    go_enter Try.func5, Try.ntmps5
    go_wp2_with (go_at_call 6; refine (awake_any _).mono ?_; rintro e w1 ⟨rfl, hb1⟩; obtain ⟨hc1, hf1⟩ := bcell hb1; have hz1 := bsize hb1; try simp only [World.size_alloc, World.size_drew, World.cell?_drew, World.frozen?_drew] at hz1 hc1 hf1)
    go_ret
    exact ⟨rfl, (by repeat (first | with_reducible exact Below.refl _ _ | with_reducible refine bel_alloc ?_ _ | with_reducible refine bel_set ?_ (by first | exact Nat.le_refl _ | (simp; done) | (simp; omega)) _ | with_reducible refine Below.drew ?_ | refine bel_trans ?_ (by assumption)))⟩
  · have h1 : (40 : Int) < n2 := by omega
    clear hl
    go_enter Try.func5, Try.ntmps5
    go_wp2_with (go_at_call 6; refine (awake_any _).mono ?_; rintro e w1 ⟨rfl, hb1⟩; obtain ⟨hc1, hf1⟩ := bcell hb1; have hz1 := bsize hb1; try simp only [World.size_alloc, World.size_drew, World.cell?_drew, World.frozen?_drew] at hz1 hc1 hf1)
    go_ret
    exact ⟨rfl, (by repeat (first | with_reducible exact Below.refl _ _ | with_reducible refine bel_alloc ?_ _ | with_reducible refine bel_set ?_ (by first | exact Nat.le_refl _ | (simp; done) | (simp; omega)) _ | with_reducible refine Below.drew ?_ | refine bel_trans ?_ (by assumption)))⟩


set_option maxRecDepth 100000 in
set_option maxHeartbeats 8000000 in
theorem memCopies_walk (a1 a2 : Option Addr) (b1 off1 n1 c1 b2 off2 n2 c2 : Nat) (Z1 Z2 : Nat → Nat → Int) (w : World) (h1 : (n1 : Int) ≤ 40) (h2 : (n2 : Int) ≤ 40)
    (HA1 : Hid (0 < n1 → a1 = some ⟨b1, off1, none⟩ ∧ ∀ i, i < n1 → ∀ j, j < 9 → w.cell? ⟨b1, off1 + i * 9 + j, none⟩ = some (.int .i64 (Z1 i j))))
    (HA2 : Hid (0 < n2 → a2 = some ⟨b2, off2, none⟩ ∧ ∀ i, i < n2 → ∀ j, j < 9 → w.cell? ⟨b2, off2 + i * 9 + j, none⟩ = some (.int .i64 (Z2 i j)))) :
    Calls Try.prog 5 #[.slice a1 n1 c1, .slice a2 n2 c2] w (retP (.bool true) w) := by
  have t1 : decide ((40 : Int) < (n1 : Int)) = false := by simp; omega
  have t2 : decide ((40 : Int) < (n2 : Int)) = false := by simp; omega
  have HPL : Hid (∀ W, Below w.heap.size w W → Calls Try.prog 25 #[.slice a1 n1 c1] W fun e w' => e = .returned (.tuple #[.pointer (some ⟨W.heap.size, 0, none⟩), .pointer (some ⟨W.heap.size + 1, 0, none⟩)]) ∧ PP W w' W.heap.size (W.heap.size + 1) (playM Z1 n1) (playN Z1 n1)) := fun W hW =>
    played_walk a1 b1 off1 n1 c1 Z1 W (by omega) (fun hp => ⟨(HA1.out hp).1, fun i hi j hj => keep_cell hW ((HA1.out hp).2 i hi j hj)⟩)
  clear HA1
  go_enter Try.func5, Try.ntmps5
  go_wp2_with fail
  refine (awake_any _).mono ?_
  rintro e w1 ⟨rfl, hb1⟩
  go_wp2_with fail
  refine (HPL.out w1 hb1).mono ?_
  rintro e w2 ⟨rfl, R1, Q1, m1, q1, p1, d1⟩
  have HM1 : Hid (Mem w2 w.heap.size w1.heap.size R1 (playM Z1 n1)) := m1.lower hb1.size
  have HB2 : Hid (Below w.heap.size w w2) := bel_trans hb1 d1
  generalize w1.heap.size = pm at *
  clear m1 q1 p1 d1 hb1
  go_wp2_with fail
  refine (copy_to (base' := w.heap.size) HM1.out HB2.out.size).mono ?_
  rintro e w3 ⟨P, R2, rfl, m2, d2, f2⟩
  have HM2 : Hid (Mem w3 w.heap.size pm R1 (playM Z1 n1) ∧ Mem w3 w.heap.size P R2 (playM Z1 n1) ∧ Apart R2 R1) := ⟨HM1.out.below d2, m2, (apart_new HM1.out f2).symm⟩
  have HB3 : Hid (Below w.heap.size w w3) := bel_trans HB2.out d2
  clear m2 d2 f2 HM1 HB2
  go_wp2_with fail
  refine (HPL.out w3 HB3.out).mono ?_
  rintro e w4 ⟨rfl, R3, Q3, m3, q3, p3, d3⟩
  have H0 : Hid (MC w w4 pm P w3.heap.size (playM Z1 n1) (playM Z1 n1)) := ⟨R1, R2, R3, HM2.out.1.below d3, HM2.out.2.1.below d3, m3.lower HB3.out.size, HM2.out.2.2, apart_new HM2.out.2.1 (fun b hb => (m3.rng b hb).1), bel_trans HB3.out d3⟩
  generalize w3.heap.size = pw at *
  clear m3 q3 p3 d3 HM2 HB3 HPL
  go_wp2
  go_loopw [10] (fun v wr => ∃ (i : Nat) (C : List AB), i ≤ n2 ∧ v = .int .i64 i ∧ Hid (MC w wr pm P pw (playM Z1 n1) C)) (fun v _ => n2 - (intOf v).toNat)
  case atStart => exact ⟨0, _, by omega, rfl, H0⟩
  case round =>
    obtain ⟨i, C, hi, rfl, HMC⟩ := hrel
    by_cases hin : i < n2
    · obtain ⟨rfl, hc0⟩ := HA2.out (by omega)
      have hdS : ∀ {v : World}, Below w.heap.size w v → (v.cell? ⟨b2, off2 + i * 9, none⟩ = some (.int .i64 (Z2 i 0)) ∧ v.cell? ⟨b2, off2 + i * 9 + 1, none⟩ = some (.int .i64 (Z2 i 1)) ∧ v.cell? ⟨b2, off2 + i * 9 + 2, none⟩ = some (.int .i64 (Z2 i 2)) ∧ v.cell? ⟨b2, off2 + i * 9 + 3, none⟩ = some (.int .i64 (Z2 i 3)) ∧ v.cell? ⟨b2, off2 + i * 9 + 4, none⟩ = some (.int .i64 (Z2 i 4)) ∧ v.cell? ⟨b2, off2 + i * 9 + 5, none⟩ = some (.int .i64 (Z2 i 5)) ∧ v.cell? ⟨b2, off2 + i * 9 + 6, none⟩ = some (.int .i64 (Z2 i 6)) ∧ v.cell? ⟨b2, off2 + i * 9 + 7, none⟩ = some (.int .i64 (Z2 i 7)) ∧ v.cell? ⟨b2, off2 + i * 9 + 8, none⟩ = some (.int .i64 (Z2 i 8))) := fun h => ⟨keep_cell h (hc0 i hin 0 (by omega)), keep_cell h (hc0 i hin 1 (by omega)), keep_cell h (hc0 i hin 2 (by omega)), keep_cell h (hc0 i hin 3 (by omega)), keep_cell h (hc0 i hin 4 (by omega)), keep_cell h (hc0 i hin 5 (by omega)), keep_cell h (hc0 i hin 6 (by omega)), keep_cell h (hc0 i hin 7 (by omega)), keep_cell h (hc0 i hin 8 (by omega))⟩
      have i0 : (0 : Int) ≤ i := by omega
      have i1 : (i : Int) < n2 := by omega
      have y0 : wr.cell? ⟨b2, off2 + i * 9, none⟩ = some (.int .i64 (Z2 i 0)) := (hdS HMC.out.bel).1
      have y1 : wr.cell? ⟨b2, off2 + i * 9 + 1, none⟩ = some (.int .i64 (Z2 i 1)) := (hdS HMC.out.bel).2.1
      have y2 : wr.cell? ⟨b2, off2 + i * 9 + 2, none⟩ = some (.int .i64 (Z2 i 2)) := (hdS HMC.out.bel).2.2.1
      have y3 : wr.cell? ⟨b2, off2 + i * 9 + 3, none⟩ = some (.int .i64 (Z2 i 3)) := (hdS HMC.out.bel).2.2.2.1
      have y4 : wr.cell? ⟨b2, off2 + i * 9 + 4, none⟩ = some (.int .i64 (Z2 i 4)) := (hdS HMC.out.bel).2.2.2.2.1
      have y5 : wr.cell? ⟨b2, off2 + i * 9 + 5, none⟩ = some (.int .i64 (Z2 i 5)) := (hdS HMC.out.bel).2.2.2.2.2.1
      have y6 : wr.cell? ⟨b2, off2 + i * 9 + 6, none⟩ = some (.int .i64 (Z2 i 6)) := (hdS HMC.out.bel).2.2.2.2.2.2.1
      have y7 : wr.cell? ⟨b2, off2 + i * 9 + 7, none⟩ = some (.int .i64 (Z2 i 7)) := (hdS HMC.out.bel).2.2.2.2.2.2.2.1
      have y8 : wr.cell? ⟨b2, off2 + i * 9 + 8, none⟩ = some (.int .i64 (Z2 i 8)) := (hdS HMC.out.bel).2.2.2.2.2.2.2.2
      clear hc0 HA2 H0
      by_cases z1 : Z2 i 0 = 1
      · have r1 : (Z2 i 0 == 1) = true := by simp [z1]
        clear z1
        go_wp2_with fail
        refine (mc_free HMC.out (Z2 i 1)).mono ?_
        rintro e w5 ⟨rr, rfl, C3, hm3⟩
        have HM3 : Hid (MC w w5 pm P pw (playM Z1 n1) C3) := hm3
        clear hm3
        go_wp2
        go_roundw
        case rel => exact ⟨i + 1, C3, by omega, by simp, HM3⟩
        case measure => simp [intOf]; omega
      have r1 : (Z2 i 0 == 1) = false := by simpa using z1
      clear z1
      by_cases z3 : Z2 i 0 = 3
      · have r3 : (Z2 i 0 == 3) = true := by simp [z3]
        clear z3
        go_wp2_with fail
        refine wp_region_held_drew (S := (fun w' => w'.cell? ⟨b2, off2 + i * 9, none⟩ = some (.int .i64 (Z2 i 0)) ∧ w'.cell? ⟨b2, off2 + i * 9 + 1, none⟩ = some (.int .i64 (Z2 i 1)) ∧ w'.cell? ⟨b2, off2 + i * 9 + 2, none⟩ = some (.int .i64 (Z2 i 2)) ∧ w'.cell? ⟨b2, off2 + i * 9 + 3, none⟩ = some (.int .i64 (Z2 i 3)) ∧ w'.cell? ⟨b2, off2 + i * 9 + 4, none⟩ = some (.int .i64 (Z2 i 4)) ∧ w'.cell? ⟨b2, off2 + i * 9 + 5, none⟩ = some (.int .i64 (Z2 i 5)) ∧ w'.cell? ⟨b2, off2 + i * 9 + 6, none⟩ = some (.int .i64 (Z2 i 6)) ∧ w'.cell? ⟨b2, off2 + i * 9 + 7, none⟩ = some (.int .i64 (Z2 i 7)) ∧ w'.cell? ⟨b2, off2 + i * 9 + 8, none⟩ = some (.int .i64 (Z2 i 8)))) (by kernel_rfl) (hdS (Below.drew HMC.out.bel)) (fun hHeld => ?_)
        refine wpAnyH_take (i := 0) (oi := ?oia0) (v := ?vva0) ?hia0 (by kernel_rfl) (by kernel_rfl) (by kernel_rfl) ?hqa0 ?hya0 hHeld ?_
        case hia0 => simp only [List.getElem?_toArray, List.getElem?_cons_succ, List.getElem?_cons_zero]; rfl
        case hqa0 => exact fun _ _ _ h => h
        case hya0 => (refine Or.inl ⟨by rfl, ?_⟩; intro w' hSw; (try dsimp only at hSw); go_simp; (try (with_reducible rfl)))
        simp only [Act.put, List.setIfInBounds_toArray, List.set_cons_zero, List.set_cons_succ]
        refine wpAnyH_take (i := 1) (oi := ?oia1) (v := ?vva1) ?hia1 (by kernel_rfl) (by kernel_rfl) (by kernel_rfl) ?hqa1 ?hya1 hHeld ?_
        case hia1 => simp only [List.getElem?_toArray, List.getElem?_cons_succ, List.getElem?_cons_zero]; rfl
        case hqa1 => exact fun _ _ _ h => h
        case hya1 => (refine Or.inl ⟨by rfl, ?_⟩; intro w' hSw; (try dsimp only at hSw); go_simp; (try (with_reducible rfl)))
        simp only [Act.put, List.setIfInBounds_toArray, List.set_cons_zero, List.set_cons_succ]
        refine wpAnyH_take (i := 2) (oi := ?oia2) (v := ?vva2) ?hia2 (by kernel_rfl) (by kernel_rfl) (by kernel_rfl) ?hqa2 ?hya2 hHeld ?_
        case hia2 => simp only [List.getElem?_toArray, List.getElem?_cons_succ, List.getElem?_cons_zero]; rfl
        case hqa2 => exact fun _ _ _ h => h
        case hya2 => (refine Or.inl ⟨by rfl, ?_⟩; intro w' hSw; (try dsimp only at hSw); go_simp; (try (with_reducible rfl)))
        simp only [Act.put, List.setIfInBounds_toArray, List.set_cons_zero, List.set_cons_succ]
        refine wpAnyH_take (i := 3) (oi := ?oia3) (v := ?vva3) ?hia3 (by kernel_rfl) (by kernel_rfl) (by kernel_rfl) ?hqa3 ?hya3 hHeld ?_
        case hia3 => simp only [List.getElem?_toArray, List.getElem?_cons_succ, List.getElem?_cons_zero]; rfl
        case hqa3 => exact fun _ _ _ h => h
        case hya3 => (refine Or.inl ⟨by rfl, ?_⟩; intro w' hSw; (try dsimp only at hSw); go_simp; (try (with_reducible rfl)))
        simp only [Act.put, List.setIfInBounds_toArray, List.set_cons_zero, List.set_cons_succ]
        refine wpAnyH_take (i := 4) (oi := ?oia4) (v := ?vva4) ?hia4 (by kernel_rfl) (by kernel_rfl) (by kernel_rfl) ?hqa4 ?hya4 hHeld ?_
        case hia4 => simp only [List.getElem?_toArray, List.getElem?_cons_succ, List.getElem?_cons_zero]; rfl
        case hqa4 => exact fun _ _ _ h => h
        case hya4 => (refine Or.inl ⟨by rfl, ?_⟩; intro w' hSw; (try dsimp only at hSw); go_simp; (try (with_reducible rfl)))
        simp only [Act.put, List.setIfInBounds_toArray, List.set_cons_zero, List.set_cons_succ]
        refine wpAnyH_take (i := 5) (oi := ?oia5) (v := ?vva5) ?hia5 (by kernel_rfl) (by kernel_rfl) (by kernel_rfl) ?hqa5 ?hya5 hHeld ?_
        case hia5 => simp only [List.getElem?_toArray, List.getElem?_cons_succ, List.getElem?_cons_zero]; rfl
        case hqa5 => exact fun _ _ _ h => h
        case hya5 => (refine Or.inl ⟨by rfl, ?_⟩; intro w' hSw; (try dsimp only at hSw); go_simp; (try (with_reducible rfl)))
        simp only [Act.put, List.setIfInBounds_toArray, List.set_cons_zero, List.set_cons_succ]
        refine wpAnyH_take (i := 6) (oi := ?oia6) (v := ?vva6) ?hia6 (by kernel_rfl) (by kernel_rfl) (by kernel_rfl) ?hqa6 ?hya6 hHeld ?_
        case hia6 => simp only [List.getElem?_toArray, List.getElem?_cons_succ, List.getElem?_cons_zero]; rfl
        case hqa6 => exact fun _ _ _ h => h
        case hya6 => (refine Or.inl ⟨by rfl, ?_⟩; intro w' hSw; (try dsimp only at hSw); go_simp; (try (with_reducible rfl)))
        simp only [Act.put, List.setIfInBounds_toArray, List.set_cons_zero, List.set_cons_succ]
        refine wpAnyH_take (i := 7) (oi := ?oia7) (v := ?vva7) ?hia7 (by kernel_rfl) (by kernel_rfl) (by kernel_rfl) ?hqa7 ?hya7 hHeld ?_
        case hia7 => simp only [List.getElem?_toArray, List.getElem?_cons_succ, List.getElem?_cons_zero]; rfl
        case hqa7 => exact fun _ _ _ h => h
        case hya7 => (refine Or.inl ⟨by rfl, ?_⟩; intro w' hSw; (try dsimp only at hSw); go_simp; (try (with_reducible rfl)))
        simp only [Act.put, List.setIfInBounds_toArray, List.set_cons_zero, List.set_cons_succ]
        refine wpAnyH_take (i := 8) (oi := ?oia8) (v := ?vva8) ?hia8 (by kernel_rfl) (by kernel_rfl) (by kernel_rfl) ?hqa8 ?hya8 hHeld ?_
        case hia8 => simp only [List.getElem?_toArray, List.getElem?_cons_succ, List.getElem?_cons_zero]; rfl
        case hqa8 => exact fun _ _ _ h => h
        case hya8 => (refine Or.inl ⟨by rfl, ?_⟩; intro w' hSw; (try dsimp only at hSw); go_simp; (try (with_reducible rfl)))
        simp only [Act.put, List.setIfInBounds_toArray, List.set_cons_zero, List.set_cons_succ]
        refine wpAnyH_take (i := 9) (oi := ?oia9) (v := ?vva9) ?hia9 (by kernel_rfl) (by kernel_rfl) (by kernel_rfl) ?hqa9 ?hya9 hHeld ?_
        case hia9 => simp only [List.getElem?_toArray, List.getElem?_cons_succ, List.getElem?_cons_zero]; rfl
        case hqa9 => exact fun _ _ _ h => h
        case hya9 => (refine Or.inl ⟨by rfl, ?_⟩; intro w' hSw; (try dsimp only at hSw); go_simp; (try (with_reducible rfl)))
        simp only [Act.put, List.setIfInBounds_toArray, List.set_cons_zero, List.set_cons_succ]
        refine wpAnyH_take (i := 10) (oi := ?oia10) (v := ?vva10) ?hia10 (by kernel_rfl) (by kernel_rfl) (by kernel_rfl) ?hqa10 ?hya10 hHeld ?_
        case hia10 => simp only [List.getElem?_toArray, List.getElem?_cons_succ, List.getElem?_cons_zero]; rfl
        case hqa10 => exact fun _ _ _ h => h
        case hya10 => (refine Or.inl ⟨by rfl, ?_⟩; intro w' hSw; (try dsimp only at hSw); go_simp; (try (with_reducible rfl)))
        simp only [Act.put, List.setIfInBounds_toArray, List.set_cons_zero, List.set_cons_succ]
        refine wpAnyH_take (i := 11) (oi := ?oia11) (v := ?vva11) ?hia11 (by kernel_rfl) (by kernel_rfl) (by kernel_rfl) ?hqa11 ?hya11 hHeld ?_
        case hia11 => simp only [List.getElem?_toArray, List.getElem?_cons_succ, List.getElem?_cons_zero]; rfl
        case hqa11 => exact fun _ _ _ h => h
        case hya11 => (refine Or.inl ⟨by rfl, ?_⟩; intro w' hSw; (try dsimp only at hSw); go_simp; (try (with_reducible rfl)))
        simp only [Act.put, List.setIfInBounds_toArray, List.set_cons_zero, List.set_cons_succ]
        refine wpAnyH_take (i := 12) (oi := ?oia12) (v := ?vva12) ?hia12 (by kernel_rfl) (by kernel_rfl) (by kernel_rfl) ?hqa12 ?hya12 hHeld ?_
        case hia12 => simp only [List.getElem?_toArray, List.getElem?_cons_succ, List.getElem?_cons_zero]; rfl
        case hqa12 => exact fun _ _ _ h => h
        case hya12 => (refine Or.inl ⟨by rfl, ?_⟩; intro w' hSw; (try dsimp only at hSw); go_simp; (try (with_reducible rfl)))
        simp only [Act.put, List.setIfInBounds_toArray, List.set_cons_zero, List.set_cons_succ]
        refine wpAnyH_take (i := 13) (oi := ?oia13) (v := ?vva13) ?hia13 (by kernel_rfl) (by kernel_rfl) (by kernel_rfl) ?hqa13 ?hya13 hHeld ?_
        case hia13 => simp only [List.getElem?_toArray, List.getElem?_cons_succ, List.getElem?_cons_zero]; rfl
        case hqa13 => exact fun _ _ _ h => h
        case hya13 => (refine Or.inl ⟨by rfl, ?_⟩; intro w' hSw; (try dsimp only at hSw); go_simp; (try (with_reducible rfl)))
        simp only [Act.put, List.setIfInBounds_toArray, List.set_cons_zero, List.set_cons_succ]
        refine wpAnyH_take (i := 14) (oi := ?oia14) (v := ?vva14) ?hia14 (by kernel_rfl) (by kernel_rfl) (by kernel_rfl) ?hqa14 ?hya14 hHeld ?_
        case hia14 => simp only [List.getElem?_toArray, List.getElem?_cons_succ, List.getElem?_cons_zero]; rfl
        case hqa14 => exact fun _ _ _ h => h
        case hya14 => (refine Or.inl ⟨by rfl, ?_⟩; intro w' hSw; (try dsimp only at hSw); go_simp; (try (with_reducible rfl)))
        simp only [Act.put, List.setIfInBounds_toArray, List.set_cons_zero, List.set_cons_succ]
        refine wpAnyH_take (i := 15) (oi := ?oia15) (v := ?vva15) ?hia15 (by kernel_rfl) (by kernel_rfl) (by kernel_rfl) ?hqa15 ?hya15 hHeld ?_
        case hia15 => simp only [List.getElem?_toArray, List.getElem?_cons_succ, List.getElem?_cons_zero]; rfl
        case hqa15 => exact fun _ _ _ h => h
        case hya15 => (refine Or.inl ⟨by rfl, ?_⟩; intro w' hSw; (try dsimp only at hSw); go_simp; (try (with_reducible rfl)))
        simp only [Act.put, List.setIfInBounds_toArray, List.set_cons_zero, List.set_cons_succ]
        refine wpAnyH_ready (rs := [16]) (by kernel_rfl) (by simp) ?_
        refine AllReadyH.cons (o := ?oia16) ?hia16 (fun K hK => ?_) AllReadyH.nil
        case hia16 => simp only [List.getElem?_toArray, List.getElem?_cons_succ, List.getElem?_cons_zero]; rfl
        go_simp
        refine (mc_store (MC.below HMC.out (Below.drew (Below.refl _ _))) (Z2 i 2) (Z2 i 3) (Z2 i 4) (Z2 i 5) (Z2 i 6) (Z2 i 7) (Z2 i 8)).mono ?_
        rintro e v16 ⟨rr, rfl, C3, hm3⟩
        go_wp2_with fail
        refine hK.out _ _ (hdS hm3.bel) (fun hN => ?_)
        clear hK K hHeld
        have hHeld := hN
        clear hN
        try simp only [Act.put, List.setIfInBounds_toArray, List.set_cons_zero, List.set_cons_succ]
        refine wpAnyH_done (by kernel_rfl) ?_ _
        have HM3 : Hid (MC w v16 pm P pw (playM Z1 n1) C3) := hm3
        clear hm3
        go_wp2
        go_roundw
        case rel => exact ⟨i + 1, C3, by omega, by simp, HM3⟩
        case measure => simp [intOf]; omega
      have r3 : (Z2 i 0 == 3) = false := by simpa using z3
      clear z3
      by_cases z4 : Z2 i 0 = 4
      · have r4 : (Z2 i 0 == 4) = true := by simp [z4]
        clear z4
        go_wp2_with fail
        refine (mc_zero HMC.out (Z2 i 1)).mono ?_
        rintro e w5 ⟨rr, rfl, C3, hm3⟩
        have HM3 : Hid (MC w w5 pm P pw (playM Z1 n1) C3) := hm3
        clear hm3
        go_wp2
        go_roundw
        case rel => exact ⟨i + 1, C3, by omega, by simp, HM3⟩
        case measure => simp [intOf]; omega
      have r4 : (Z2 i 0 == 4) = false := by simpa using z4
      clear z4
      go_wp2
      go_roundw
      case rel => exact ⟨i + 1, C, by omega, by simp, HMC⟩
      case measure => simp [intOf]; omega
    · obtain ⟨S1, S2, S3, m1, m2, m3, p1, p2, hB⟩ := HMC.out
      have HS : Hid (∀ W, Below wr.heap.size wr W → Mem W w.heap.size pm S1 (playM Z1 n1) ∧ Mem W w.heap.size pw S3 (playM Z1 n1)) := fun W hW => ⟨m1.below hW, m3.below hW⟩
      have HB : Hid (Below w.heap.size w wr) := hB
      clear m1 m2 m3 p1 p2 hB HMC H0
      go_wp2_with fail
      refine (same_to (HS.out _ (Below.refl _ _)).1 (HS.out _ (Below.refl _ _)).2 (r := true) ⟨fun _ => SameM.refl _, fun _ => rfl⟩).mono ?_
      rintro e w5 ⟨rfl, hb5⟩
      have HB5 : Hid (Below wr.heap.size wr w5) := hb5
      clear hb5
      go_wp2_with fail
      refine (same_to (HS.out _ HB5.out).2 (HS.out _ HB5.out).1 (r := true) ⟨fun _ => SameM.refl _, fun _ => rfl⟩).mono ?_
      rintro e w6 ⟨rfl, hb6⟩
      have HB6 : Hid (Below w.heap.size w w6) := bel_trans (bel_trans HB.out HB5.out) hb6
      clear hb6
      go_wp2
      go_ret
      exact ⟨rfl, HB6.out⟩
theorem memCopies_all {H : Type} {enc : TypeId × Value → H} {W : World} {base : Nat} {v0 v1 : Value} {d0 d1 : DataW H} {p0 p1 : List MemPlace} (hv0 : Value.okWide Try.prog W .any base 22 v0) (h0 : DataW.Trod enc Try.prog W 0 (fun _ => true) true 22 v0 d0 p0)
    (hv1 : Value.okWide Try.prog W .any base 22 v1) (h1 : DataW.Trod enc Try.prog W 0 (fun _ => true) true 22 v1 d1 p1) : Calls Try.prog 5 #[v0, v1] W (retP (.bool true) W) := by
  obtain ⟨a0, n0, c0, rfl⟩ := okWide_slice Try.underlying22 hv0
  obtain ⟨a1, n1, c1, rfl⟩ := okWide_slice Try.underlying22 hv1
  obtain ⟨_, hz0⟩ := open_acts h0
  obtain ⟨_, hz1⟩ := open_acts h1
  by_cases hs : (40 : Int) < n0 ∨ (40 : Int) < n1
  · exact memCopies_short a0 a1 n0 c0 n1 c1 W hs
  · have e0 : ∃ (b off : Nat) (Z : Nat → Nat → Int), 0 < n0 → a0 = some ⟨b, off, none⟩ ∧ ∀ i, i < n0 → ∀ j, j < 9 → W.cell? ⟨b, off + i * 9 + j, none⟩ = some (.int .i64 (Z i j)) := by
      by_cases hl : 0 < n0
      · obtain ⟨b, off, Z, ha, hc⟩ := hz0 hl
        exact ⟨b, off, Z, fun _ => ⟨ha, hc⟩⟩
      · exact ⟨0, 0, fun _ _ => 0, fun h => absurd h hl⟩
    have e1 : ∃ (b off : Nat) (Z : Nat → Nat → Int), 0 < n1 → a1 = some ⟨b, off, none⟩ ∧ ∀ i, i < n1 → ∀ j, j < 9 → W.cell? ⟨b, off + i * 9 + j, none⟩ = some (.int .i64 (Z i j)) := by
      by_cases hl : 0 < n1
      · obtain ⟨b, off, Z, ha, hc⟩ := hz1 hl
        exact ⟨b, off, Z, fun _ => ⟨ha, hc⟩⟩
      · exact ⟨0, 0, fun _ _ => 0, fun h => absurd h hl⟩
    obtain ⟨b, off, Z, e0⟩ := e0
    obtain ⟨b', off', Z', e1⟩ := e1
    exact memCopies_walk a0 a1 b off n0 c0 b' off' n1 c1 Z Z' W (by omega) (by omega) e0 e1

set_option maxRecDepth 100000 in
theorem memCopies_lifted (os : Os) (started : os.Started) (H : Type) (enc : TypeId × Value → H) :
    ReturnsInHanded {} Try.checked os 5 .any (Rows.memCopiesSpec.pre6 enc Try.prog Try.f5 Rows.memCopiesRow.domain false) (Rows.memCopiesSpec.post enc Try.prog Try.f5 false true false false) := by
  refine returnsInHanded_of_change (C := Try.checked) own started (by kernel_rfl) Try.func5
    (ChangeSpec.witness6 (enc := enc) (C := Try.checked) false ⟨#[], #[.slice none 0 0, .slice none 0 0], []⟩ 8 (by kernel_rfl) (by kernel_rfl) (by kernel_rfl) (by kernel_rfl)) ?_
  intro W base args ds gs before hval0 hW hcnd _
  have hval : ∀ (j : Nat) t v, Try.f5.params[j]? = some t → args[j]? = some v → Value.okWide Try.prog W .any base t v := hval0
  have hW' := hW
  obtain ⟨p, q, hA0, hV, rfl, hfz, hnd⟩ := hW
  have hA : DataW.TrodAll enc Try.prog W 0 (fun _ => true) true Try.f5.params.toList args.toList ds p := hA0
  rw [Try.params5] at hA hval
  obtain ⟨v0, vs0, d0, ds0, p0, q0, hargs, rfl, rfl, h0, r0⟩ := trodAll_cons hA
  obtain ⟨v1, vs1, d1, ds1, p1, q1, rfl, rfl, rfl, h1, r1⟩ := trodAll_cons r0
  obtain ⟨rfl, rfl, rfl⟩ := trodAll_nil r1
  obtain rfl : args = #[v0, v1] := by cases args; simp_all
  obtain ⟨rfl, rfl⟩ := trodVars_none hV
  have hv0 := hval 0 22 v0 rfl rfl
  have hv1 := hval 1 22 v1 rfl rfl
  have hlt0 : ∀ x ∈ p0, x.block < W.heap.size := fun x hx => by simpa using hW'.lt x (by simp [hx])
  have hlt1 : ∀ x ∈ p1, x.block < W.heap.size := fun x hx => by simpa using hW'.lt x (by simp [hx])
  have hargs0 : ∀ (W' : World), Below W.heap.size W W' → DataW.Trod enc Try.prog W' 0 (fun b => decide (b < W.heap.size)) true 22 v0 d0 p0 := fun W' hn => Below.trod laidOut (by kernel_rfl) (of_decide_eq_true (by kernel_rfl)) h0 hn hlt0
  have hargs1 : ∀ (W' : World), Below W.heap.size W W' → DataW.Trod enc Try.prog W' 0 (fun b => decide (b < W.heap.size)) true 22 v1 d1 p1 := fun W' hn => Below.trod laidOut (by kernel_rfl) (of_decide_eq_true (by kernel_rfl)) h1 hn hlt1
  clear hA0 hval0
  simp only [List.append_nil] at hW'
  refine (memCopies_all hv0 h0 hv1 h1).mono fun e W' ⟨he, hb⟩ => ?_
  subst he
  exact ⟨_, rfl, _, _, _, [], _, [], hW', (trodAll_cons_mk (shut_bool Try.underlying4 _) trodAll_mk0), (trodAll_cons_mk (hargs0 _ hb) (trodAll_cons_mk (hargs1 _ hb) trodAll_mk0)), rfl, hb.frame _, fun h => by cases h⟩

/-- THE STATEMENT. -/
theorem memCopies_holds : Rows.MemCopiesSaid :=
  OpenClaim.holds_of_wide 5 Try.f5 rfl rfl rfl rfl rfl rfl rfl ⟨rfl, rfl, rfl, rfl, rfl⟩ rfl rfl rfl rfl rfl (by kernel_rfl) Try.func5 (by kernel_rfl)
    (of_decide_eq_true (by kernel_rfl)) (by unfold Func.isWrapper; first | (rw [if_pos (by decide +kernel)]; kernel_rfl) | (rw [if_neg (by decide +kernel)]; exact ⟨rfl, rfl⟩))
    (fun os started H enc _ => memCopies_lifted os started H enc)
#print axioms memCopies_holds

end Go.Proofs.Ytnklpccggbkknaa
