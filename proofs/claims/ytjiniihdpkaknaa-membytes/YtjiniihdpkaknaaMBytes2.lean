/- For every int64: stored as 8 bytes it is read, byte by byte and in parts of 4, as its bytes and parts; put together byte by byte it is the number again: the statement MemBytes returns true. No condition. -/
import Derived.Test.YtjiniihdpkaknaaMBytes
namespace Go.Proofs.Ytjiniihdpkaknaa
open Go.ChangeShapes Go.WideShapes Go.ChangeAt Go.RowKit Pl
set_option linter.unusedSimpArgs false
set_option linter.unusedVariables false

theorem c3_mfr {W v : World} {R R' : Nat → Option Role} {B : Nat} {x y z : Value} (hf : MFr R R' W v) (hr : R B = none) (h : W.cell? ⟨B, 0, none⟩ = some x ∧ W.cell? ⟨B, 1, none⟩ = some y ∧ W.cell? ⟨B, 2, none⟩ = some z) : v.cell? ⟨B, 0, none⟩ = some x ∧ v.cell? ⟨B, 1, none⟩ = some y ∧ v.cell? ⟨B, 2, none⟩ = some z :=
  ⟨hf.keep hr h.1, hf.keep hr h.2.1, hf.keep hr h.2.2⟩
theorem s9_call {W v : World} {B C D : Nat} {x0 x1 x2 y0 y1 y2 z0 z1 z2 : Value} (hb : Below W.heap.size W v) (h : (W.cell? ⟨B, 0, none⟩ = some x0 ∧ W.cell? ⟨B, 1, none⟩ = some x1 ∧ W.cell? ⟨B, 2, none⟩ = some x2) ∧ (W.cell? ⟨C, 0, none⟩ = some y0 ∧ W.cell? ⟨C, 1, none⟩ = some y1 ∧ W.cell? ⟨C, 2, none⟩ = some y2) ∧ (W.cell? ⟨D, 0, none⟩ = some z0 ∧ W.cell? ⟨D, 1, none⟩ = some z1 ∧ W.cell? ⟨D, 2, none⟩ = some z2)) :
    (v.cell? ⟨B, 0, none⟩ = some x0 ∧ v.cell? ⟨B, 1, none⟩ = some x1 ∧ v.cell? ⟨B, 2, none⟩ = some x2) ∧ (v.cell? ⟨C, 0, none⟩ = some y0 ∧ v.cell? ⟨C, 1, none⟩ = some y1 ∧ v.cell? ⟨C, 2, none⟩ = some y2) ∧ (v.cell? ⟨D, 0, none⟩ = some z0 ∧ v.cell? ⟨D, 1, none⟩ = some z1 ∧ v.cell? ⟨D, 2, none⟩ = some z2) := ⟨c3_call hb h.1, c3_call hb h.2.1, c3_call hb h.2.2⟩
set_option maxHeartbeats 4000000 in
theorem memBytes_walk (n : Int) (hn : (Lit.int .i64 n).wf = true) (w : World) : Calls Try.prog 8 #[.int .i64 n] w (retP (.bool true) w) := by
  obtain ⟨M0, hs0, hM0⟩ := MB.init n
  have HM0 : Hid (MB n 0 M0) := hM0
  clear hM0
  have HB : Hid (Below w.heap.size w w) := Below.refl _ _
  go_enter Try.func8, Try.ntmps8
  go_wp2_with fail
  refine (awake_any _).mono ?_
  rintro e w1 ⟨rfl, hb⟩
  replace HB : Hid (Below w.heap.size w w1) := (by have hB0 := HB.out; exact (by repeat (first | with_reducible exact Below.refl _ _ | assumption | with_reducible refine bel_alloc ?_ _ | with_reducible refine Below.drew ?_ | with_reducible refine bel_drewN ?_ _ | with_reducible refine bel_set ?_ (by go_light; first | (simp; done) | (simp; omega) | omega) _ | refine bel_trans ?_ (by assumption))))
  clear hb
  go_wp2_with fail
  refine (new_to (base := w.heap.size) _ (by have := HB.out.size; first | omega | (simp; omega))).mono ?_
  rintro e w2 ⟨P2, R2, rfl, hm, hb, hn⟩
  replace HB : Hid (Below w.heap.size w w2) := (by have hB0 := HB.out; exact (by repeat (first | with_reducible exact Below.refl _ _ | assumption | with_reducible refine bel_alloc ?_ _ | with_reducible refine Below.drew ?_ | with_reducible refine bel_drewN ?_ _ | with_reducible refine bel_set ?_ (by go_light; first | (simp; done) | (simp; omega) | omega) _ | refine bel_trans ?_ (by assumption))))
  clear hb
  have HMm : Hid (Mem w2 w.heap.size P2 R2 []) := hm
  clear hm hn
  go_wp2_with fail
  refine (alloc_to (Mem.below HMm.out (by repeat (first | with_reducible exact Below.refl _ _ | assumption | with_reducible refine bel_alloc ?_ _ | with_reducible refine Below.drew ?_ | with_reducible refine bel_drewN ?_ _ | with_reducible refine bel_set ?_ (by go_light; first | (simp; done) | (simp; omega) | omega) _ | refine bel_trans ?_ (by assumption)))) 16 by_alloc).mono ?_
  rintro e w3 ⟨rfl, R3, hm, hf⟩
  replace HB : Hid (Below w.heap.size w w3) := Below.wrote (by have hB0 := HB.out; exact (by repeat (first | with_reducible exact Below.refl _ _ | assumption | with_reducible refine bel_alloc ?_ _ | with_reducible refine Below.drew ?_ | with_reducible refine bel_drewN ?_ _ | with_reducible refine bel_set ?_ (by go_light; first | (simp; done) | (simp; omega) | omega) _ | refine bel_trans ?_ (by assumption)))) (Mem.below HMm.out (by repeat (first | with_reducible exact Below.refl _ _ | assumption | with_reducible refine bel_alloc ?_ _ | with_reducible refine Below.drew ?_ | with_reducible refine bel_drewN ?_ _ | with_reducible refine bel_set ?_ (by go_light; first | (simp; done) | (simp; omega) | omega) _ | refine bel_trans ?_ (by assumption)))) hf
  replace HMm : Hid (Mem w3 w.heap.size P2 R3 (allocM [] 16).1) := hm
  clear hm hf
  go_wp2_with fail
  refine (rat_to 1 0 2 0 1 _ (by rfl)).mono ?_
  rintro e w4 ⟨rfl, hb⟩
  replace HMm : Hid (Mem w4 w.heap.size P2 R3 (allocM [] 16).1) := Mem.below HMm.out (by repeat (first | with_reducible exact Below.refl _ _ | assumption | with_reducible refine bel_alloc ?_ _ | with_reducible refine Below.drew ?_ | with_reducible refine bel_drewN ?_ _ | with_reducible refine bel_set ?_ (by go_light; first | (simp; done) | (simp; omega) | omega) _ | refine bel_trans ?_ (by assumption)))
  replace HB : Hid (Below w.heap.size w w4) := (by have hB0 := HB.out; exact (by repeat (first | with_reducible exact Below.refl _ _ | assumption | with_reducible refine bel_alloc ?_ _ | with_reducible refine Below.drew ?_ | with_reducible refine bel_drewN ?_ _ | with_reducible refine bel_set ?_ (by go_light; first | (simp; done) | (simp; omega) | omega) _ | refine bel_trans ?_ (by assumption))))
  clear hb
  go_wp2_with fail
  refine (rof_to n _).mono ?_
  rintro e w5 ⟨rfl, hb⟩
  replace HMm : Hid (Mem w5 w.heap.size P2 R3 (allocM [] 16).1) := Mem.below HMm.out (by repeat (first | with_reducible exact Below.refl _ _ | assumption | with_reducible refine bel_alloc ?_ _ | with_reducible refine Below.drew ?_ | with_reducible refine bel_drewN ?_ _ | with_reducible refine bel_set ?_ (by go_light; first | (simp; done) | (simp; omega) | omega) _ | refine bel_trans ?_ (by assumption)))
  replace HB : Hid (Below w.heap.size w w5) := (by have hB0 := HB.out; exact (by repeat (first | with_reducible exact Below.refl _ _ | assumption | with_reducible refine bel_alloc ?_ _ | with_reducible refine Below.drew ?_ | with_reducible refine bel_drewN ?_ _ | with_reducible refine bel_set ?_ (by go_light; first | (simp; done) | (simp; omega) | omega) _ | refine bel_trans ?_ (by assumption))))
  clear hb
  go_wp2_with fail
  refine (store_to (Mem.below HMm.out (by repeat (first | with_reducible exact Below.refl _ _ | assumption | with_reducible refine bel_alloc ?_ _ | with_reducible refine Below.drew ?_ | with_reducible refine bel_drewN ?_ _ | with_reducible refine bel_set ?_ (by go_light; first | (simp; done) | (simp; omega) | omega) _ | refine bel_trans ?_ (by assumption)))) 8 2 0 1 1 n 0 hs0).mono ?_
  rintro e w6 ⟨rfl, R6, hm, hf⟩
  replace HB : Hid (Below w.heap.size w w6) := Below.wrote (by have hB0 := HB.out; exact (by repeat (first | with_reducible exact Below.refl _ _ | assumption | with_reducible refine bel_alloc ?_ _ | with_reducible refine Below.drew ?_ | with_reducible refine bel_drewN ?_ _ | with_reducible refine bel_set ?_ (by go_light; first | (simp; done) | (simp; omega) | omega) _ | refine bel_trans ?_ (by assumption)))) (Mem.below HMm.out (by repeat (first | with_reducible exact Below.refl _ _ | assumption | with_reducible refine bel_alloc ?_ _ | with_reducible refine Below.drew ?_ | with_reducible refine bel_drewN ?_ _ | with_reducible refine bel_set ?_ (by go_light; first | (simp; done) | (simp; omega) | omega) _ | refine bel_trans ?_ (by assumption)))) hf
  replace HMm : Hid (Mem w6 w.heap.size P2 R6 M0) := hm
  clear hm hf
  clear hs0
  go_wp2
  go_loopw [4] (fun v wr => ∃ (k : Nat) (M : List AB) (R : Nat → Option Role), k ≤ 8 ∧ v = .int .i64 k ∧ Hid (MB n k M) ∧ Hid (Mem wr w.heap.size P2 R M) ∧ Hid (Below w.heap.size w wr)) (fun v _ => 8 - (intOf v).toNat)
  case atStart => exact ⟨0, M0, _, by omega, rfl, HM0, HMm, HB⟩
  case round =>
    obtain ⟨k, M, R, hk, rfl, HMB, HMr, HBr⟩ := hrel
    clear HMm HB
    have HMm := HMr
    have HB := HBr
    clear HMr HBr
    by_cases hk8 : k < 8
    · obtain ⟨vv, hvv⟩ : ∃ vv, byteV n k = vv := ⟨_, rfl⟩
      have ld : loadM M 1 ⟨2, (k : Int), 1⟩ = (⟨1, vv, 0⟩, true) := by
        have := HMB.out.load 1 k 0 k (by simp) (.inl ⟨rfl, hk8⟩) (.inl ⟨rfl, by omega⟩) (Int.tmod_one _)
        rw [num1 n k hk8, hvv] at this
        exact this
      obtain ⟨M', st, hm'⟩ := HMB.out.store hk8
      rw [hvv] at st
      have HMB' : Hid (MB n (k + 1) M') := hm'
      have HLD : Hid (loadM M 1 ⟨2, (k : Int), 1⟩ = (⟨1, vv, 0⟩, true)) := ld
      have HST : Hid (storeM M 1 ⟨2, 8 + (k : Int), 1⟩ ⟨1, vv, 0⟩ = (M', true)) := st
      have EX : Hid (∀ W, Calls Try.prog 33 #[.int .i64 (n / 2 ^ (8 * k)), .int .u64 8] W fun e w' => e = .returned (.int .i64 vv) ∧ w' = W) := fun W => by
        have := ext8_any (n / 2 ^ (8 * k)) W
        rw [show wrap64 (IntKind.i8.wrap (n / 2 ^ (8 * k))) = vv from hvv] at this
        exact this
      clear hm' ld st hvv
      have k0 : (0 : Int) ≤ k := by omega
      have k1 : (k : Int) < 8 := by omega
      have e1 : IntKind.i64.wrap (8 * (k : Int)) = 8 * (k : Int) := by rw [i64w]; unfold wrap64; omega
      have e2 : IntKind.u64.wrap (8 * (k : Int)) = 8 * (k : Int) := by rw [u64w]; omega
      have e3 : IntKind.i64.wrap (8 + (k : Int)) = 8 + (k : Int) := by rw [i64w]; unfold wrap64; omega
      go_wp2_with fail
      refine (rat_to 1 k 2 k 1 _ (by rfl)).mono ?_
      rintro e x21 ⟨rfl, hb⟩
      replace HMm : Hid (Mem x21 w.heap.size P2 R M) := Mem.below HMm.out (by repeat (first | with_reducible exact Below.refl _ _ | assumption | with_reducible refine bel_alloc ?_ _ | with_reducible refine Below.drew ?_ | with_reducible refine bel_drewN ?_ _ | with_reducible refine bel_set ?_ (by go_light; first | (simp; done) | (simp; omega) | omega) _ | refine bel_trans ?_ (by assumption)))
      replace HB : Hid (Below w.heap.size w x21) := (by have hB0 := HB.out; exact (by repeat (first | with_reducible exact Below.refl _ _ | assumption | with_reducible refine bel_alloc ?_ _ | with_reducible refine Below.drew ?_ | with_reducible refine bel_drewN ?_ _ | with_reducible refine bel_set ?_ (by go_light; first | (simp; done) | (simp; omega) | omega) _ | refine bel_trans ?_ (by assumption))))
      clear hb
      go_wp2_with fail
      refine (load_to (Mem.below HMm.out (by repeat (first | with_reducible exact Below.refl _ _ | assumption | with_reducible refine bel_alloc ?_ _ | with_reducible refine Below.drew ?_ | with_reducible refine bel_drewN ?_ _ | with_reducible refine bel_set ?_ (by go_light; first | (simp; done) | (simp; omega) | omega) _ | refine bel_trans ?_ (by assumption)))) 1 2 k 1 HLD.out).mono ?_
      rintro e x22 ⟨rfl, hb⟩
      replace HMm : Hid (Mem x22 w.heap.size P2 R M) := Mem.below HMm.out (by repeat (first | with_reducible exact Below.refl _ _ | assumption | with_reducible refine bel_alloc ?_ _ | with_reducible refine Below.drew ?_ | with_reducible refine bel_drewN ?_ _ | with_reducible refine bel_set ?_ (by go_light; first | (simp; done) | (simp; omega) | omega) _ | refine bel_trans ?_ (by assumption)))
      replace HB : Hid (Below w.heap.size w x22) := (by have hB0 := HB.out; exact (by repeat (first | with_reducible exact Below.refl _ _ | assumption | with_reducible refine bel_alloc ?_ _ | with_reducible refine Below.drew ?_ | with_reducible refine bel_drewN ?_ _ | with_reducible refine bel_set ?_ (by go_light; first | (simp; done) | (simp; omega) | omega) _ | refine bel_trans ?_ (by assumption))))
      clear hb
      have vRm : R (x22.heap.size) = none := Mem.fresh HMm.out (by omega)
      go_wp2_with fail
      go_region_held3 (fun w' => w'.cell? ⟨x22.heap.size, 0, none⟩ = some (.int .i64 1) ∧ w'.cell? ⟨x22.heap.size, 1, none⟩ = some (.int .i64 vv) ∧ w'.cell? ⟨x22.heap.size, 2, none⟩ = some (.int .i64 0))
        (first | with_reducible exact c3_call hb (by assumption) | with_reducible exact c3_mfr hf hvR (by assumption) | ((go_simp; done)))
        (first
          | (go_at_call 33; refine (EX.out _).mono ?_; rintro e w' ⟨rfl, hw'⟩; replace hw' := hw'.symm; subst hw')
          | (go_at_call 32; refine (rof_to _ _).mono ?_; rintro e wy ⟨rfl, hb⟩)
          | (go_at_call 13; refine (rat_to 1 (8 + (k : Int)) 2 (8 + (k : Int)) 1 _ (by rfl)).mono ?_; rintro e wz ⟨rfl, hb⟩)
          | (go_at_call 14; refine (store_to (Mem.below HMm.out (by repeat (first | with_reducible exact Below.refl _ _ | assumption | with_reducible refine bel_alloc ?_ _ | with_reducible refine Below.drew ?_ | with_reducible refine bel_drewN ?_ _ | with_reducible refine bel_set ?_ (by go_light; first | (simp; done) | (simp; omega) | omega) _ | refine bel_trans ?_ (by assumption)))) 1 2 (8 + (k : Int)) 1 1 vv 0 HST.out).mono ?_; rintro e wq ⟨rfl, R2, hm, hf⟩; have hvR := vRm; have HBq : Hid (Below w.heap.size w wq) := Below.wrote (by have hB0 := HB.out; exact (by repeat (first | with_reducible exact Below.refl _ _ | assumption | with_reducible refine bel_alloc ?_ _ | with_reducible refine Below.drew ?_ | with_reducible refine bel_drewN ?_ _ | with_reducible refine bel_set ?_ (by go_light; first | (simp; done) | (simp; omega) | omega) _ | refine bel_trans ?_ (by assumption)))) (Mem.below HMm.out (by repeat (first | with_reducible exact Below.refl _ _ | assumption | with_reducible refine bel_alloc ?_ _ | with_reducible refine Below.drew ?_ | with_reducible refine bel_drewN ?_ _ | with_reducible refine bel_set ?_ (by go_light; first | (simp; done) | (simp; omega) | omega) _ | refine bel_trans ?_ (by assumption)))) hf; have HMq : Hid (Mem wq w.heap.size P2 R2 M') := hm))
      all_goals
        go_wp2
        go_roundw
        case rel => exact ⟨k + 1, M', R2, by omega, by simp, HMB', HMq, HBq⟩
        case measure => simp [intOf]; omega
    · have hk9 : k = 8 := by omega
      subst hk9
      have hbn := bounds_i64 hn
      have LA : Hid (loadM M 4 ⟨2, 0, 1⟩ = (⟨1, wrap64 (wrap32 n), 0⟩, true)) := by
        have := HMB.out.load 4 0 0 0 (by simp) (.inr (.inl ⟨rfl, .inl rfl⟩)) (.inl ⟨rfl, by omega⟩) (by decide)
        show _ = _
        simpa [numF, laneF, ofF] using this
      have LB : Hid (loadM M 4 ⟨2, 4, 1⟩ = (⟨1, n / 4294967296, 0⟩, true)) := by
        have := HMB.out.load 4 4 0 4 (by simp) (.inr (.inl ⟨rfl, .inr rfl⟩)) (.inl ⟨rfl, by omega⟩) (by decide)
        have e : wrap64 (wrap32 (n / 4294967296)) = n / 4294967296 := by unfold wrap64 wrap32; omega
        show _ = _
        simpa [numF, laneF, ofF, e] using this
      have LC : Hid (loadM M 8 ⟨2, 8, 1⟩ = (⟨1, n, 0⟩, true)) := by
        have := HMB.out.load 8 0 1 8 (by simp) (.inr (.inr ⟨rfl, rfl⟩)) (.inr ⟨rfl, by omega⟩) (by decide)
        have e : wrap64 n = n := by unfold wrap64; omega
        show _ = _
        simpa [numF, laneF, ofF, e] using this
      have EX : Hid (∀ W, Calls Try.prog 33 #[.int .i64 n, .int .u64 32] W fun e w' => e = .returned (.int .i64 (wrap64 (wrap32 n))) ∧ w' = W) := fun W => ext32_any n W
      obtain ⟨av, hav⟩ : ∃ av, wrap64 (wrap32 n) = av := ⟨_, rfl⟩
      obtain ⟨bv, hbv⟩ : ∃ bv, n / 4294967296 = bv := ⟨_, rfl⟩
      rw [hav] at LA EX
      rw [hbv] at LB
      clear hav
      go_wp2_with fail
      refine (rat_to 1 0 2 0 1 _ (by rfl)).mono ?_
      rintro e y41 ⟨rfl, hb⟩
      replace HMm : Hid (Mem y41 w.heap.size P2 R M) := Mem.below HMm.out (by repeat (first | with_reducible exact Below.refl _ _ | assumption | with_reducible refine bel_alloc ?_ _ | with_reducible refine Below.drew ?_ | with_reducible refine bel_drewN ?_ _ | with_reducible refine bel_set ?_ (by go_light; first | (simp; done) | (simp; omega) | omega) _ | refine bel_trans ?_ (by assumption)))
      replace HB : Hid (Below w.heap.size w y41) := (by have hB0 := HB.out; exact (by repeat (first | with_reducible exact Below.refl _ _ | assumption | with_reducible refine bel_alloc ?_ _ | with_reducible refine Below.drew ?_ | with_reducible refine bel_drewN ?_ _ | with_reducible refine bel_set ?_ (by go_light; first | (simp; done) | (simp; omega) | omega) _ | refine bel_trans ?_ (by assumption))))
      clear hb
      go_wp2_with fail
      refine (load_to (Mem.below HMm.out (by repeat (first | with_reducible exact Below.refl _ _ | assumption | with_reducible refine bel_alloc ?_ _ | with_reducible refine Below.drew ?_ | with_reducible refine bel_drewN ?_ _ | with_reducible refine bel_set ?_ (by go_light; first | (simp; done) | (simp; omega) | omega) _ | refine bel_trans ?_ (by assumption)))) 4 2 0 1 LA.out).mono ?_
      rintro e y42 ⟨rfl, hb⟩
      replace HMm : Hid (Mem y42 w.heap.size P2 R M) := Mem.below HMm.out (by repeat (first | with_reducible exact Below.refl _ _ | assumption | with_reducible refine bel_alloc ?_ _ | with_reducible refine Below.drew ?_ | with_reducible refine bel_drewN ?_ _ | with_reducible refine bel_set ?_ (by go_light; first | (simp; done) | (simp; omega) | omega) _ | refine bel_trans ?_ (by assumption)))
      replace HB : Hid (Below w.heap.size w y42) := (by have hB0 := HB.out; exact (by repeat (first | with_reducible exact Below.refl _ _ | assumption | with_reducible refine bel_alloc ?_ _ | with_reducible refine Below.drew ?_ | with_reducible refine bel_drewN ?_ _ | with_reducible refine bel_set ?_ (by go_light; first | (simp; done) | (simp; omega) | omega) _ | refine bel_trans ?_ (by assumption))))
      clear hb
      have aRm : R (y42.heap.size) = none := Mem.fresh HMm.out (by omega)
      go_wp2_with fail
      refine (rat_to 1 4 2 4 1 _ (by rfl)).mono ?_
      rintro e y43 ⟨rfl, hb⟩
      have a0 : y43.cell? ⟨y42.heap.size, 0, none⟩ = some (.int .i64 1) := keep_cell hb (by go_simp)
      have a1 : y43.cell? ⟨y42.heap.size, 1, none⟩ = some (.int .i64 av) := keep_cell hb (by go_simp)
      have a2 : y43.cell? ⟨y42.heap.size, 2, none⟩ = some (.int .i64 0) := keep_cell hb (by go_simp)
      have aL : y42.heap.size < y43.heap.size := block_lt_of_cell a0
      replace HMm : Hid (Mem y43 w.heap.size P2 R M) := Mem.below HMm.out (by repeat (first | with_reducible exact Below.refl _ _ | assumption | with_reducible refine bel_alloc ?_ _ | with_reducible refine Below.drew ?_ | with_reducible refine bel_drewN ?_ _ | with_reducible refine bel_set ?_ (by go_light; first | (simp; done) | (simp; omega) | omega) _ | refine bel_trans ?_ (by assumption)))
      replace HB : Hid (Below w.heap.size w y43) := (by have hB0 := HB.out; exact (by repeat (first | with_reducible exact Below.refl _ _ | assumption | with_reducible refine bel_alloc ?_ _ | with_reducible refine Below.drew ?_ | with_reducible refine bel_drewN ?_ _ | with_reducible refine bel_set ?_ (by go_light; first | (simp; done) | (simp; omega) | omega) _ | refine bel_trans ?_ (by assumption))))
      clear hb
      go_wp2_with fail
      refine (load_to (Mem.below HMm.out (by repeat (first | with_reducible exact Below.refl _ _ | assumption | with_reducible refine bel_alloc ?_ _ | with_reducible refine Below.drew ?_ | with_reducible refine bel_drewN ?_ _ | with_reducible refine bel_set ?_ (by go_light; first | (simp; done) | (simp; omega) | omega) _ | refine bel_trans ?_ (by assumption)))) 4 2 4 1 LB.out).mono ?_
      rintro e y44 ⟨rfl, hb⟩
      replace a0 : y44.cell? ⟨y42.heap.size, 0, none⟩ = some (.int .i64 1) := keep_cell hb (by go_simp)
      replace a1 : y44.cell? ⟨y42.heap.size, 1, none⟩ = some (.int .i64 av) := keep_cell hb (by go_simp)
      replace a2 : y44.cell? ⟨y42.heap.size, 2, none⟩ = some (.int .i64 0) := keep_cell hb (by go_simp)
      replace aL : y42.heap.size < y44.heap.size := block_lt_of_cell a0
      replace HMm : Hid (Mem y44 w.heap.size P2 R M) := Mem.below HMm.out (by repeat (first | with_reducible exact Below.refl _ _ | assumption | with_reducible refine bel_alloc ?_ _ | with_reducible refine Below.drew ?_ | with_reducible refine bel_drewN ?_ _ | with_reducible refine bel_set ?_ (by go_light; first | (simp; done) | (simp; omega) | omega) _ | refine bel_trans ?_ (by assumption)))
      replace HB : Hid (Below w.heap.size w y44) := (by have hB0 := HB.out; exact (by repeat (first | with_reducible exact Below.refl _ _ | assumption | with_reducible refine bel_alloc ?_ _ | with_reducible refine Below.drew ?_ | with_reducible refine bel_drewN ?_ _ | with_reducible refine bel_set ?_ (by go_light; first | (simp; done) | (simp; omega) | omega) _ | refine bel_trans ?_ (by assumption))))
      clear hb
      have bRm : R (y44.heap.size) = none := Mem.fresh HMm.out (by omega)
      go_wp2_with fail
      refine (rat_to 1 8 2 8 1 _ (by rfl)).mono ?_
      rintro e y45 ⟨rfl, hb⟩
      replace a0 : y45.cell? ⟨y42.heap.size, 0, none⟩ = some (.int .i64 1) := keep_cell hb (by go_simp)
      replace a1 : y45.cell? ⟨y42.heap.size, 1, none⟩ = some (.int .i64 av) := keep_cell hb (by go_simp)
      replace a2 : y45.cell? ⟨y42.heap.size, 2, none⟩ = some (.int .i64 0) := keep_cell hb (by go_simp)
      replace aL : y42.heap.size < y45.heap.size := block_lt_of_cell a0
      have b0 : y45.cell? ⟨y44.heap.size, 0, none⟩ = some (.int .i64 1) := keep_cell hb (by go_simp)
      have b1 : y45.cell? ⟨y44.heap.size, 1, none⟩ = some (.int .i64 bv) := keep_cell hb (by go_simp)
      have b2 : y45.cell? ⟨y44.heap.size, 2, none⟩ = some (.int .i64 0) := keep_cell hb (by go_simp)
      have bL : y44.heap.size < y45.heap.size := block_lt_of_cell b0
      replace HMm : Hid (Mem y45 w.heap.size P2 R M) := Mem.below HMm.out (by repeat (first | with_reducible exact Below.refl _ _ | assumption | with_reducible refine bel_alloc ?_ _ | with_reducible refine Below.drew ?_ | with_reducible refine bel_drewN ?_ _ | with_reducible refine bel_set ?_ (by go_light; first | (simp; done) | (simp; omega) | omega) _ | refine bel_trans ?_ (by assumption)))
      replace HB : Hid (Below w.heap.size w y45) := (by have hB0 := HB.out; exact (by repeat (first | with_reducible exact Below.refl _ _ | assumption | with_reducible refine bel_alloc ?_ _ | with_reducible refine Below.drew ?_ | with_reducible refine bel_drewN ?_ _ | with_reducible refine bel_set ?_ (by go_light; first | (simp; done) | (simp; omega) | omega) _ | refine bel_trans ?_ (by assumption))))
      clear hb
      go_wp2_with fail
      refine (load_to (Mem.below HMm.out (by repeat (first | with_reducible exact Below.refl _ _ | assumption | with_reducible refine bel_alloc ?_ _ | with_reducible refine Below.drew ?_ | with_reducible refine bel_drewN ?_ _ | with_reducible refine bel_set ?_ (by go_light; first | (simp; done) | (simp; omega) | omega) _ | refine bel_trans ?_ (by assumption)))) 8 2 8 1 LC.out).mono ?_
      rintro e y46 ⟨rfl, hb⟩
      replace a0 : y46.cell? ⟨y42.heap.size, 0, none⟩ = some (.int .i64 1) := keep_cell hb (by go_simp)
      replace a1 : y46.cell? ⟨y42.heap.size, 1, none⟩ = some (.int .i64 av) := keep_cell hb (by go_simp)
      replace a2 : y46.cell? ⟨y42.heap.size, 2, none⟩ = some (.int .i64 0) := keep_cell hb (by go_simp)
      replace aL : y42.heap.size < y46.heap.size := block_lt_of_cell a0
      replace b0 : y46.cell? ⟨y44.heap.size, 0, none⟩ = some (.int .i64 1) := keep_cell hb (by go_simp)
      replace b1 : y46.cell? ⟨y44.heap.size, 1, none⟩ = some (.int .i64 bv) := keep_cell hb (by go_simp)
      replace b2 : y46.cell? ⟨y44.heap.size, 2, none⟩ = some (.int .i64 0) := keep_cell hb (by go_simp)
      replace bL : y44.heap.size < y46.heap.size := block_lt_of_cell b0
      replace HMm : Hid (Mem y46 w.heap.size P2 R M) := Mem.below HMm.out (by repeat (first | with_reducible exact Below.refl _ _ | assumption | with_reducible refine bel_alloc ?_ _ | with_reducible refine Below.drew ?_ | with_reducible refine bel_drewN ?_ _ | with_reducible refine bel_set ?_ (by go_light; first | (simp; done) | (simp; omega) | omega) _ | refine bel_trans ?_ (by assumption)))
      replace HB : Hid (Below w.heap.size w y46) := (by have hB0 := HB.out; exact (by repeat (first | with_reducible exact Below.refl _ _ | assumption | with_reducible refine bel_alloc ?_ _ | with_reducible refine Below.drew ?_ | with_reducible refine bel_drewN ?_ _ | with_reducible refine bel_set ?_ (by go_light; first | (simp; done) | (simp; omega) | omega) _ | refine bel_trans ?_ (by assumption))))
      clear hb
      have cRm : R (y46.heap.size) = none := Mem.fresh HMm.out (by omega)
      go_wp2_with fail
      go_region_held3 (fun w' => (w'.cell? ⟨y42.heap.size, 0, none⟩ = some (.int .i64 1) ∧ w'.cell? ⟨y42.heap.size, 1, none⟩ = some (.int .i64 av) ∧ w'.cell? ⟨y42.heap.size, 2, none⟩ = some (.int .i64 0)) ∧ (w'.cell? ⟨y44.heap.size, 0, none⟩ = some (.int .i64 1) ∧ w'.cell? ⟨y44.heap.size, 1, none⟩ = some (.int .i64 bv) ∧ w'.cell? ⟨y44.heap.size, 2, none⟩ = some (.int .i64 0)) ∧ (w'.cell? ⟨y46.heap.size, 0, none⟩ = some (.int .i64 1) ∧ w'.cell? ⟨y46.heap.size, 1, none⟩ = some (.int .i64 n) ∧ w'.cell? ⟨y46.heap.size, 2, none⟩ = some (.int .i64 0)))
        (first | with_reducible exact s9_call hb (by assumption) | ((go_simp; done)))
        (first
          | (go_at_call 33; refine (EX.out _).mono ?_; rintro e w' ⟨rfl, hw'⟩; replace hw' := hw'.symm; subst hw')
          | (go_at_call 32; refine (rof_to _ _).mono ?_; rintro e wy ⟨rfl, hb⟩))
      all_goals
        go_wp2
        go_ret
        exact ⟨rfl, by have hB0 := HB.out; exact (by repeat (first | with_reducible exact Below.refl _ _ | assumption | with_reducible refine bel_alloc ?_ _ | with_reducible refine Below.drew ?_ | with_reducible refine bel_drewN ?_ _ | with_reducible refine bel_set ?_ (by go_light; first | (simp; done) | (simp; omega) | omega) _ | refine bel_trans ?_ (by assumption)))⟩

set_option maxRecDepth 100000 in
theorem memBytes_lifted (os : Os) (started : os.Started) (H : Type) (enc : TypeId × Value → H) :
    ReturnsInHanded {} Try.checked os 8 .any (Rows.memBytesSpec.pre6 enc Try.prog Try.f8 Rows.memBytesRow.domain false) (Rows.memBytesSpec.post enc Try.prog Try.f8 false true false false) := by
  refine returnsInHanded_of_change (C := Try.checked) own started (by kernel_rfl) Try.func8
    (ChangeSpec.witness6 (enc := enc) (C := Try.checked) false ⟨#[], #[.int .i64 0], []⟩ 8 (by kernel_rfl) (by kernel_rfl) (by kernel_rfl) (by kernel_rfl)) ?_
  intro W base args ds gs before hval0 hW hcnd _
  have hval : ∀ (j : Nat) t v, Try.f8.params[j]? = some t → args[j]? = some v → Value.okWide Try.prog W .any base t v := hval0
  have hW' := hW
  obtain ⟨p, q, hA0, hV, rfl, hfz, hnd⟩ := hW
  have hA : DataW.TrodAll enc Try.prog W 0 (fun _ => true) true Try.f8.params.toList args.toList ds p := hA0
  rw [Try.params8] at hA hval
  obtain ⟨v0, vs0, d0, ds0, p0, q0, hargs, rfl, rfl, h0, r0⟩ := trodAll_cons hA
  obtain ⟨rfl, rfl, rfl⟩ := trodAll_nil r0
  obtain rfl : args = #[v0] := by cases args; simp_all
  obtain ⟨rfl, rfl⟩ := trodVars_none hV
  obtain ⟨a0, rfl, rfl, rfl, x0⟩ := open_int Try.underlying2 (hval 0 2 v0 rfl rfl) h0
  clear hA0 hval0
  simp only [List.append_nil] at hW'
  refine (memBytes_walk a0 x0 W).mono fun e W' ⟨he, hb⟩ => ?_
  subst he
  exact ⟨_, rfl, _, _, _, [], [], [], hW', (trodAll_cons_mk (shut_bool Try.underlying4 _) trodAll_mk0), (trodAll_cons_mk (shut_int Try.underlying2 x0) trodAll_mk0), rfl, hb.frame _, fun h => by cases h⟩

/-- THE STATEMENT. -/
theorem memBytes_holds : Rows.MemBytesSaid :=
  OpenClaim.holds_of_wide 8 Try.f8 rfl rfl rfl rfl rfl rfl rfl ⟨rfl, rfl, rfl, rfl, rfl⟩ rfl rfl rfl rfl rfl (by kernel_rfl) Try.func8 (by kernel_rfl)
    (of_decide_eq_true (by kernel_rfl)) (by unfold Func.isWrapper; first | (rw [if_pos (by decide +kernel)]; kernel_rfl) | (rw [if_neg (by decide +kernel)]; exact ⟨rfl, rfl⟩))
    (fun os started H enc _ => memBytes_lifted os started H enc)
#print axioms memBytes_holds

end Go.Proofs.Ytjiniihdpkaknaa
