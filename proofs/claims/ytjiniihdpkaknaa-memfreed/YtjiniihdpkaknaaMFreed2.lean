/- The walk of MemFreed. -/
import Derived.Test.YtjiniihdpkaknaaMFreedM
namespace Go.Proofs.Ytjiniihdpkaknaa
open Go.ChangeShapes Go.WideShapes Go.ChangeAt Go.RowKit Pl
set_option linter.unusedSimpArgs false
set_option linter.unusedVariables false

theorem free_no {w : World} {base p : Nat} {R : Nat → Option Role} {M : List AB} (h : Mem w base p R M) (x : Int) (hf : findK M x = none) :
    Calls Try.prog 15 #[.pointer (some ⟨p, 0, none⟩), .int .i64 x] w fun e w' => e = .returned (.bool false) ∧ w' = w := by
  obtain ⟨a, cap, g, cur, h⟩ := h
  have hF := find_any h x
  rw [hf] at hF
  exact free_none p x w hF
theorem zero_no {w : World} {base p : Nat} {R : Nat → Option Role} {M : List AB} (h : Mem w base p R M) (x : Int) (hf : findK M x = none) :
    Calls Try.prog 16 #[.pointer (some ⟨p, 0, none⟩), .int .i64 x] w fun e w' => e = .returned (.bool false) ∧ w' = w := by
  obtain ⟨a, cap, g, cur, h⟩ := h
  have hF := find_any h x
  rw [hf] at hF
  exact zero_none p x w hF
theorem store_no {w : World} {base p : Nat} {R : Nat → Option Role} {M : List AB} (h : Mem w base p R M) (c uk un ub vk vn vb : Int) (hf : rightK M c ⟨uk, un, ub⟩ = none) :
    Calls Try.prog 14 #[.pointer (some ⟨p, 0, none⟩), .int .i64 c, .agg #[.int .i64 uk, .int .i64 un, .int .i64 ub], .agg #[.int .i64 vk, .int .i64 vn, .int .i64 vb]] w (retP (.bool false) w) := by
  obtain ⟨a, cap, g, cur, h⟩ := h
  exact store_none p c uk un ub vk vn vb w (fun W hW => by have := right_any (h.below hW) c ⟨uk, un, ub⟩; rw [hf] at this; exact this)

set_option maxRecDepth 100000 in
set_option maxHeartbeats 2000000 in
theorem memFreed_short (a : Option Addr) (len cap : Nat) (gone chunk aa vk vn vb : Int) (w : World) (hl : len = 0 ∨ 20 < len) (hm : (len : Int) ≤ 9223372036854775807) :
    Calls Try.prog 7 #[.slice a len cap, .int .i64 gone, .int .i64 chunk, .int .i64 aa, .agg #[.int .i64 vk, .int .i64 vn, .int .i64 vb]] w (retP (.bool true) w) := by
  by_cases h0 : len = 0
  · subst h0
    go_enter Try.func7, Try.ntmps7
    go_wp2_with (go_at_call 9; refine (awake_any _).mono ?_; rintro e w1 ⟨rfl, hb1⟩; obtain ⟨hc1, hf1⟩ := bcell hb1; have hz1 := bsize hb1; try simp only [World.size_alloc, World.size_drew, World.cell?_drew, World.frozen?_drew] at hz1 hc1 hf1)
    go_ret
    exact ⟨rfl, (by repeat (first | with_reducible exact Below.refl _ _ | with_reducible refine bel_alloc ?_ _ | with_reducible refine bel_set ?_ (by first | exact Nat.le_refl _ | (simp; done) | (simp; omega)) _ | with_reducible refine Below.drew ?_ | refine bel_trans ?_ (by assumption)))⟩
  · have h20 : (20 : Int) < (len : Int) := by omega
    clear hl h0
    go_enter Try.func7, Try.ntmps7
    go_wp2_with (go_at_call 9; refine (awake_any _).mono ?_; rintro e w1 ⟨rfl, hb1⟩; obtain ⟨hc1, hf1⟩ := bcell hb1; have hz1 := bsize hb1; try simp only [World.size_alloc, World.size_drew, World.cell?_drew, World.frozen?_drew] at hz1 hc1 hf1)
    go_ret
    exact ⟨rfl, (by repeat (first | with_reducible exact Below.refl _ _ | with_reducible refine bel_alloc ?_ _ | with_reducible refine bel_set ?_ (by first | exact Nat.le_refl _ | (simp; done) | (simp; omega)) _ | with_reducible refine Below.drew ?_ | refine bel_trans ?_ (by assumption)))⟩

set_option maxRecDepth 100000 in
set_option maxHeartbeats 4000000 in
theorem memFreed_walk (b off len cap : Nat) (z : Nat → Int) (s : Nat → Nat) (gone chunk aa vk vn vb g1 : Int) (k : Nat) (w : World) (l0 : 0 < len) (l1 : len ≤ 20)
    (hc : Hid (∀ i, i < len → w.cell? ⟨b, off + i, none⟩ = some (.int .i64 (z i)))) (hs : Hid (∀ i, bits .and .i64 (z i) 63 = (s i : Int) ∧ s i ≤ 63))
    (hg : bits .and .i64 gone 1023 = g1) (g0 : 0 ≤ g1) (g2 : g1 ≤ 1023) (hkk : g1 % (len : Int) = (k : Int)) (hk : k < len) :
    Calls Try.prog 7 #[.slice (some ⟨b, off, none⟩) len cap, .int .i64 gone, .int .i64 chunk, .int .i64 aa, .agg #[.int .i64 vk, .int .i64 vn, .int .i64 vb]] w (retP (.bool true) w) := by
  have HB : Hid (Below w.heap.size w w) := Below.refl _ _
  have t20 : decide ((20 : Int) < (len : Int)) = false := by simp; omega
  have t0 : ((len : Int) == 0) = false := by simp; omega
  go_enter Try.func7, Try.ntmps7
  go_wp2_with fail
  refine (awake_any _).mono ?_
  rintro e w1 ⟨rfl, hb⟩
  have q0 : w1.cell? ⟨w.heap.size, 0, none⟩ = some (.int .i64 vk) := keep_cell hb (by go_simp)
  have q1 : w1.cell? ⟨w.heap.size, 1, none⟩ = some (.int .i64 vn) := keep_cell hb (by go_simp)
  have q2 : w1.cell? ⟨w.heap.size, 2, none⟩ = some (.int .i64 vb) := keep_cell hb (by go_simp)
  have qL : w.heap.size < w1.heap.size := block_lt_of_cell q0
  replace HB : Hid (Below w.heap.size w w1) := (by have hB0 := HB.out; exact (by repeat (first | with_reducible exact Below.refl _ _ | assumption | with_reducible refine bel_alloc ?_ _ | with_reducible refine Below.drew ?_ | with_reducible refine bel_drewN ?_ _ | with_reducible refine bel_set ?_ (by go_light; first | (simp; done) | (simp; omega) | omega) _ | refine bel_trans ?_ (by assumption))))
  clear hb
  go_wp2_with fail
  refine (new_to (base := w.heap.size) _ (by have := HB.out.size; first | omega | (simp; omega))).mono ?_
  rintro e w2 ⟨P2, R2, rfl, hm, hb, hn⟩
  have qRm : R2 (w.heap.size) = none := none_of hn (block_lt_of_cell (a := ⟨w.heap.size, 0, none⟩) (v := .int .i64 vk) (by go_simp))
  replace q0 : w2.cell? ⟨w.heap.size, 0, none⟩ = some (.int .i64 vk) := keep_cell hb (by go_simp)
  replace q1 : w2.cell? ⟨w.heap.size, 1, none⟩ = some (.int .i64 vn) := keep_cell hb (by go_simp)
  replace q2 : w2.cell? ⟨w.heap.size, 2, none⟩ = some (.int .i64 vb) := keep_cell hb (by go_simp)
  replace qL : w.heap.size < w2.heap.size := block_lt_of_cell q0
  replace HB : Hid (Below w.heap.size w w2) := (by have hB0 := HB.out; exact (by repeat (first | with_reducible exact Below.refl _ _ | assumption | with_reducible refine bel_alloc ?_ _ | with_reducible refine Below.drew ?_ | with_reducible refine bel_drewN ?_ _ | with_reducible refine bel_set ?_ (by go_light; first | (simp; done) | (simp; omega) | omega) _ | refine bel_trans ?_ (by assumption))))
  clear hb
  have HMm : Hid (Mem w2 w.heap.size P2 R2 []) := hm
  clear hm hn
  have HQ0 : Hid (w2.cell? ⟨w.heap.size, 0, none⟩ = some (.int .i64 vk) ∧ w2.cell? ⟨w.heap.size, 1, none⟩ = some (.int .i64 vn) ∧ w2.cell? ⟨w.heap.size, 2, none⟩ = some (.int .i64 vb) ∧ R2 w.heap.size = none) := ⟨q0, q1, q2, qRm⟩
  clear q0 q1 q2 qL qRm
  go_wp2
  go_loopw [12] (fun v wr => ∃ (i : Nat) (R : Nat → Option Role), i ≤ len ∧ v = .int .i64 i ∧ Hid (Mem wr w.heap.size P2 R (MF s i)) ∧ Hid (Below w.heap.size w wr) ∧ Hid (wr.cell? ⟨w.heap.size, 0, none⟩ = some (.int .i64 vk) ∧ wr.cell? ⟨w.heap.size, 1, none⟩ = some (.int .i64 vn) ∧ wr.cell? ⟨w.heap.size, 2, none⟩ = some (.int .i64 vb) ∧ R w.heap.size = none)) (fun v _ => len - (intOf v).toNat)
  case atStart => exact ⟨0, R2, by omega, rfl, HMm, HB, HQ0⟩
  case round =>
    obtain ⟨i, R, hi, rfl, HMr, HBr, HQ⟩ := hrel
    clear HMm HB HQ0
    have HMm := HMr
    have HB := HBr
    clear HMr HBr
    by_cases hil : i < len
    · have i0 : (0 : Int) ≤ i := by omega
      have i1 : (i : Int) < len := by omega
      have cz : wr.cell? ⟨b, off + i, none⟩ = some (.int .i64 (z i)) := keep_cell HB.out (hc.out i hil)
      have hz := hs.out i
      obtain ⟨q0, q1, q2, qRm⟩ := HQ.out
      have qL : w.heap.size < wr.heap.size := block_lt_of_cell q0
      have EA : Hid (allocM (MF s i) (s i) = (MF s i ++ [newB (s i)], (i : Int) + 1, 0)) := mf_alloc s i (by omega) (hz.2)
      have EZ : Hid (zeroM (MF s i ++ [newB (s i)]) ((i : Int) + 1) = (MF s (i + 1), true)) := mf_zero s i
      have hy := hz.1
      clear hz
      go_wp2_with fail
      refine (alloc_to (Mem.below HMm.out (by repeat (first | with_reducible exact Below.refl _ _ | assumption | with_reducible refine bel_alloc ?_ _ | with_reducible refine Below.drew ?_ | with_reducible refine bel_drewN ?_ _ | with_reducible refine bel_set ?_ (by go_light; first | (simp; done) | (simp; omega) | omega) _ | refine bel_trans ?_ (by assumption)))) (s i) EA.out).mono ?_
      rintro e x21 ⟨rfl, R21, hm, hf⟩
      have tR : R21 (w.heap.size) = none := hf.keepR (o := 0) (v := .int .i64 vk) qRm (by go_simp)
      replace q0 : x21.cell? ⟨w.heap.size, 0, none⟩ = some (.int .i64 vk) := hf.keep qRm (by go_simp)
      replace q1 : x21.cell? ⟨w.heap.size, 1, none⟩ = some (.int .i64 vn) := hf.keep qRm (by go_simp)
      replace q2 : x21.cell? ⟨w.heap.size, 2, none⟩ = some (.int .i64 vb) := hf.keep qRm (by go_simp)
      replace qL : w.heap.size < x21.heap.size := block_lt_of_cell q0
      replace qRm := tR
      clear tR
      replace HB : Hid (Below w.heap.size w x21) := Below.wrote (by have hB0 := HB.out; exact (by repeat (first | with_reducible exact Below.refl _ _ | assumption | with_reducible refine bel_alloc ?_ _ | with_reducible refine Below.drew ?_ | with_reducible refine bel_drewN ?_ _ | with_reducible refine bel_set ?_ (by go_light; first | (simp; done) | (simp; omega) | omega) _ | refine bel_trans ?_ (by assumption)))) (Mem.below HMm.out (by repeat (first | with_reducible exact Below.refl _ _ | assumption | with_reducible refine bel_alloc ?_ _ | with_reducible refine Below.drew ?_ | with_reducible refine bel_drewN ?_ _ | with_reducible refine bel_set ?_ (by go_light; first | (simp; done) | (simp; omega) | omega) _ | refine bel_trans ?_ (by assumption)))) hf
      replace HMm : Hid (Mem x21 w.heap.size P2 R21 (MF s i ++ [newB (s i)])) := hm
      clear hm hf
      go_wp2_with fail
      refine (zero_to (Mem.below HMm.out (by repeat (first | with_reducible exact Below.refl _ _ | assumption | with_reducible refine bel_alloc ?_ _ | with_reducible refine Below.drew ?_ | with_reducible refine bel_drewN ?_ _ | with_reducible refine bel_set ?_ (by go_light; first | (simp; done) | (simp; omega) | omega) _ | refine bel_trans ?_ (by assumption)))) ((i : Int) + 1) EZ.out).mono ?_
      rintro e x22 ⟨rfl, R22, hm, hf⟩
      have tR : R22 (w.heap.size) = none := hf.keepR (o := 0) (v := .int .i64 vk) qRm (by go_simp)
      replace q0 : x22.cell? ⟨w.heap.size, 0, none⟩ = some (.int .i64 vk) := hf.keep qRm (by go_simp)
      replace q1 : x22.cell? ⟨w.heap.size, 1, none⟩ = some (.int .i64 vn) := hf.keep qRm (by go_simp)
      replace q2 : x22.cell? ⟨w.heap.size, 2, none⟩ = some (.int .i64 vb) := hf.keep qRm (by go_simp)
      replace qL : w.heap.size < x22.heap.size := block_lt_of_cell q0
      replace qRm := tR
      clear tR
      replace HB : Hid (Below w.heap.size w x22) := Below.wrote (by have hB0 := HB.out; exact (by repeat (first | with_reducible exact Below.refl _ _ | assumption | with_reducible refine bel_alloc ?_ _ | with_reducible refine Below.drew ?_ | with_reducible refine bel_drewN ?_ _ | with_reducible refine bel_set ?_ (by go_light; first | (simp; done) | (simp; omega) | omega) _ | refine bel_trans ?_ (by assumption)))) (Mem.below HMm.out (by repeat (first | with_reducible exact Below.refl _ _ | assumption | with_reducible refine bel_alloc ?_ _ | with_reducible refine Below.drew ?_ | with_reducible refine bel_drewN ?_ _ | with_reducible refine bel_set ?_ (by go_light; first | (simp; done) | (simp; omega) | omega) _ | refine bel_trans ?_ (by assumption)))) hf
      replace HMm : Hid (Mem x22 w.heap.size P2 R22 (MF s (i + 1))) := hm
      clear hm hf
      go_wp2
      go_roundw
      case rel => exact ⟨i + 1, _, by omega, by simp, HMm, HB, ⟨q0, q1, q2, qRm⟩⟩
      case measure => simp [intOf]; omega
    · have hie : i = len := by omega
      subst hie
      obtain ⟨q0, q1, q2, qRm⟩ := HQ.out
      have qL : w.heap.size < wr.heap.size := block_lt_of_cell q0
      have EF : Hid (freeM (MF s i) (1 + (k : Int)) = (MG s i k, true)) := mg_free s i k hk
      have EN : Hid (findK (MG s i k) (1 + (k : Int)) = none) := by
        have := mg_find s i k k hk
        rw [if_pos rfl] at this
        exact this
      have ER : Hid (∀ c a, rightK (MG s i k) c ⟨2, a, 1 + (k : Int)⟩ = none) := mg_none s i k hk
      have EL : Hid (loadM (MG s i k) chunk ⟨2, aa, 1 + (k : Int)⟩ = (⟨0, 0, 0⟩, false)) := by
        show _ = _
        unfold loadM
        rw [mg_none s i k hk]
        rfl
      have EV : Hid (live (MG s i k) = (i : Int) - 1) := mg_live s i k hk
      have ES : Hid (sizeM (MG s i k) (1 + (k : Int)) = (0, false)) := by
        have := mg_size s i k k hk
        rw [if_pos rfl] at this
        exact this
      have k0 : (0 : Int) ≤ k := by omega
      have AT : atF (1 + (k : Int)) aa = ⟨2, aa, 1 + (k : Int)⟩ := by unfold atF; rw [if_neg (by omega)]
      have HAT : Hid (atF (1 + (k : Int)) aa = ⟨2, aa, 1 + (k : Int)⟩) := AT
      clear AT
      go_wp2_with fail
      refine (free_to (Mem.below HMm.out (by repeat (first | with_reducible exact Below.refl _ _ | assumption | with_reducible refine bel_alloc ?_ _ | with_reducible refine Below.drew ?_ | with_reducible refine bel_drewN ?_ _ | with_reducible refine bel_set ?_ (by go_light; first | (simp; done) | (simp; omega) | omega) _ | refine bel_trans ?_ (by assumption)))) (1 + (k : Int)) EF.out).mono ?_
      rintro e y41 ⟨rfl, R41, hm, hf⟩
      have tR : R41 (w.heap.size) = none := hf.keepR (o := 0) (v := .int .i64 vk) qRm (by go_simp)
      replace q0 : y41.cell? ⟨w.heap.size, 0, none⟩ = some (.int .i64 vk) := hf.keep qRm (by go_simp)
      replace q1 : y41.cell? ⟨w.heap.size, 1, none⟩ = some (.int .i64 vn) := hf.keep qRm (by go_simp)
      replace q2 : y41.cell? ⟨w.heap.size, 2, none⟩ = some (.int .i64 vb) := hf.keep qRm (by go_simp)
      replace qL : w.heap.size < y41.heap.size := block_lt_of_cell q0
      replace qRm := tR
      clear tR
      replace HB : Hid (Below w.heap.size w y41) := Below.wrote (by have hB0 := HB.out; exact (by repeat (first | with_reducible exact Below.refl _ _ | assumption | with_reducible refine bel_alloc ?_ _ | with_reducible refine Below.drew ?_ | with_reducible refine bel_drewN ?_ _ | with_reducible refine bel_set ?_ (by go_light; first | (simp; done) | (simp; omega) | omega) _ | refine bel_trans ?_ (by assumption)))) (Mem.below HMm.out (by repeat (first | with_reducible exact Below.refl _ _ | assumption | with_reducible refine bel_alloc ?_ _ | with_reducible refine Below.drew ?_ | with_reducible refine bel_drewN ?_ _ | with_reducible refine bel_set ?_ (by go_light; first | (simp; done) | (simp; omega) | omega) _ | refine bel_trans ?_ (by assumption)))) hf
      replace HMm : Hid (Mem y41 w.heap.size P2 R41 (MG s i k)) := hm
      clear hm hf
      go_wp2_with fail
      refine (free_no (Mem.below HMm.out (by repeat (first | with_reducible exact Below.refl _ _ | assumption | with_reducible refine bel_alloc ?_ _ | with_reducible refine Below.drew ?_ | with_reducible refine bel_drewN ?_ _ | with_reducible refine bel_set ?_ (by go_light; first | (simp; done) | (simp; omega) | omega) _ | refine bel_trans ?_ (by assumption)))) (1 + (k : Int)) EN.out).mono ?_
      rintro e w' ⟨rfl, hw'⟩
      replace hw' := hw'.symm
      subst hw'
      go_wp2_with fail
      refine (zero_no (Mem.below HMm.out (by repeat (first | with_reducible exact Below.refl _ _ | assumption | with_reducible refine bel_alloc ?_ _ | with_reducible refine Below.drew ?_ | with_reducible refine bel_drewN ?_ _ | with_reducible refine bel_set ?_ (by go_light; first | (simp; done) | (simp; omega) | omega) _ | refine bel_trans ?_ (by assumption)))) (1 + (k : Int)) EN.out).mono ?_
      rintro e w' ⟨rfl, hw'⟩
      replace hw' := hw'.symm
      subst hw'
      go_wp2_with fail
      refine (live_to (Mem.below HMm.out (by repeat (first | with_reducible exact Below.refl _ _ | assumption | with_reducible refine bel_alloc ?_ _ | with_reducible refine Below.drew ?_ | with_reducible refine bel_drewN ?_ _ | with_reducible refine bel_set ?_ (by go_light; first | (simp; done) | (simp; omega) | omega) _ | refine bel_trans ?_ (by assumption)))) EV.out).mono ?_
      rintro e w' ⟨rfl, hw'⟩
      replace hw' := hw'.symm
      subst hw'
      go_wp2_with fail
      refine (blocks_to (Mem.below HMm.out (by repeat (first | with_reducible exact Below.refl _ _ | assumption | with_reducible refine bel_alloc ?_ _ | with_reducible refine Below.drew ?_ | with_reducible refine bel_drewN ?_ _ | with_reducible refine bel_set ?_ (by go_light; first | (simp; done) | (simp; omega) | omega) _ | refine bel_trans ?_ (by assumption)))) (mg_len s i k)).mono ?_
      rintro e w' ⟨rfl, hw'⟩
      replace hw' := hw'.symm
      subst hw'
      go_wp2_with fail
      refine (rat_to (1 + (k : Int)) aa 2 aa (1 + (k : Int)) _ HAT.out).mono ?_
      rintro e y42 ⟨rfl, hb⟩
      replace q0 : y42.cell? ⟨w.heap.size, 0, none⟩ = some (.int .i64 vk) := keep_cell hb (by go_simp)
      replace q1 : y42.cell? ⟨w.heap.size, 1, none⟩ = some (.int .i64 vn) := keep_cell hb (by go_simp)
      replace q2 : y42.cell? ⟨w.heap.size, 2, none⟩ = some (.int .i64 vb) := keep_cell hb (by go_simp)
      replace qL : w.heap.size < y42.heap.size := block_lt_of_cell q0
      replace HMm : Hid (Mem y42 w.heap.size P2 R41 (MG s i k)) := Mem.below HMm.out (by repeat (first | with_reducible exact Below.refl _ _ | assumption | with_reducible refine bel_alloc ?_ _ | with_reducible refine Below.drew ?_ | with_reducible refine bel_drewN ?_ _ | with_reducible refine bel_set ?_ (by go_light; first | (simp; done) | (simp; omega) | omega) _ | refine bel_trans ?_ (by assumption)))
      replace HB : Hid (Below w.heap.size w y42) := (by have hB0 := HB.out; exact (by repeat (first | with_reducible exact Below.refl _ _ | assumption | with_reducible refine bel_alloc ?_ _ | with_reducible refine Below.drew ?_ | with_reducible refine bel_drewN ?_ _ | with_reducible refine bel_set ?_ (by go_light; first | (simp; done) | (simp; omega) | omega) _ | refine bel_trans ?_ (by assumption))))
      clear hb
      go_wp2_with fail
      refine (load_to (Mem.below HMm.out (by repeat (first | with_reducible exact Below.refl _ _ | assumption | with_reducible refine bel_alloc ?_ _ | with_reducible refine Below.drew ?_ | with_reducible refine bel_drewN ?_ _ | with_reducible refine bel_set ?_ (by go_light; first | (simp; done) | (simp; omega) | omega) _ | refine bel_trans ?_ (by assumption)))) chunk 2 aa (1 + (k : Int)) EL.out).mono ?_
      rintro e y43 ⟨rfl, hb⟩
      replace q0 : y43.cell? ⟨w.heap.size, 0, none⟩ = some (.int .i64 vk) := keep_cell hb (by go_simp)
      replace q1 : y43.cell? ⟨w.heap.size, 1, none⟩ = some (.int .i64 vn) := keep_cell hb (by go_simp)
      replace q2 : y43.cell? ⟨w.heap.size, 2, none⟩ = some (.int .i64 vb) := keep_cell hb (by go_simp)
      replace qL : w.heap.size < y43.heap.size := block_lt_of_cell q0
      replace HMm : Hid (Mem y43 w.heap.size P2 R41 (MG s i k)) := Mem.below HMm.out (by repeat (first | with_reducible exact Below.refl _ _ | assumption | with_reducible refine bel_alloc ?_ _ | with_reducible refine Below.drew ?_ | with_reducible refine bel_drewN ?_ _ | with_reducible refine bel_set ?_ (by go_light; first | (simp; done) | (simp; omega) | omega) _ | refine bel_trans ?_ (by assumption)))
      replace HB : Hid (Below w.heap.size w y43) := (by have hB0 := HB.out; exact (by repeat (first | with_reducible exact Below.refl _ _ | assumption | with_reducible refine bel_alloc ?_ _ | with_reducible refine Below.drew ?_ | with_reducible refine bel_drewN ?_ _ | with_reducible refine bel_set ?_ (by go_light; first | (simp; done) | (simp; omega) | omega) _ | refine bel_trans ?_ (by assumption))))
      clear hb
      have uRm : R41 (y43.heap.size) = none := Mem.fresh HMm.out (by omega)
      go_wp2_with fail
      refine (size_to (Mem.below HMm.out (by repeat (first | with_reducible exact Below.refl _ _ | assumption | with_reducible refine bel_alloc ?_ _ | with_reducible refine Below.drew ?_ | with_reducible refine bel_drewN ?_ _ | with_reducible refine bel_set ?_ (by go_light; first | (simp; done) | (simp; omega) | omega) _ | refine bel_trans ?_ (by assumption)))) (1 + (k : Int)) ES.out).mono ?_
      rintro e w' ⟨rfl, hw'⟩
      replace hw' := hw'.symm
      subst hw'
      go_wp2_with fail
      go_region_held3 (fun w' => w'.cell? ⟨w.heap.size, 0, none⟩ = some (.int .i64 vk) ∧ w'.cell? ⟨w.heap.size, 1, none⟩ = some (.int .i64 vn) ∧ w'.cell? ⟨w.heap.size, 2, none⟩ = some (.int .i64 vb))
        (first | with_reducible exact c3_call hb (by assumption) | ((go_simp; done)))
        (first
          | (go_at_call 13; refine (rat_to (1 + (k : Int)) aa 2 aa (1 + (k : Int)) _ HAT.out).mono ?_; rintro e wz ⟨rfl, hb⟩)
          | (go_at_call 14; refine (store_no (Mem.below HMm.out (by repeat (first | with_reducible exact Below.refl _ _ | assumption | with_reducible refine bel_alloc ?_ _ | with_reducible refine Below.drew ?_ | with_reducible refine bel_drewN ?_ _ | with_reducible refine bel_set ?_ (by go_light; first | (simp; done) | (simp; omega) | omega) _ | refine bel_trans ?_ (by assumption)))) chunk 2 aa (1 + (k : Int)) vk vn vb (ER.out _ _)).mono ?_; rintro e wq ⟨rfl, hb⟩; have HMq : Hid (Mem wq w.heap.size P2 R41 (MG s i k)) := (Mem.below HMm.out (by repeat (first | with_reducible exact Below.refl _ _ | assumption | with_reducible refine bel_alloc ?_ _ | with_reducible refine Below.drew ?_ | with_reducible refine bel_drewN ?_ _ | with_reducible refine bel_set ?_ (by go_light; first | (simp; done) | (simp; omega) | omega) _ | refine bel_trans ?_ (by assumption)))); have HBq : Hid (Below w.heap.size w wq) := (by have hB0 := HB.out; exact (by repeat (first | with_reducible exact Below.refl _ _ | assumption | with_reducible refine bel_alloc ?_ _ | with_reducible refine Below.drew ?_ | with_reducible refine bel_drewN ?_ _ | with_reducible refine bel_set ?_ (by go_light; first | (simp; done) | (simp; omega) | omega) _ | refine bel_trans ?_ (by assumption))))))
      all_goals
        go_wp2
        go_loopw [21] (fun v wr => ∃ (j : Nat), j ≤ i ∧ v = .int .i64 j ∧ Hid (Mem wr w.heap.size P2 R41 (MG s i k)) ∧ Hid (Below w.heap.size w wr)) (fun v _ => i - (intOf v).toNat)
        case atStart => exact ⟨0, by omega, rfl, HMq, HBq⟩
        case round =>
          obtain ⟨j, hj, rfl, HMr, HBr⟩ := hrel
          clear HMm HB HMq HBq
          have HMm := HMr
          have HB := HBr
          clear HMr HBr
          by_cases hjl : j < i
          · have j0 : (0 : Int) ≤ j := by omega
            have j1 : (j : Int) < i := by omega
            have cz : wr.cell? ⟨b, off + j, none⟩ = some (.int .i64 (z j)) := keep_cell HB.out (hc.out j hjl)
            have hz := hs.out j
            have hy := hz.1
            have e1 : (1 : Int) + (j : Int) = (j : Int) + 1 := by omega
            have hsz := mg_size s i k j hjl
            have hld := mg_load s i k j hjl
            rw [e1] at hsz hld
            have HAJ : Hid (atF ((j : Int) + 1) 0 = ⟨2, 0, (j : Int) + 1⟩) := by show _ = _; unfold atF; rw [if_neg (by omega)]
            clear hz e1
            by_cases hjk : j = k
            · rw [if_pos hjk] at hsz
              rw [if_pos (.inl hjk)] at hld
              have hjk2 : ((j : Int) + 1 != 1 + (k : Int)) = false := by simp; omega
              clear hjk
              have HSZ : Hid (sizeM (MG s i k) ((j : Int) + 1) = (0, false)) := hsz
              have HLD : Hid (loadM (MG s i k) 1 ⟨2, 0, (j : Int) + 1⟩ = (⟨0, 0, 0⟩, false)) := hld
              clear hsz hld
              go_wp2_with fail
              refine (size_to (Mem.below HMm.out (by repeat (first | with_reducible exact Below.refl _ _ | assumption | with_reducible refine bel_alloc ?_ _ | with_reducible refine Below.drew ?_ | with_reducible refine bel_drewN ?_ _ | with_reducible refine bel_set ?_ (by go_light; first | (simp; done) | (simp; omega) | omega) _ | refine bel_trans ?_ (by assumption)))) ((j : Int) + 1) HSZ.out).mono ?_
              rintro e w' ⟨rfl, hw'⟩
              replace hw' := hw'.symm
              subst hw'
              go_wp2_with fail
              refine (rat_to ((j : Int) + 1) 0 2 0 ((j : Int) + 1) _ HAJ.out).mono ?_
              rintro e z61 ⟨rfl, hb⟩
              replace HMm : Hid (Mem z61 w.heap.size P2 R41 (MG s i k)) := Mem.below HMm.out (by repeat (first | with_reducible exact Below.refl _ _ | assumption | with_reducible refine bel_alloc ?_ _ | with_reducible refine Below.drew ?_ | with_reducible refine bel_drewN ?_ _ | with_reducible refine bel_set ?_ (by go_light; first | (simp; done) | (simp; omega) | omega) _ | refine bel_trans ?_ (by assumption)))
              replace HB : Hid (Below w.heap.size w z61) := (by have hB0 := HB.out; exact (by repeat (first | with_reducible exact Below.refl _ _ | assumption | with_reducible refine bel_alloc ?_ _ | with_reducible refine Below.drew ?_ | with_reducible refine bel_drewN ?_ _ | with_reducible refine bel_set ?_ (by go_light; first | (simp; done) | (simp; omega) | omega) _ | refine bel_trans ?_ (by assumption))))
              clear hb
              go_wp2_with fail
              refine (load_to (Mem.below HMm.out (by repeat (first | with_reducible exact Below.refl _ _ | assumption | with_reducible refine bel_alloc ?_ _ | with_reducible refine Below.drew ?_ | with_reducible refine bel_drewN ?_ _ | with_reducible refine bel_set ?_ (by go_light; first | (simp; done) | (simp; omega) | omega) _ | refine bel_trans ?_ (by assumption)))) 1 2 0 ((j : Int) + 1) HLD.out).mono ?_
              rintro e z62 ⟨rfl, hb⟩
              replace HMm : Hid (Mem z62 w.heap.size P2 R41 (MG s i k)) := Mem.below HMm.out (by repeat (first | with_reducible exact Below.refl _ _ | assumption | with_reducible refine bel_alloc ?_ _ | with_reducible refine Below.drew ?_ | with_reducible refine bel_drewN ?_ _ | with_reducible refine bel_set ?_ (by go_light; first | (simp; done) | (simp; omega) | omega) _ | refine bel_trans ?_ (by assumption)))
              replace HB : Hid (Below w.heap.size w z62) := (by have hB0 := HB.out; exact (by repeat (first | with_reducible exact Below.refl _ _ | assumption | with_reducible refine bel_alloc ?_ _ | with_reducible refine Below.drew ?_ | with_reducible refine bel_drewN ?_ _ | with_reducible refine bel_set ?_ (by go_light; first | (simp; done) | (simp; omega) | omega) _ | refine bel_trans ?_ (by assumption))))
              clear hb
              have cz2 : z62.cell? ⟨b, off + j, none⟩ = some (.int .i64 (z j)) := keep_cell HB.out (hc.out j hjl)
              have bl2 := block_lt_of_cell cz2
              go_wp2
              go_roundw
              case rel => exact ⟨j + 1, by omega, by simp, Mem.below HMm.out (by repeat (first | with_reducible exact Below.refl _ _ | assumption | with_reducible refine bel_alloc ?_ _ | with_reducible refine Below.drew ?_ | with_reducible refine bel_drewN ?_ _ | with_reducible refine bel_set ?_ (by go_light; first | (simp; done) | (simp; omega) | omega) _ | refine bel_trans ?_ (by assumption))), show Below w.heap.size w _ from by have hB0 := HB.out; exact (by repeat (first | with_reducible exact Below.refl _ _ | assumption | with_reducible refine bel_alloc ?_ _ | with_reducible refine Below.drew ?_ | with_reducible refine bel_drewN ?_ _ | with_reducible refine bel_set ?_ (by go_light; first | (simp; done) | (simp; omega) | omega) _ | refine bel_trans ?_ (by assumption)))⟩
              case measure => simp [intOf]; omega
            by_cases hs0 : s j = 0
            · rw [if_neg hjk] at hsz
              rw [if_pos (.inr hs0)] at hld
              have hjk2 : ((j : Int) + 1 != 1 + (k : Int)) = true := by simp; omega
              have hsz0 : ((s j : Nat) : Int) = 0 := by omega
              have HSZ : Hid (sizeM (MG s i k) ((j : Int) + 1) = ((s j : Int), true)) := hsz
              have HLD : Hid (loadM (MG s i k) 1 ⟨2, 0, (j : Int) + 1⟩ = (⟨0, 0, 0⟩, false)) := hld
              clear hsz hld
              go_wp2_with fail
              refine (size_to (Mem.below HMm.out (by repeat (first | with_reducible exact Below.refl _ _ | assumption | with_reducible refine bel_alloc ?_ _ | with_reducible refine Below.drew ?_ | with_reducible refine bel_drewN ?_ _ | with_reducible refine bel_set ?_ (by go_light; first | (simp; done) | (simp; omega) | omega) _ | refine bel_trans ?_ (by assumption)))) ((j : Int) + 1) HSZ.out).mono ?_
              rintro e w' ⟨rfl, hw'⟩
              replace hw' := hw'.symm
              subst hw'
              go_wp2_with fail
              refine (rat_to ((j : Int) + 1) 0 2 0 ((j : Int) + 1) _ HAJ.out).mono ?_
              rintro e z61 ⟨rfl, hb⟩
              replace HMm : Hid (Mem z61 w.heap.size P2 R41 (MG s i k)) := Mem.below HMm.out (by repeat (first | with_reducible exact Below.refl _ _ | assumption | with_reducible refine bel_alloc ?_ _ | with_reducible refine Below.drew ?_ | with_reducible refine bel_drewN ?_ _ | with_reducible refine bel_set ?_ (by go_light; first | (simp; done) | (simp; omega) | omega) _ | refine bel_trans ?_ (by assumption)))
              replace HB : Hid (Below w.heap.size w z61) := (by have hB0 := HB.out; exact (by repeat (first | with_reducible exact Below.refl _ _ | assumption | with_reducible refine bel_alloc ?_ _ | with_reducible refine Below.drew ?_ | with_reducible refine bel_drewN ?_ _ | with_reducible refine bel_set ?_ (by go_light; first | (simp; done) | (simp; omega) | omega) _ | refine bel_trans ?_ (by assumption))))
              clear hb
              go_wp2_with fail
              refine (load_to (Mem.below HMm.out (by repeat (first | with_reducible exact Below.refl _ _ | assumption | with_reducible refine bel_alloc ?_ _ | with_reducible refine Below.drew ?_ | with_reducible refine bel_drewN ?_ _ | with_reducible refine bel_set ?_ (by go_light; first | (simp; done) | (simp; omega) | omega) _ | refine bel_trans ?_ (by assumption)))) 1 2 0 ((j : Int) + 1) HLD.out).mono ?_
              rintro e z62 ⟨rfl, hb⟩
              replace HMm : Hid (Mem z62 w.heap.size P2 R41 (MG s i k)) := Mem.below HMm.out (by repeat (first | with_reducible exact Below.refl _ _ | assumption | with_reducible refine bel_alloc ?_ _ | with_reducible refine Below.drew ?_ | with_reducible refine bel_drewN ?_ _ | with_reducible refine bel_set ?_ (by go_light; first | (simp; done) | (simp; omega) | omega) _ | refine bel_trans ?_ (by assumption)))
              replace HB : Hid (Below w.heap.size w z62) := (by have hB0 := HB.out; exact (by repeat (first | with_reducible exact Below.refl _ _ | assumption | with_reducible refine bel_alloc ?_ _ | with_reducible refine Below.drew ?_ | with_reducible refine bel_drewN ?_ _ | with_reducible refine bel_set ?_ (by go_light; first | (simp; done) | (simp; omega) | omega) _ | refine bel_trans ?_ (by assumption))))
              clear hb
              have cz2 : z62.cell? ⟨b, off + j, none⟩ = some (.int .i64 (z j)) := keep_cell HB.out (hc.out j hjl)
              have bl2 := block_lt_of_cell cz2
              go_wp2
              go_roundw
              case rel => exact ⟨j + 1, by omega, by simp, Mem.below HMm.out (by repeat (first | with_reducible exact Below.refl _ _ | assumption | with_reducible refine bel_alloc ?_ _ | with_reducible refine Below.drew ?_ | with_reducible refine bel_drewN ?_ _ | with_reducible refine bel_set ?_ (by go_light; first | (simp; done) | (simp; omega) | omega) _ | refine bel_trans ?_ (by assumption))), show Below w.heap.size w _ from by have hB0 := HB.out; exact (by repeat (first | with_reducible exact Below.refl _ _ | assumption | with_reducible refine bel_alloc ?_ _ | with_reducible refine Below.drew ?_ | with_reducible refine bel_drewN ?_ _ | with_reducible refine bel_set ?_ (by go_light; first | (simp; done) | (simp; omega) | omega) _ | refine bel_trans ?_ (by assumption)))⟩
              case measure => simp [intOf]; omega
            · rw [if_neg hjk] at hsz
              rw [if_neg (by omega)] at hld
              have hjk2 : ((j : Int) + 1 != 1 + (k : Int)) = true := by simp; omega
              have hpos : (0 : Int) < (s j : Int) := by omega
              have HSZ : Hid (sizeM (MG s i k) ((j : Int) + 1) = ((s j : Int), true)) := hsz
              have HLD : Hid (loadM (MG s i k) 1 ⟨2, 0, (j : Int) + 1⟩ = (⟨1, 0, 0⟩, true)) := hld
              clear hsz hld
              go_wp2_with fail
              refine (size_to (Mem.below HMm.out (by repeat (first | with_reducible exact Below.refl _ _ | assumption | with_reducible refine bel_alloc ?_ _ | with_reducible refine Below.drew ?_ | with_reducible refine bel_drewN ?_ _ | with_reducible refine bel_set ?_ (by go_light; first | (simp; done) | (simp; omega) | omega) _ | refine bel_trans ?_ (by assumption)))) ((j : Int) + 1) HSZ.out).mono ?_
              rintro e w' ⟨rfl, hw'⟩
              replace hw' := hw'.symm
              subst hw'
              go_wp2_with fail
              refine (rat_to ((j : Int) + 1) 0 2 0 ((j : Int) + 1) _ HAJ.out).mono ?_
              rintro e z61 ⟨rfl, hb⟩
              replace HMm : Hid (Mem z61 w.heap.size P2 R41 (MG s i k)) := Mem.below HMm.out (by repeat (first | with_reducible exact Below.refl _ _ | assumption | with_reducible refine bel_alloc ?_ _ | with_reducible refine Below.drew ?_ | with_reducible refine bel_drewN ?_ _ | with_reducible refine bel_set ?_ (by go_light; first | (simp; done) | (simp; omega) | omega) _ | refine bel_trans ?_ (by assumption)))
              replace HB : Hid (Below w.heap.size w z61) := (by have hB0 := HB.out; exact (by repeat (first | with_reducible exact Below.refl _ _ | assumption | with_reducible refine bel_alloc ?_ _ | with_reducible refine Below.drew ?_ | with_reducible refine bel_drewN ?_ _ | with_reducible refine bel_set ?_ (by go_light; first | (simp; done) | (simp; omega) | omega) _ | refine bel_trans ?_ (by assumption))))
              clear hb
              go_wp2_with fail
              refine (load_to (Mem.below HMm.out (by repeat (first | with_reducible exact Below.refl _ _ | assumption | with_reducible refine bel_alloc ?_ _ | with_reducible refine Below.drew ?_ | with_reducible refine bel_drewN ?_ _ | with_reducible refine bel_set ?_ (by go_light; first | (simp; done) | (simp; omega) | omega) _ | refine bel_trans ?_ (by assumption)))) 1 2 0 ((j : Int) + 1) HLD.out).mono ?_
              rintro e z62 ⟨rfl, hb⟩
              replace HMm : Hid (Mem z62 w.heap.size P2 R41 (MG s i k)) := Mem.below HMm.out (by repeat (first | with_reducible exact Below.refl _ _ | assumption | with_reducible refine bel_alloc ?_ _ | with_reducible refine Below.drew ?_ | with_reducible refine bel_drewN ?_ _ | with_reducible refine bel_set ?_ (by go_light; first | (simp; done) | (simp; omega) | omega) _ | refine bel_trans ?_ (by assumption)))
              replace HB : Hid (Below w.heap.size w z62) := (by have hB0 := HB.out; exact (by repeat (first | with_reducible exact Below.refl _ _ | assumption | with_reducible refine bel_alloc ?_ _ | with_reducible refine Below.drew ?_ | with_reducible refine bel_drewN ?_ _ | with_reducible refine bel_set ?_ (by go_light; first | (simp; done) | (simp; omega) | omega) _ | refine bel_trans ?_ (by assumption))))
              clear hb
              have cz2 : z62.cell? ⟨b, off + j, none⟩ = some (.int .i64 (z j)) := keep_cell HB.out (hc.out j hjl)
              have bl2 := block_lt_of_cell cz2
              go_wp2
              go_roundw
              case rel => exact ⟨j + 1, by omega, by simp, Mem.below HMm.out (by repeat (first | with_reducible exact Below.refl _ _ | assumption | with_reducible refine bel_alloc ?_ _ | with_reducible refine Below.drew ?_ | with_reducible refine bel_drewN ?_ _ | with_reducible refine bel_set ?_ (by go_light; first | (simp; done) | (simp; omega) | omega) _ | refine bel_trans ?_ (by assumption))), show Below w.heap.size w _ from by have hB0 := HB.out; exact (by repeat (first | with_reducible exact Below.refl _ _ | assumption | with_reducible refine bel_alloc ?_ _ | with_reducible refine Below.drew ?_ | with_reducible refine bel_drewN ?_ _ | with_reducible refine bel_set ?_ (by go_light; first | (simp; done) | (simp; omega) | omega) _ | refine bel_trans ?_ (by assumption)))⟩
              case measure => simp [intOf]; omega
          · have hje : j = i := by omega
            subst hje
            go_wp2
            go_ret
            exact ⟨rfl, HB.out⟩

end Go.Proofs.Ytjiniihdpkaknaa
