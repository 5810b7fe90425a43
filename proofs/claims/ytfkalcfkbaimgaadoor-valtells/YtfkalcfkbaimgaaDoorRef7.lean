/- Contracts of the document's own answers: True, Swap, Flip, Text. -/
import Derived.Test.YtfkalcfkbaimgaaDoorRef6
import Derived.Deep.RegionHeld3
namespace Go.Proofs.YtfkalcfkbaimgaaDoor
open Go.ChangeShapes Go.WideShapes Go.ChangeAt Go.RowKit Pl
set_option linter.unusedSimpArgs false
set_option linter.unusedVariables false

set_option maxHeartbeats 1000000 in
theorem rswap_any (op : Int) (w : World) : Calls Tryd.prog 23 #[.int .i64 op] w fun e w' => e = .returned (.tuple #[.int .i64 (swapF op).1, .bool (swapF op).2]) ∧ w' = w := by
  by_cases h11 : op = 11
  · subst h11
    go_enter Tryd.func23, Tryd.ntmps23
    go_wp2
    go_ret2
    exact ⟨by simp [swapF], rfl⟩
  by_cases h13 : op = 13
  · subst h13
    go_enter Tryd.func23, Tryd.ntmps23
    go_wp2
    go_ret2
    exact ⟨by simp [swapF], rfl⟩
  by_cases h16 : op = 16
  · subst h16
    go_enter Tryd.func23, Tryd.ntmps23
    go_wp2
    go_ret2
    exact ⟨by simp [swapF], rfl⟩
  by_cases h17 : op = 17
  · subst h17
    go_enter Tryd.func23, Tryd.ntmps23
    go_wp2
    go_ret2
    exact ⟨by simp [swapF], rfl⟩
  by_cases h18 : op = 18
  · subst h18
    go_enter Tryd.func23, Tryd.ntmps23
    go_wp2
    go_ret2
    exact ⟨by simp [swapF], rfl⟩
  by_cases h21 : op = 21
  · subst h21
    go_enter Tryd.func23, Tryd.ntmps23
    go_wp2
    go_ret2
    exact ⟨by simp [swapF], rfl⟩
  by_cases h22 : op = 22
  · subst h22
    go_enter Tryd.func23, Tryd.ntmps23
    go_wp2
    go_ret2
    exact ⟨by simp [swapF], rfl⟩
  by_cases h23 : op = 23
  · subst h23
    go_enter Tryd.func23, Tryd.ntmps23
    go_wp2
    go_ret2
    exact ⟨by simp [swapF], rfl⟩
  by_cases h24 : op = 24
  · subst h24
    go_enter Tryd.func23, Tryd.ntmps23
    go_wp2
    go_ret2
    exact ⟨by simp [swapF], rfl⟩
  by_cases h25 : op = 25
  · subst h25
    go_enter Tryd.func23, Tryd.ntmps23
    go_wp2
    go_ret2
    exact ⟨by simp [swapF], rfl⟩
  by_cases h26 : op = 26
  · subst h26
    go_enter Tryd.func23, Tryd.ntmps23
    go_wp2
    go_ret2
    exact ⟨by simp [swapF], rfl⟩
  go_enter Tryd.func23, Tryd.ntmps23
  go_wp2
  go_ret2
  exact ⟨by simp [swapF, h11, h13, h16, h17, h18, h21, h22, h23, h24, h25, h26], rfl⟩

set_option maxHeartbeats 1000000 in
theorem rtrue_any (ak an ab : Int) (w : World) : Calls Tryd.prog 19 #[.agg #[.int .i64 ak, .int .i64 an, .int .i64 ab]] w (retP (.tuple #[.bool (trueF ⟨ak, an, ab⟩).1, .bool (trueF ⟨ak, an, ab⟩).2]) w) := by
  by_cases hg : goodF ⟨ak, an, ab⟩ = true
  · have hK : kindF ⟨ak, an, ab⟩ = ak := by simp [kindF, hg]
    have hc : ak = 0 ∨ ak = 1 ∨ ak = 2 := by
      unfold goodF at hg
      by_cases h0 : ak = 0
      · exact .inl h0
      by_cases h1 : ak = 1
      · exact .inr (.inl h1)
      by_cases h2 : ak = 2
      · exact .inr (.inr h2)
      · simp [h0, h1, h2] at hg
    rcases hc with rfl | rfl | rfl
    · go_enter Tryd.func19, Tryd.ntmps19
      go_wp2_with (go_at_call 24; refine (rgood_any _ _ _ _).mono ?_; rintro e w1 ⟨rfl, hb1⟩; have c0 := keep_cell hb1 (p := ⟨w.heap.size, 0, none⟩) (v := .int .i64 0) (by go_simp); have c1 := keep_cell hb1 (p := ⟨w.heap.size, 1, none⟩) (v := .int .i64 an) (by go_simp); have c2 := keep_cell hb1 (p := ⟨w.heap.size, 2, none⟩) (v := .int .i64 ab) (by go_simp))
      go_ret2
      exact ⟨by simp [trueF, hK], (by repeat (first | exact Below.refl _ _ | refine bel_alloc ?_ _ | refine bel_set ?_ (by first | exact Nat.le_refl _ | (simp; done) | (simp; omega)) _ | refine Below.drew ?_ | refine bel_trans ?_ (by assumption)))⟩
    · go_enter Tryd.func19, Tryd.ntmps19
      go_wp2_with (go_at_call 24; refine (rgood_any _ _ _ _).mono ?_; rintro e w1 ⟨rfl, hb1⟩; have c0 := keep_cell hb1 (p := ⟨w.heap.size, 0, none⟩) (v := .int .i64 1) (by go_simp); have c1 := keep_cell hb1 (p := ⟨w.heap.size, 1, none⟩) (v := .int .i64 an) (by go_simp); have c2 := keep_cell hb1 (p := ⟨w.heap.size, 2, none⟩) (v := .int .i64 ab) (by go_simp))
      go_ret2
      exact ⟨by simp [trueF, hK], (by repeat (first | exact Below.refl _ _ | refine bel_alloc ?_ _ | refine bel_set ?_ (by first | exact Nat.le_refl _ | (simp; done) | (simp; omega)) _ | refine Below.drew ?_ | refine bel_trans ?_ (by assumption)))⟩
    · go_enter Tryd.func19, Tryd.ntmps19
      go_wp2_with (go_at_call 24; refine (rgood_any _ _ _ _).mono ?_; rintro e w1 ⟨rfl, hb1⟩; have c0 := keep_cell hb1 (p := ⟨w.heap.size, 0, none⟩) (v := .int .i64 2) (by go_simp); have c1 := keep_cell hb1 (p := ⟨w.heap.size, 1, none⟩) (v := .int .i64 an) (by go_simp); have c2 := keep_cell hb1 (p := ⟨w.heap.size, 2, none⟩) (v := .int .i64 ab) (by go_simp))
      go_ret2
      exact ⟨by simp [trueF, hK], (by repeat (first | exact Below.refl _ _ | refine bel_alloc ?_ _ | refine bel_set ?_ (by first | exact Nat.le_refl _ | (simp; done) | (simp; omega)) _ | refine Below.drew ?_ | refine bel_trans ?_ (by assumption)))⟩
  · have hg2 : goodF ⟨ak, an, ab⟩ = false := by simpa using hg
    have hK : kindF ⟨ak, an, ab⟩ = 0 := by simp [kindF, hg2]
    go_enter Tryd.func19, Tryd.ntmps19
    go_wp2_with (go_at_call 24; refine (rgood_any _ _ _ _).mono ?_; rintro e w1 ⟨rfl, hb1⟩; have c0 := keep_cell hb1 (p := ⟨w.heap.size, 0, none⟩) (v := .int .i64 ak) (by go_simp); have c1 := keep_cell hb1 (p := ⟨w.heap.size, 1, none⟩) (v := .int .i64 an) (by go_simp); have c2 := keep_cell hb1 (p := ⟨w.heap.size, 2, none⟩) (v := .int .i64 ab) (by go_simp))
    go_ret2
    exact ⟨by simp [trueF, hK], (by repeat (first | exact Below.refl _ _ | refine bel_alloc ?_ _ | refine bel_set ?_ (by first | exact Nat.le_refl _ | (simp; done) | (simp; omega)) _ | refine Below.drew ?_ | refine bel_trans ?_ (by assumption)))⟩

def tabF : List Int := [21, 22, 23, 26, 24, 25]
set_option maxHeartbeats 1000000 in
theorem rflip_any (op : Int) (w : World) : Calls Tryd.prog 21 #[.int .i64 op] w (retP (.tuple #[.int .i64 (flipF op).1, .bool (flipF op).2]) w) := by
  go_enter Tryd.func21, Tryd.ntmps21
  go_wp2
  go_loop [5] (fun i => ∃ k : Nat, k ≤ 6 ∧ i = .int .i64 k ∧ ∀ j, j < k → ¬ op = tabF.getD j 0) (fun i => 6 - (intOf i).toNat)
  case atStart => exact ⟨0, Nat.zero_le _, rfl, fun j h => absurd h (Nat.not_lt_zero j)⟩
  case round =>
    obtain ⟨k, hk, rfl, hno⟩ := hrel
    have HN : Hid (∀ j, j < k → ¬ op = tabF.getD j 0) := hno
    clear hno
    match k, hk, HN with
    | 0, _, HN =>
      by_cases ho : op = 21
      · subst ho
        have xr : bits .xor .i64 0 1 = 1 := by decide
        go_wp2
        go_ret2
        exact ⟨by simp [flipF], (by repeat (first | exact Below.refl _ _ | refine bel_alloc ?_ _ | refine bel_set ?_ (by first | exact Nat.le_refl _ | (simp; done) | (simp; omega)) _ | refine Below.drew ?_ | refine bel_trans ?_ (by assumption)))⟩
      · have ho2 : (21 == op) = false := by simp; omega
        go_wp2
        go_round
        case rel => exact ⟨1, by omega, rfl, fun j hj => (Nat.lt_or_ge j 0).elim (fun h => HN.out j h) (fun h => (show j = 0 by omega) ▸ ho)⟩
        case measure => simp [intOf]
    | 1, _, HN =>
      by_cases ho : op = 22
      · subst ho
        have xr : bits .xor .i64 1 1 = 0 := by decide
        go_wp2
        go_ret2
        exact ⟨by simp [flipF], (by repeat (first | exact Below.refl _ _ | refine bel_alloc ?_ _ | refine bel_set ?_ (by first | exact Nat.le_refl _ | (simp; done) | (simp; omega)) _ | refine Below.drew ?_ | refine bel_trans ?_ (by assumption)))⟩
      · have ho2 : (22 == op) = false := by simp; omega
        go_wp2
        go_round
        case rel => exact ⟨2, by omega, rfl, fun j hj => (Nat.lt_or_ge j 1).elim (fun h => HN.out j h) (fun h => (show j = 1 by omega) ▸ ho)⟩
        case measure => simp [intOf]
    | 2, _, HN =>
      by_cases ho : op = 23
      · subst ho
        have xr : bits .xor .i64 2 1 = 3 := by decide
        go_wp2
        go_ret2
        exact ⟨by simp [flipF], (by repeat (first | exact Below.refl _ _ | refine bel_alloc ?_ _ | refine bel_set ?_ (by first | exact Nat.le_refl _ | (simp; done) | (simp; omega)) _ | refine Below.drew ?_ | refine bel_trans ?_ (by assumption)))⟩
      · have ho2 : (23 == op) = false := by simp; omega
        go_wp2
        go_round
        case rel => exact ⟨3, by omega, rfl, fun j hj => (Nat.lt_or_ge j 2).elim (fun h => HN.out j h) (fun h => (show j = 2 by omega) ▸ ho)⟩
        case measure => simp [intOf]
    | 3, _, HN =>
      by_cases ho : op = 26
      · subst ho
        have xr : bits .xor .i64 3 1 = 2 := by decide
        go_wp2
        go_ret2
        exact ⟨by simp [flipF], (by repeat (first | exact Below.refl _ _ | refine bel_alloc ?_ _ | refine bel_set ?_ (by first | exact Nat.le_refl _ | (simp; done) | (simp; omega)) _ | refine Below.drew ?_ | refine bel_trans ?_ (by assumption)))⟩
      · have ho2 : (26 == op) = false := by simp; omega
        go_wp2
        go_round
        case rel => exact ⟨4, by omega, rfl, fun j hj => (Nat.lt_or_ge j 3).elim (fun h => HN.out j h) (fun h => (show j = 3 by omega) ▸ ho)⟩
        case measure => simp [intOf]
    | 4, _, HN =>
      by_cases ho : op = 24
      · subst ho
        have xr : bits .xor .i64 4 1 = 5 := by decide
        go_wp2
        go_ret2
        exact ⟨by simp [flipF], (by repeat (first | exact Below.refl _ _ | refine bel_alloc ?_ _ | refine bel_set ?_ (by first | exact Nat.le_refl _ | (simp; done) | (simp; omega)) _ | refine Below.drew ?_ | refine bel_trans ?_ (by assumption)))⟩
      · have ho2 : (24 == op) = false := by simp; omega
        go_wp2
        go_round
        case rel => exact ⟨5, by omega, rfl, fun j hj => (Nat.lt_or_ge j 4).elim (fun h => HN.out j h) (fun h => (show j = 4 by omega) ▸ ho)⟩
        case measure => simp [intOf]
    | 5, _, HN =>
      by_cases ho : op = 25
      · subst ho
        have xr : bits .xor .i64 5 1 = 4 := by decide
        go_wp2
        go_ret2
        exact ⟨by simp [flipF], (by repeat (first | exact Below.refl _ _ | refine bel_alloc ?_ _ | refine bel_set ?_ (by first | exact Nat.le_refl _ | (simp; done) | (simp; omega)) _ | refine Below.drew ?_ | refine bel_trans ?_ (by assumption)))⟩
      · have ho2 : (25 == op) = false := by simp; omega
        go_wp2
        go_round
        case rel => exact ⟨6, by omega, rfl, fun j hj => (Nat.lt_or_ge j 5).elim (fun h => HN.out j h) (fun h => (show j = 5 by omega) ▸ ho)⟩
        case measure => simp [intOf]
    | 6, _, HN =>
      have e : flipF op = (0, false) := by
        have h0 := HN.out 0 (by decide); have h1 := HN.out 1 (by decide); have h2 := HN.out 2 (by decide); have h3 := HN.out 3 (by decide); have h4 := HN.out 4 (by decide); have h5 := HN.out 5 (by decide)
        simp [tabF] at h0 h1 h2 h3 h4 h5
        simp [flipF, h0, h1, h2, h3, h4, h5]
      go_wp2
      go_ret2
      exact ⟨by simp [e], (by repeat (first | exact Below.refl _ _ | refine bel_alloc ?_ _ | refine bel_set ?_ (by first | exact Nat.le_refl _ | (simp; done) | (simp; omega)) _ | refine Below.drew ?_ | refine bel_trans ?_ (by assumption)))⟩


set_option maxHeartbeats 2000000 in
theorem rtext_any (ak an ab : Int) (w : World) (hn0 : -9223372036854775808 ≤ an) (hn1 : an ≤ 9223372036854775807) (hb0 : -9223372036854775808 ≤ ab) (hb1' : ab ≤ 9223372036854775807) :
    Calls Tryd.prog 25 #[.agg #[.int .i64 ak, .int .i64 an, .int .i64 ab]] w (retP (.string ⟨(textF ⟨ak, an, ab⟩).toArray⟩) w) := by
  by_cases hg : goodF ⟨ak, an, ab⟩ = true
  · have hK : kindF ⟨ak, an, ab⟩ = ak := by simp [kindF, hg]
    have hc : ak = 0 ∨ ak = 1 ∨ ak = 2 := by
      unfold goodF at hg
      by_cases h0 : ak = 0
      · exact .inl h0
      by_cases h1 : ak = 1
      · exact .inr (.inl h1)
      by_cases h2 : ak = 2
      · exact .inr (.inr h2)
      · simp [h0, h1, h2] at hg
    rcases hc with rfl | rfl | rfl
    · have e : textF ⟨0, an, ab⟩ = [117, 110, 100, 101, 102] := by simp [textF, hK]
      rw [e]; clear e
      go_enter Tryd.func25, Tryd.ntmps25
      go_wp2_with (go_at_call 24; refine (rgood_any _ _ _ _).mono ?_; rintro e w1 ⟨rfl, hb1⟩; have c0 := keep_cell hb1 (p := ⟨w.heap.size, 0, none⟩) (v := .int .i64 0) (by go_simp); have c1 := keep_cell hb1 (p := ⟨w.heap.size, 1, none⟩) (v := .int .i64 an) (by go_simp); have c2 := keep_cell hb1 (p := ⟨w.heap.size, 2, none⟩) (v := .int .i64 ab) (by go_simp))
      go_ret
      exact ⟨rfl, (by repeat (first | exact Below.refl _ _ | refine bel_alloc ?_ _ | refine bel_set ?_ (by first | exact Nat.le_refl _ | (simp; done) | (simp; omega)) _ | refine Below.drew ?_ | refine bel_trans ?_ (by assumption)))⟩
    · have e : textF ⟨1, an, ab⟩ = Lib.itoa an := by simp [textF, hK]
      rw [e]; clear e
      go_enter Tryd.func25, Tryd.ntmps25
      go_wp2_with (first | (go_at_call 24; refine (rgood_any _ _ _ _).mono ?_; rintro e w1 ⟨rfl, hb1⟩; have c0 := keep_cell hb1 (p := ⟨w.heap.size, 0, none⟩) (v := .int .i64 1) (by go_simp); have c1 := keep_cell hb1 (p := ⟨w.heap.size, 1, none⟩) (v := .int .i64 an) (by go_simp); have c2 := keep_cell hb1 (p := ⟨w.heap.size, 2, none⟩) (v := .int .i64 ab) (by go_simp)) | (go_at_call 37; refine (num_any _ _ hn0 hn1).mono ?_; rintro e w2 ⟨rfl, hb2⟩))
      go_ret
      exact ⟨rfl, (by repeat (first | exact Below.refl _ _ | refine bel_alloc ?_ _ | refine bel_set ?_ (by first | exact Nat.le_refl _ | (simp; done) | (simp; omega)) _ | refine Below.drew ?_ | refine bel_trans ?_ (by assumption)))⟩
    · have e : textF ⟨2, an, ab⟩ = 38 :: (Lib.itoa ab ++ (43 :: Lib.itoa an)) := by simp [textF, hK]
      rw [e]; clear e
      obtain ⟨s, hs⟩ : ∃ s : ByteArray, s = ⟨(Lib.itoa ab).toArray⟩ := ⟨_, rfl⟩
      obtain ⟨t, ht'⟩ : ∃ t : ByteArray, t = ⟨(Lib.itoa an).toArray⟩ := ⟨_, rfl⟩
      have ls : s.size ≤ 21 := by rw [hs]; exact Lib.itoa_length_le ab hb0 hb1'
      have lt : t.size ≤ 21 := by rw [ht']; exact Lib.itoa_length_le an hn0 hn1
      have q1 : ¬ 9223372036854775807 < 1 + s.size := by omega
      have q2 : ¬ 9223372036854775807 < 1 + s.size + 1 := by omega
      have q3 : ¬ 9223372036854775807 < 1 + s.size + 1 + t.size := by omega
      have HS : Hid (s = ⟨(Lib.itoa ab).toArray⟩) := hs
      have HT : Hid (t = ⟨(Lib.itoa an).toArray⟩) := ht'
      have hfin : (⟨(38 :: (Lib.itoa ab ++ (43 :: Lib.itoa an))).toArray⟩ : ByteArray) = (⟨#[38]⟩ ++ s ++ ⟨#[43]⟩ ++ t) := by
        rw [hs, ht']; apply ByteArray.ext; simp
      rw [hfin]; clear hfin hs ht' ls lt hK
      have HI : ∀ w, Calls Tryd.prog 37 #[.int .i64 ab] w (retP (.string s) w) := fun w => num_as ab w s HS hb0 hb1'
      have HJ : ∀ w, Calls Tryd.prog 37 #[.int .i64 an] w (retP (.string t) w) := fun w => num_as an w t HT hn0 hn1
      have HIh : Hid (∀ w, Calls Tryd.prog 37 #[.int .i64 ab] w (retP (.string s) w)) := HI
      have HJh : Hid (∀ w, Calls Tryd.prog 37 #[.int .i64 an] w (retP (.string t) w)) := HJ
      clear HI HJ
      go_enter Tryd.func25, Tryd.ntmps25
      go_wp2_with (go_at_call 24; refine (rgood_any _ _ _ _).mono ?_; rintro e w1 ⟨rfl, hb1⟩; have c0 := keep_cell hb1 (p := ⟨w.heap.size, 0, none⟩) (v := .int .i64 2) (by go_simp); have c1 := keep_cell hb1 (p := ⟨w.heap.size, 1, none⟩) (v := .int .i64 an) (by go_simp); have c2 := keep_cell hb1 (p := ⟨w.heap.size, 2, none⟩) (v := .int .i64 ab) (by go_simp))
      go_region_held3 (fun w' => w'.cell? ⟨w.heap.size, 0, none⟩ = some (.int .i64 2) ∧ w'.cell? ⟨w.heap.size, 1, none⟩ = some (.int .i64 an) ∧ w'.cell? ⟨w.heap.size, 2, none⟩ = some (.int .i64 ab) ∧ Below w.heap.size w w')
        (refine ⟨?_, ?_, ?_, ?_⟩ <;> first | assumption | exact keep_cell hb2 (by go_simp) | (go_simp; done) | exact (by repeat (first | exact Below.refl _ _ | refine bel_alloc ?_ _ | refine bel_set ?_ (by first | exact Nat.le_refl _ | (simp; done) | (simp; omega)) _ | refine Below.drew ?_ | refine bel_trans ?_ (by assumption))))
        (first | (go_at_call_of 37 (ab); refine (HIh.out _).mono ?_; rintro e w2 ⟨rfl, hb2⟩) | (go_at_call_of 37 (an); refine (HJh.out _).mono ?_; rintro e w2 ⟨rfl, hb2⟩))
      rename_i hH
      obtain ⟨_, _, _, hw⟩ := hH
      go_wp2
      go_ret
      exact ⟨rfl, (by repeat (first | exact Below.refl _ _ | refine bel_alloc ?_ _ | refine bel_set ?_ (by first | exact Nat.le_refl _ | (simp; done) | (simp; omega)) _ | refine Below.drew ?_ | refine bel_trans ?_ (by assumption)))⟩
  · have hg2 : goodF ⟨ak, an, ab⟩ = false := by simpa using hg
    have e : textF ⟨ak, an, ab⟩ = [117, 110, 100, 101, 102] := by simp [textF, kindF, hg2]
    rw [e]; clear e
    go_enter Tryd.func25, Tryd.ntmps25
    go_wp2_with (go_at_call 24; refine (rgood_any _ _ _ _).mono ?_; rintro e w1 ⟨rfl, hb1⟩; have c0 := keep_cell hb1 (p := ⟨w.heap.size, 0, none⟩) (v := .int .i64 ak) (by go_simp); have c1 := keep_cell hb1 (p := ⟨w.heap.size, 1, none⟩) (v := .int .i64 an) (by go_simp); have c2 := keep_cell hb1 (p := ⟨w.heap.size, 2, none⟩) (v := .int .i64 ab) (by go_simp))
    go_ret
    exact ⟨rfl, (by repeat (first | exact Below.refl _ _ | refine bel_alloc ?_ _ | refine bel_set ?_ (by first | exact Nat.le_refl _ | (simp; done) | (simp; omega)) _ | refine Below.drew ?_ | refine bel_trans ?_ (by assumption)))⟩

end Go.Proofs.YtfkalcfkbaimgaaDoor
