/- The document's own lexer: number, in base ten. -/
import Derived.Test.YtkbihcicnffjdaaDoorLRef3
namespace Go.Proofs.YtkbihcicnffjdaaDoor
open Go.ChangeShapes Go.WideShapes Go.ChangeAt Go.RowKit
set_option linter.unusedSimpArgs false
set_option linter.unusedVariables false

theorem first_list (s : ByteArray) (h : 0 < s.size) : ∃ b l, s.data.toList = b :: l ∧ byteAt s 0 = (b.toNat : Int) := by
  cases hl : s.data.toList with
  | nil => have h5 : s.size = 0 := (by rw [← size_list, hl]; rfl); omega
  | cons b l => exact ⟨b, l, rfl, by unfold byteAt; rw [hl]; rfl⟩
/-- It is written in base ten. -/
def isDec (s : ByteArray) : Prop := 0 < s.size ∧ digitB (byteAt s 0) = true
theorem dec_hex (s : ByteArray) (h : isHexW s = true) (hl : ¬ 2 < s.size) : dec10 0 s.data.toList = none ∧ (numW s).2 = false := by
  have hb := (isHex_iff s).1 h
  constructor
  · obtain ⟨b, hb1, hb2⟩ := byte_at s 1 (by omega)
    have hs := split_at _ _ _ hb2
    rw [hs, dec10_app]
    cases dec10 0 (s.data.toList.take 1) with
    | none => rfl
    | some n =>
      show dec10 n (b :: _) = none
      rw [dec10, if_neg]
      rw [← hb1, hb.2.2]
      decide
  · rw [numW_hex s h, if_neg (by omega)]
    have e : s.data.toList.drop 2 = [] := List.drop_of_length_le (by rw [size_list]; omega)
    rw [e]
    rfl
theorem numW_dec (s : ByteArray) (h : ¬ isHexW s = true) : numW s = if 19 < s.size ∨ (byteAt s 0 = 48 ∧ 1 < s.size) then (noWW, false) else numOr s (num10 s.data.toList) := by
  unfold numW
  rw [if_neg h]
theorem dec_bad (s : ByteArray) (hd : isDec s) (hx : ¬ (isHexW s = true ∧ 2 < s.size)) (hp : dec10 0 s.data.toList = none) : (numW s).2 = false := by
  by_cases h : isHexW s = true
  · exact (dec_hex s h (fun h2 => hx ⟨h, h2⟩)).2
  · rw [numW_dec s h]
    split
    · rfl
    · rename_i hc
      obtain ⟨b, l, hl, hb⟩ := first_list s hd.1
      rw [hl] at hp ⊢
      have hlen : (b :: l).length ≤ 19 := by rw [← hl, size_list]; omega
      rw [num10_is b l (by rw [← hb]; exact hd.2) hlen, hp]
      rfl
theorem dec_good (s : ByteArray) (hd : isDec s) (hx : ¬ (isHexW s = true ∧ 2 < s.size)) (n : Nat) (hp : dec10 0 s.data.toList = some n) :
    (numW s).2 = (decide (s.size ≤ 19) && ((!(byteAt s 0 == 48) || decide (s.size = 1)) && decide (n < 9223372036854775808))) ∧ ((numW s).2 = true → (numW s).1.n = (n : Int)) := by
  have hpos := hd.1
  by_cases h : isHexW s = true
  · rw [(dec_hex s h (fun h2 => hx ⟨h, h2⟩)).1] at hp; cases hp
  · rw [numW_dec s h]
    by_cases hc : 19 < s.size ∨ (byteAt s 0 = 48 ∧ 1 < s.size)
    · rw [if_pos hc]
      refine ⟨?_, fun h => by cases h⟩
      rcases hc with hc | ⟨h1, h2⟩
      · rw [show decide (s.size ≤ 19) = false by simp; omega]
        rfl
      · rw [h1, show decide (s.size = 1) = false by simp; omega]
        simp [noWW]
    · rw [if_neg hc]
      obtain ⟨b, l, hl, hb⟩ := first_list s hpos
      rw [hl] at hp ⊢
      have hlen : (b :: l).length ≤ 19 := by rw [← hl, size_list]; omega
      rw [num10_is b l (by rw [← hb]; exact hd.2) hlen, hp]
      have e1 : decide (s.size ≤ 19) = true := by simp; omega
      have e2 : (!(byteAt s 0 == 48) || decide (s.size = 1)) = true := by
        by_cases h48 : byteAt s 0 = 48
        · rw [h48]; simp; omega
        · simp [h48]
      rw [e1, e2]
      dsimp only
      by_cases hn : n < 9223372036854775808
      · rw [if_pos hn, decide_eq_true hn]; exact ⟨rfl, fun _ => rfl⟩
      · rw [if_neg hn, decide_eq_false hn]; exact ⟨rfl, fun h => by cases h⟩
set_option maxHeartbeats 8000000 in
set_option maxRecDepth 100000 in
theorem rnum_dec1 (s : ByteArray) (w : World) (hs : s.size ≤ 65536) (hd : isDec s) (h2 : ¬ 2 < s.size) : Calls Tryd.prog 17 #[.string s] w (numEnd s w) := by
  have HX : Hid (isDec s ∧ ¬ (isHexW s = true ∧ 2 < s.size)) := ⟨hd, fun h => h2 h.2⟩
  have ixz : ∀ W, (Instr.index 9 (.string s) (.int .i64 (0 : Int))).run Tryd.prog W = .ok (.int .u8 (byteAt s 0)) W := fun W => index_byte s 0 hd.1 W
  have l0 : (0 : Int) < (s.size : Int) := by have := hd.1; omega
  have l9 : (s.size : Int) ≤ 65536 := by omega
  have g0 : ¬ (2 : Int) < (s.size : Int) := by omega
  clear h2
  clear hs hd
  go_enter Tryd.func17, Tryd.ntmps17
  go_wp2
  go_loopw [4, 6] (fun vx vi wr => ∃ (i n : Nat) (x : Int), i ≤ s.size ∧ vi = .int .i64 (i : Int) ∧ vx = .int .u64 x ∧ Hid (dec10 0 (s.data.toList.take i) = some n ∧ (s.size ≤ 19 → x = (n : Int))) ∧ wr = w) (fun _ vi _ => s.size - (intOf vi).toNat)
  case atStart => exact ⟨0, 0, 0, by omega, rfl, rfl, ⟨rfl, fun _ => rfl⟩, rfl⟩
  case round =>
    obtain ⟨i, n, x, hi, rfl, rfl, HI, rfl⟩ := hrel
    have i0 : (0 : Int) ≤ (i : Int) := by omega
    by_cases his : i < s.size
    · have i1 : (i : Int) < (s.size : Int) := by omega
      obtain ⟨b, hb1, hb2⟩ := byte_at s i his
      have ix := index_byte s i his
      rw [hb1] at ix
      have hbl : b.toNat < 256 := b.toNat_lt
      have HD : Hid (s.data.toList = s.data.toList.take i ++ b :: s.data.toList.drop (i + 1)) := split_at _ _ _ hb2
      have HS : Hid (s.data.toList.take (i + 1) = s.data.toList.take i ++ [b]) := by
        show _ = _
        rw [List.take_add_one, hb2]
        rfl
      obtain ⟨c, hc⟩ : ∃ c : Int, (b.toNat : Int) = c := ⟨_, rfl⟩
      have HF : Hid (∀ W, Calls Tryd.prog 16 #[.int .u8 c] W fun e w' => e = .returned (.bool (digitB c)) ∧ w' = W) := fun W => rdigit_any c W
      cases hd : digitB c with
      | false =>
        rw [hd] at HF
        rw [hc] at ix
        have HB : Hid ((numW s).2 = false) := dec_bad s HX.out.1 HX.out.2 (by rw [HD.out, dec10_app, HI.out.1]; show dec10 n (b :: _) = none; rw [dec10, hc, hd, if_neg (by simp)])
        clear hd hb1 hb2 hc
        go_wp2_with (go_at_call 16; refine (HF.out _).mono ?_; rintro e w' ⟨rfl, hw'⟩; replace hw' := hw'.symm; subst hw')
        go_ret2
        exact ⟨⟨0, by rw [HB.out]; rfl, fun h => by rw [HB.out] at h; cases h⟩, rfl⟩
      | true =>
        rw [hd] at HF
        rw [hc] at ix
        have hcr : 48 ≤ c ∧ c ≤ 57 := by unfold digitB at hd; simpa using hd
        have HN : Hid (dec10 0 (s.data.toList.take (i + 1)) = some (n * 10 + (b.toNat - 48))) := by
          show _ = _
          rw [HS.out, dec10_snoc, HI.out.1]
          show (if digitB (b.toNat : Int) = true then _ else _) = _
          rw [hc, if_pos hd]
        have HC : Hid ((b.toNat : Int) = c) := hc
        have wd : IntKind.u8.wrap (c - 48) = c - 48 := by rw [IntKind.wrap_u8]; omega
        have wd2 : IntKind.u64.wrap (c - 48) = c - 48 := by rw [IntKind.wrap_u64]; omega
        clear hd hb1 hb2 hc
        go_wp2_with (go_at_call 16; refine (HF.out _).mono ?_; rintro e w' ⟨rfl, hw'⟩; replace hw' := hw'.symm; subst hw')
        go_roundw
        case rel =>
          refine ⟨i + 1, n * 10 + (b.toNat - 48), _, by omega, by simp, rfl, ⟨HN.out, fun h18 => ?_⟩, by first | rfl | trivial⟩
          have hx : x = (n : Int) := HI.out.2 h18
          have hn := dec10_lt _ 0 n 0 (by decide) HI.out.1
          have hp : (10 : Nat) ^ (0 + (s.data.toList.take i).length) ≤ 10 ^ 18 := Nat.pow_le_pow_right (by omega) (by rw [List.length_take]; omega)
          have e18 : (10 : Nat) ^ 18 = 1000000000000000000 := by decide
          have hn2 : n < 1000000000000000000 := by omega
          have hc := HC.out
          rw [hx]
          simp only [IntKind.wrap_u64]
          omega
        case measure => simp [intOf]; omega
    · have hie : i = s.size := by omega
      have i1 : ¬ (i : Int) < (s.size : Int) := by omega
      have hp : dec10 0 s.data.toList = some n := by
        have := HI.out.1
        rw [List.take_of_length_le (by rw [size_list]; omega)] at this
        exact this
      have HG : Hid ((numW s).2 = (decide (s.size ≤ 19) && ((!(byteAt s 0 == 48) || decide (s.size = 1)) && decide (n < 9223372036854775808))) ∧ ((numW s).2 = true → (numW s).1.n = (n : Int))) := dec_good s HX.out.1 HX.out.2 n hp
      obtain ⟨c0, hc0⟩ : ∃ c0, byteAt s 0 = c0 := ⟨_, rfl⟩
      rw [hc0] at HG ixz
      clear hc0
      by_cases h18 : s.size ≤ 19
      · have hx : x = (n : Int) := HI.out.2 h18
        subst hx
        have g1 : decide ((s.size : Int) ≤ 19) = true := by simp; omega
        have e9 : decide (n < 9223372036854775808) = decide ((n : Int) < 9223372036854775808) := by rw [decide_eq_decide]; omega
        have HV : Hid ((numW s).2 = true → wrap64 (n : Int) = (numW s).1.n) := fun h => by
          rw [HG.out.2 h]
          have hn := HG.out.1
          rw [h, decide_eq_true h18] at hn
          have hn2 : n < 9223372036854775808 := by simp at hn; omega
          unfold wrap64
          omega
        have HR := HG.out.1
        rw [decide_eq_true h18, Bool.true_and, e9] at HR
        have HR' : Hid ((numW s).2 = ((!(c0 == 48) || decide (s.size = 1)) && decide ((n : Int) < 9223372036854775808))) := HR
        clear HR e9
        by_cases hz : c0 = 48
        · subst hz
          by_cases h1 : s.size = 1
          · have g2 : ((s.size : Int) == 1) = true := by simp; omega
            go_wp2
            go_ret2
            exact ⟨⟨wrap64 (n : Int), by rw [HR'.out, decide_eq_true h1]; simp, HV.out⟩, rfl⟩
          · have g2 : ((s.size : Int) == 1) = false := by simp; omega
            go_wp2
            go_ret2
            exact ⟨⟨wrap64 (n : Int), by rw [HR'.out, decide_eq_false h1]; simp, HV.out⟩, rfl⟩
        · have g3 : (c0 == 48) = false := by simpa using hz
          go_wp2
          go_ret2
          exact ⟨⟨wrap64 (n : Int), by rw [HR'.out, g3]; simp, HV.out⟩, rfl⟩
      · have g1 : decide ((s.size : Int) ≤ 19) = false := by simp; omega
        go_wp2
        go_ret2
        refine ⟨⟨_, by rw [HG.out.1, decide_eq_false h18]; rfl, fun h => ?_⟩, rfl⟩
        have hn := HG.out.1
        rw [h, decide_eq_false h18] at hn
        cases hn
set_option maxHeartbeats 8000000 in
set_option maxRecDepth 100000 in
theorem rnum_dec2 (s : ByteArray) (w : World) (hs : s.size ≤ 65536) (hd : isDec s) (h2 : 2 < s.size) (h48 : ¬ byteAt s 0 = 48) : Calls Tryd.prog 17 #[.string s] w (numEnd s w) := by
  have HX : Hid (isDec s ∧ ¬ (isHexW s = true ∧ 2 < s.size)) := ⟨hd, fun h => h48 ((isHex_iff s).1 h.1).2.1⟩
  have ixz : ∀ W, (Instr.index 9 (.string s) (.int .i64 (0 : Int))).run Tryd.prog W = .ok (.int .u8 (byteAt s 0)) W := fun W => index_byte s 0 hd.1 W
  have l0 : (0 : Int) < (s.size : Int) := by have := hd.1; omega
  have l9 : (s.size : Int) ≤ 65536 := by omega
  have g0 : (2 : Int) < (s.size : Int) := by omega
  have g1 : (byteAt s 0 == 48) = false := by simpa using h48
  clear h2 h48
  clear hs hd
  go_enter Tryd.func17, Tryd.ntmps17
  go_wp2
  go_loopw [4, 6] (fun vx vi wr => ∃ (i n : Nat) (x : Int), i ≤ s.size ∧ vi = .int .i64 (i : Int) ∧ vx = .int .u64 x ∧ Hid (dec10 0 (s.data.toList.take i) = some n ∧ (s.size ≤ 19 → x = (n : Int))) ∧ wr = w) (fun _ vi _ => s.size - (intOf vi).toNat)
  case atStart => exact ⟨0, 0, 0, by omega, rfl, rfl, ⟨rfl, fun _ => rfl⟩, rfl⟩
  case round =>
    obtain ⟨i, n, x, hi, rfl, rfl, HI, rfl⟩ := hrel
    have i0 : (0 : Int) ≤ (i : Int) := by omega
    by_cases his : i < s.size
    · have i1 : (i : Int) < (s.size : Int) := by omega
      obtain ⟨b, hb1, hb2⟩ := byte_at s i his
      have ix := index_byte s i his
      rw [hb1] at ix
      have hbl : b.toNat < 256 := b.toNat_lt
      have HD : Hid (s.data.toList = s.data.toList.take i ++ b :: s.data.toList.drop (i + 1)) := split_at _ _ _ hb2
      have HS : Hid (s.data.toList.take (i + 1) = s.data.toList.take i ++ [b]) := by
        show _ = _
        rw [List.take_add_one, hb2]
        rfl
      obtain ⟨c, hc⟩ : ∃ c : Int, (b.toNat : Int) = c := ⟨_, rfl⟩
      have HF : Hid (∀ W, Calls Tryd.prog 16 #[.int .u8 c] W fun e w' => e = .returned (.bool (digitB c)) ∧ w' = W) := fun W => rdigit_any c W
      cases hd : digitB c with
      | false =>
        rw [hd] at HF
        rw [hc] at ix
        have HB : Hid ((numW s).2 = false) := dec_bad s HX.out.1 HX.out.2 (by rw [HD.out, dec10_app, HI.out.1]; show dec10 n (b :: _) = none; rw [dec10, hc, hd, if_neg (by simp)])
        clear hd hb1 hb2 hc
        go_wp2_with (go_at_call 16; refine (HF.out _).mono ?_; rintro e w' ⟨rfl, hw'⟩; replace hw' := hw'.symm; subst hw')
        go_ret2
        exact ⟨⟨0, by rw [HB.out]; rfl, fun h => by rw [HB.out] at h; cases h⟩, rfl⟩
      | true =>
        rw [hd] at HF
        rw [hc] at ix
        have hcr : 48 ≤ c ∧ c ≤ 57 := by unfold digitB at hd; simpa using hd
        have HN : Hid (dec10 0 (s.data.toList.take (i + 1)) = some (n * 10 + (b.toNat - 48))) := by
          show _ = _
          rw [HS.out, dec10_snoc, HI.out.1]
          show (if digitB (b.toNat : Int) = true then _ else _) = _
          rw [hc, if_pos hd]
        have HC : Hid ((b.toNat : Int) = c) := hc
        have wd : IntKind.u8.wrap (c - 48) = c - 48 := by rw [IntKind.wrap_u8]; omega
        have wd2 : IntKind.u64.wrap (c - 48) = c - 48 := by rw [IntKind.wrap_u64]; omega
        clear hd hb1 hb2 hc
        go_wp2_with (go_at_call 16; refine (HF.out _).mono ?_; rintro e w' ⟨rfl, hw'⟩; replace hw' := hw'.symm; subst hw')
        go_roundw
        case rel =>
          refine ⟨i + 1, n * 10 + (b.toNat - 48), _, by omega, by simp, rfl, ⟨HN.out, fun h18 => ?_⟩, by first | rfl | trivial⟩
          have hx : x = (n : Int) := HI.out.2 h18
          have hn := dec10_lt _ 0 n 0 (by decide) HI.out.1
          have hp : (10 : Nat) ^ (0 + (s.data.toList.take i).length) ≤ 10 ^ 18 := Nat.pow_le_pow_right (by omega) (by rw [List.length_take]; omega)
          have e18 : (10 : Nat) ^ 18 = 1000000000000000000 := by decide
          have hn2 : n < 1000000000000000000 := by omega
          have hc := HC.out
          rw [hx]
          simp only [IntKind.wrap_u64]
          omega
        case measure => simp [intOf]; omega
    · have hie : i = s.size := by omega
      have i1 : ¬ (i : Int) < (s.size : Int) := by omega
      have hp : dec10 0 s.data.toList = some n := by
        have := HI.out.1
        rw [List.take_of_length_le (by rw [size_list]; omega)] at this
        exact this
      have HG : Hid ((numW s).2 = (decide (s.size ≤ 19) && ((!(byteAt s 0 == 48) || decide (s.size = 1)) && decide (n < 9223372036854775808))) ∧ ((numW s).2 = true → (numW s).1.n = (n : Int))) := dec_good s HX.out.1 HX.out.2 n hp
      obtain ⟨c0, hc0⟩ : ∃ c0, byteAt s 0 = c0 := ⟨_, rfl⟩
      rw [hc0] at HG ixz
      clear hc0
      by_cases h18 : s.size ≤ 19
      · have hx : x = (n : Int) := HI.out.2 h18
        subst hx
        have g1 : decide ((s.size : Int) ≤ 19) = true := by simp; omega
        have e9 : decide (n < 9223372036854775808) = decide ((n : Int) < 9223372036854775808) := by rw [decide_eq_decide]; omega
        have HV : Hid ((numW s).2 = true → wrap64 (n : Int) = (numW s).1.n) := fun h => by
          rw [HG.out.2 h]
          have hn := HG.out.1
          rw [h, decide_eq_true h18] at hn
          have hn2 : n < 9223372036854775808 := by simp at hn; omega
          unfold wrap64
          omega
        have HR := HG.out.1
        rw [decide_eq_true h18, Bool.true_and, e9] at HR
        have HR' : Hid ((numW s).2 = ((!(c0 == 48) || decide (s.size = 1)) && decide ((n : Int) < 9223372036854775808))) := HR
        clear HR e9
        by_cases hz : c0 = 48
        · subst hz
          by_cases h1 : s.size = 1
          · exfalso
            omega
          · have g2 : ((s.size : Int) == 1) = false := by simp; omega
            go_wp2
            go_ret2
            exact ⟨⟨wrap64 (n : Int), by rw [HR'.out, decide_eq_false h1]; simp, HV.out⟩, rfl⟩
        · have g3 : (c0 == 48) = false := by simpa using hz
          go_wp2
          go_ret2
          exact ⟨⟨wrap64 (n : Int), by rw [HR'.out, g3]; simp, HV.out⟩, rfl⟩
      · have g1 : decide ((s.size : Int) ≤ 19) = false := by simp; omega
        go_wp2
        go_ret2
        refine ⟨⟨_, by rw [HG.out.1, decide_eq_false h18]; rfl, fun h => ?_⟩, rfl⟩
        have hn := HG.out.1
        rw [h, decide_eq_false h18] at hn
        cases hn
set_option maxHeartbeats 8000000 in
set_option maxRecDepth 100000 in
theorem rnum_dec3 (s : ByteArray) (w : World) (hs : s.size ≤ 65536) (hd : isDec s) (h2 : 2 < s.size) (h48 : byteAt s 0 = 48) (h120 : ¬ byteAt s 1 = 120) : Calls Tryd.prog 17 #[.string s] w (numEnd s w) := by
  have HX : Hid (isDec s ∧ ¬ (isHexW s = true ∧ 2 < s.size)) := ⟨hd, fun h => h120 ((isHex_iff s).1 h.1).2.2⟩
  have ixz : ∀ W, (Instr.index 9 (.string s) (.int .i64 (0 : Int))).run Tryd.prog W = .ok (.int .u8 (byteAt s 0)) W := fun W => index_byte s 0 hd.1 W
  have l0 : (0 : Int) < (s.size : Int) := by have := hd.1; omega
  have l9 : (s.size : Int) ≤ 65536 := by omega
  have g0 : (2 : Int) < (s.size : Int) := by omega
  have g1 : (byteAt s 0 == 48) = true := by simpa using h48
  have ix1 : ∀ W, (Instr.index 9 (.string s) (.int .i64 (1 : Int))).run Tryd.prog W = .ok (.int .u8 (byteAt s 1)) W := fun W => index_byte s 1 (by omega) W
  have g2 : (byteAt s 1 == 120) = false := by simpa using h120
  clear h2 h48 h120
  clear hs hd
  go_enter Tryd.func17, Tryd.ntmps17
  go_wp2
  go_loopw [4, 6] (fun vx vi wr => ∃ (i n : Nat) (x : Int), i ≤ s.size ∧ vi = .int .i64 (i : Int) ∧ vx = .int .u64 x ∧ Hid (dec10 0 (s.data.toList.take i) = some n ∧ (s.size ≤ 19 → x = (n : Int))) ∧ wr = w) (fun _ vi _ => s.size - (intOf vi).toNat)
  case atStart => exact ⟨0, 0, 0, by omega, rfl, rfl, ⟨rfl, fun _ => rfl⟩, rfl⟩
  case round =>
    obtain ⟨i, n, x, hi, rfl, rfl, HI, rfl⟩ := hrel
    have i0 : (0 : Int) ≤ (i : Int) := by omega
    by_cases his : i < s.size
    · have i1 : (i : Int) < (s.size : Int) := by omega
      obtain ⟨b, hb1, hb2⟩ := byte_at s i his
      have ix := index_byte s i his
      rw [hb1] at ix
      have hbl : b.toNat < 256 := b.toNat_lt
      have HD : Hid (s.data.toList = s.data.toList.take i ++ b :: s.data.toList.drop (i + 1)) := split_at _ _ _ hb2
      have HS : Hid (s.data.toList.take (i + 1) = s.data.toList.take i ++ [b]) := by
        show _ = _
        rw [List.take_add_one, hb2]
        rfl
      obtain ⟨c, hc⟩ : ∃ c : Int, (b.toNat : Int) = c := ⟨_, rfl⟩
      have HF : Hid (∀ W, Calls Tryd.prog 16 #[.int .u8 c] W fun e w' => e = .returned (.bool (digitB c)) ∧ w' = W) := fun W => rdigit_any c W
      cases hd : digitB c with
      | false =>
        rw [hd] at HF
        rw [hc] at ix
        have HB : Hid ((numW s).2 = false) := dec_bad s HX.out.1 HX.out.2 (by rw [HD.out, dec10_app, HI.out.1]; show dec10 n (b :: _) = none; rw [dec10, hc, hd, if_neg (by simp)])
        clear hd hb1 hb2 hc
        go_wp2_with (go_at_call 16; refine (HF.out _).mono ?_; rintro e w' ⟨rfl, hw'⟩; replace hw' := hw'.symm; subst hw')
        go_ret2
        exact ⟨⟨0, by rw [HB.out]; rfl, fun h => by rw [HB.out] at h; cases h⟩, rfl⟩
      | true =>
        rw [hd] at HF
        rw [hc] at ix
        have hcr : 48 ≤ c ∧ c ≤ 57 := by unfold digitB at hd; simpa using hd
        have HN : Hid (dec10 0 (s.data.toList.take (i + 1)) = some (n * 10 + (b.toNat - 48))) := by
          show _ = _
          rw [HS.out, dec10_snoc, HI.out.1]
          show (if digitB (b.toNat : Int) = true then _ else _) = _
          rw [hc, if_pos hd]
        have HC : Hid ((b.toNat : Int) = c) := hc
        have wd : IntKind.u8.wrap (c - 48) = c - 48 := by rw [IntKind.wrap_u8]; omega
        have wd2 : IntKind.u64.wrap (c - 48) = c - 48 := by rw [IntKind.wrap_u64]; omega
        clear hd hb1 hb2 hc
        go_wp2_with (go_at_call 16; refine (HF.out _).mono ?_; rintro e w' ⟨rfl, hw'⟩; replace hw' := hw'.symm; subst hw')
        go_roundw
        case rel =>
          refine ⟨i + 1, n * 10 + (b.toNat - 48), _, by omega, by simp, rfl, ⟨HN.out, fun h18 => ?_⟩, by first | rfl | trivial⟩
          have hx : x = (n : Int) := HI.out.2 h18
          have hn := dec10_lt _ 0 n 0 (by decide) HI.out.1
          have hp : (10 : Nat) ^ (0 + (s.data.toList.take i).length) ≤ 10 ^ 18 := Nat.pow_le_pow_right (by omega) (by rw [List.length_take]; omega)
          have e18 : (10 : Nat) ^ 18 = 1000000000000000000 := by decide
          have hn2 : n < 1000000000000000000 := by omega
          have hc := HC.out
          rw [hx]
          simp only [IntKind.wrap_u64]
          omega
        case measure => simp [intOf]; omega
    · have hie : i = s.size := by omega
      have i1 : ¬ (i : Int) < (s.size : Int) := by omega
      have hp : dec10 0 s.data.toList = some n := by
        have := HI.out.1
        rw [List.take_of_length_le (by rw [size_list]; omega)] at this
        exact this
      have HG : Hid ((numW s).2 = (decide (s.size ≤ 19) && ((!(byteAt s 0 == 48) || decide (s.size = 1)) && decide (n < 9223372036854775808))) ∧ ((numW s).2 = true → (numW s).1.n = (n : Int))) := dec_good s HX.out.1 HX.out.2 n hp
      obtain ⟨c0, hc0⟩ : ∃ c0, byteAt s 0 = c0 := ⟨_, rfl⟩
      rw [hc0] at HG ixz
      clear hc0
      by_cases h18 : s.size ≤ 19
      · have hx : x = (n : Int) := HI.out.2 h18
        subst hx
        have g1 : decide ((s.size : Int) ≤ 19) = true := by simp; omega
        have e9 : decide (n < 9223372036854775808) = decide ((n : Int) < 9223372036854775808) := by rw [decide_eq_decide]; omega
        have HV : Hid ((numW s).2 = true → wrap64 (n : Int) = (numW s).1.n) := fun h => by
          rw [HG.out.2 h]
          have hn := HG.out.1
          rw [h, decide_eq_true h18] at hn
          have hn2 : n < 9223372036854775808 := by simp at hn; omega
          unfold wrap64
          omega
        have HR := HG.out.1
        rw [decide_eq_true h18, Bool.true_and, e9] at HR
        have HR' : Hid ((numW s).2 = ((!(c0 == 48) || decide (s.size = 1)) && decide ((n : Int) < 9223372036854775808))) := HR
        clear HR e9
        by_cases hz : c0 = 48
        · subst hz
          by_cases h1 : s.size = 1
          · exfalso
            omega
          · have g2 : ((s.size : Int) == 1) = false := by simp; omega
            go_wp2
            go_ret2
            exact ⟨⟨wrap64 (n : Int), by rw [HR'.out, decide_eq_false h1]; simp, HV.out⟩, rfl⟩
        · have g3 : (c0 == 48) = false := by simpa using hz
          go_wp2
          go_ret2
          exact ⟨⟨wrap64 (n : Int), by rw [HR'.out, g3]; simp, HV.out⟩, rfl⟩
      · have g1 : decide ((s.size : Int) ≤ 19) = false := by simp; omega
        go_wp2
        go_ret2
        refine ⟨⟨_, by rw [HG.out.1, decide_eq_false h18]; rfl, fun h => ?_⟩, rfl⟩
        have hn := HG.out.1
        rw [h, decide_eq_false h18] at hn
        cases hn
theorem number_any (s : ByteArray) (w : World) (hs : s.size ≤ 65536) (hd : isDec s) : Calls Tryd.prog 17 #[.string s] w (numEnd s w) := by
  by_cases h2 : 2 < s.size
  · by_cases h48 : byteAt s 0 = 48
    · by_cases h120 : byteAt s 1 = 120
      · exact rnum_hex s w hs h2 ((isHex_iff s).2 ⟨by omega, h48, h120⟩)
      · exact rnum_dec3 s w hs hd h2 h48 h120
    · exact rnum_dec2 s w hs hd h2 h48
  · exact rnum_dec1 s w hs hd h2
end Go.Proofs.YtkbihcicnffjdaaDoor
