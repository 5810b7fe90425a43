/- The document's own lexer: contract of number. -/
import Derived.Test.YtkbihcicnffjdaaDoorLRef3m
namespace Go.Proofs.YtkbihcicnffjdaaDoor
open Go.ChangeShapes Go.WideShapes Go.ChangeAt Go.RowKit
set_option linter.unusedSimpArgs false
set_option linter.unusedVariables false

/-- number's answer. -/
def numEnd (s : ByteArray) (w : World) : Ending → World → Prop := fun e w' => (∃ v, e = .returned (.tuple #[.int .i64 v, .bool (numW s).2]) ∧ ((numW s).2 = true → v = (numW s).1.n)) ∧ w' = w
theorem numW_hex (s : ByteArray) (h : isHexW s = true) : numW s = if 18 < s.size then (noWW, false) else numOr s (num16 (s.data.toList.drop 2)) := by
  unfold numW
  rw [if_pos h, digitsOf_list s h]
  have e : (digitsOf s).size = s.size - 2 := by rw [← size_list, digitsOf_list s h, List.length_drop, size_list]
  have e2 : (16 < (digitsOf s).size) ↔ 18 < s.size := by rw [e]; omega
  simp only [e2]
theorem hex_bad (s : ByteArray) (h : isHexW s = true) (hp : parse16 0 (s.data.toList.drop 2) = none) : (numW s).2 = false := by
  rw [numW_hex s h]
  split
  · rfl
  · unfold num16
    rw [hp]
    split <;> rfl
theorem hex_good (s : ByteArray) (h : isHexW s = true) (hl : 2 < s.size) (n : Nat) (hp : parse16 0 (s.data.toList.drop 2) = some n) : (numW s).2 = (decide (s.size ≤ 18) && decide (n < 9223372036854775808)) ∧ ((numW s).2 = true → (numW s).1.n = (n : Int)) := by
  rw [numW_hex s h]
  by_cases hs : 18 < s.size
  · rw [if_pos hs]
    have : decide (s.size ≤ 18) = false := by simp; omega
    rw [this]
    exact ⟨rfl, fun h => by cases h⟩
  · rw [if_neg hs]
    have : decide (s.size ≤ 18) = true := by simp; omega
    rw [this]
    unfold num16
    rw [if_neg (fun h => by have := congrArg List.length h; rw [List.length_drop, size_list] at this; simp at this; omega), hp]
    by_cases hn : n < 9223372036854775808
    · dsimp only
      rw [if_pos hn, decide_eq_true hn]; exact ⟨rfl, fun _ => rfl⟩
    · dsimp only
      rw [if_neg hn, decide_eq_false hn]; exact ⟨rfl, fun h => by cases h⟩
theorem or16 (x d : Nat) (hx : x < 1152921504606846976) (hd : d < 16) : bits .or .u64 ((x * 16 : Nat) : Int) (d : Int) = ((x * 16 + d : Nat) : Int) := by
  have h := (bits_nat .u64 64 (Nat.le_refl _) (fun n h0 h1 => by rw [IntKind.wrap_u64]; omega) (x * 16) d (by omega) (by omega)).2
  rw [h]
  have e : x * 16 = x <<< 4 := by rw [Nat.shiftLeft_eq]
  rw [e, ← Nat.shiftLeft_add_eq_or_of_lt (show d < 2 ^ 4 by omega)]
theorem byte_at (s : ByteArray) (i : Nat) (hi : i < s.size) : ∃ b : UInt8, byteAt s i = (b.toNat : Int) ∧ s.data.toList[i]? = some b := by
  have h : i < s.data.toList.length := hi
  exact ⟨_, by unfold byteAt; rw [List.getElem?_eq_getElem h]; rfl, List.getElem?_eq_getElem h⟩
theorem split_at {α : Type} : ∀ (l : List α) (i : Nat) (b : α), l[i]? = some b → l = l.take i ++ b :: l.drop (i + 1)
  | [], i, b, h => by simp at h
  | a :: l, 0, b, h => by simp at h; subst h; simp
  | a :: l, i + 1, b, h => by
    have := split_at l i b (by simpa using h)
    simp only [List.take_succ_cons, List.drop_succ_cons, List.cons_append]
    rw [← this]
set_option maxHeartbeats 4000000 in
set_option maxRecDepth 100000 in
theorem rnum_hex (s : ByteArray) (w : World) (hs : s.size ≤ 65536) (hl : 2 < s.size) (hx : isHexW s = true) : Calls Tryd.prog 17 #[.string s] w (numEnd s w) := by
  have HX : Hid (isHexW s = true ∧ 2 < s.size) := ⟨hx, hl⟩
  have hb := (isHex_iff s).1 hx
  have ix0 : ∀ W, (Instr.index 9 (.string s) (.int .i64 (0 : Int))).run Tryd.prog W = .ok (.int .u8 48) W := fun W => by rw [← hb.2.1]; exact index_byte s 0 (by omega) W
  have ix1 : ∀ W, (Instr.index 9 (.string s) (.int .i64 (1 : Int))).run Tryd.prog W = .ok (.int .u8 120) W := fun W => by rw [← hb.2.2]; exact index_byte s 1 (by omega) W
  have l2 : (2 : Int) < (s.size : Int) := by omega
  have l9 : (s.size : Int) ≤ 65536 := by omega
  clear hx hb hl hs
  go_enter Tryd.func17, Tryd.ntmps17
  go_wp2
  go_loopw [4, 5] (fun vx vi wr => ∃ (i n : Nat) (x : Int), 2 ≤ i ∧ i ≤ s.size ∧ vi = .int .i64 (i : Int) ∧ vx = .int .u64 x ∧ Hid (parse16 0 ((s.data.toList.drop 2).take (i - 2)) = some n ∧ (s.size ≤ 18 → x = (n : Int))) ∧ wr = w) (fun _ vi _ => s.size - (intOf vi).toNat)
  case atStart => exact ⟨2, 0, 0, by omega, by omega, rfl, rfl, ⟨rfl, fun _ => rfl⟩, rfl⟩
  case round =>
    obtain ⟨i, n, x, h2, hi, rfl, rfl, HI, rfl⟩ := hrel
    have i0 : (0 : Int) ≤ (i : Int) := by omega
    by_cases his : i < s.size
    · have i1 : (i : Int) < (s.size : Int) := by omega
      obtain ⟨b, hb1, hb2⟩ := byte_at s i his
      have ix := index_byte s i his
      rw [hb1] at ix
      have hbl : b.toNat < 256 := b.toNat_lt
      have hD2 : (s.data.toList.drop 2)[i - 2]? = some b := by rw [List.getElem?_drop, show 2 + (i - 2) = i by omega]; exact hb2
      have HD : Hid (s.data.toList.drop 2 = (s.data.toList.drop 2).take (i - 2) ++ b :: (s.data.toList.drop 2).drop (i - 2 + 1)) := split_at _ _ _ hD2
      have HS : Hid ((s.data.toList.drop 2).take (i + 1 - 2) = (s.data.toList.drop 2).take (i - 2) ++ [b]) := by
        show _ = _
        rw [show i + 1 - 2 = i - 2 + 1 by omega, List.take_add_one, hD2]
        rfl
      have HH := fun W => hex_any (b.toNat : Int) (by omega) (by omega) W
      have hI := hexI_is (b.toNat : Int) (by omega) (by omega)
      obtain ⟨c, hc⟩ : ∃ c : Int, (b.toNat : Int) = c := ⟨_, rfl⟩
      cases hd : hexD (b.toNat : Int) with
      | none =>
        rw [hd] at hI
        have hI' : hexI (b.toNat : Int) = -1 := hI
        rw [hI', hc] at HH
        rw [hc] at ix
        have HB : Hid ((numW s).2 = false) := hex_bad s HX.out.1 (by rw [HD.out, parse16_app, HI.out.1]; show parse16 n (b :: _) = none; rw [parse16, hd])
        have HF : Hid (∀ W, Calls Tryd.prog 25 #[.int .u8 c] W fun e w' => e = .returned (.int .i64 (-1)) ∧ w' = W) := HH
        clear HH hI hI' hd hb1 hb2 hc hD2
        go_wp2_with (go_at_call 25; refine (HF.out _).mono ?_; rintro e w' ⟨rfl, hw'⟩; replace hw' := hw'.symm; subst hw')
        go_ret2
        exact ⟨⟨0, by rw [HB.out]; rfl, fun h => by rw [HB.out] at h; cases h⟩, rfl⟩
      | some d =>
        rw [hd] at hI
        have hI' : hexI (b.toNat : Int) = (d : Int) := hI
        rw [hI', hc] at HH
        rw [hc] at ix
        have hd16 : d < 16 := hexD_lt hd
        have HN : Hid (parse16 0 ((s.data.toList.drop 2).take (i + 1 - 2)) = some (n * 16 + d)) := by
          show _ = _
          rw [HS.out, parse16_snoc, HI.out.1]
          show (hexD (b.toNat : Int)).map _ = _
          rw [hd]
          rfl
        have HF : Hid (∀ W, Calls Tryd.prog 25 #[.int .u8 c] W fun e w' => e = .returned (.int .i64 (d : Int)) ∧ w' = W) := HH
        have d0 : (0 : Int) ≤ (d : Int) := by omega
        have d1 : (d : Int) < 16 := by omega
        have wd : IntKind.u64.wrap (d : Int) = (d : Int) := by rw [IntKind.wrap_u64]; omega
        clear HH hI hI' hd hb1 hb2 hc hD2
        go_wp2_with (go_at_call 25; refine (HF.out _).mono ?_; rintro e w' ⟨rfl, hw'⟩; replace hw' := hw'.symm; subst hw')
        go_roundw
        case rel =>
          refine ⟨i + 1, n * 16 + d, _, by omega, by omega, by simp, rfl, ⟨HN.out, fun h18 => ?_⟩, by first | rfl | trivial⟩
          have hx : x = (n : Int) := HI.out.2 h18
          have hn := parse16_lt _ 0 n 0 (by decide) HI.out.1
          have hp : (16 : Nat) ^ (0 + ((s.data.toList.drop 2).take (i - 2)).length) ≤ 16 ^ 15 := Nat.pow_le_pow_right (by omega) (by rw [List.length_take]; omega)
          have e15 : (16 : Nat) ^ 15 = 1152921504606846976 := by decide
          have hn2 : n < 1152921504606846976 := by omega
          have e1 : IntKind.u64.wrap (x * 16) = ((n * 16 : Nat) : Int) := by rw [hx, IntKind.wrap_u64]; omega
          rw [e1]
          exact or16 n d hn2 (by omega)
        case measure => simp [intOf]; omega
    · have hie : i = s.size := by omega
      have i1 : ¬ (i : Int) < (s.size : Int) := by omega
      have hp : parse16 0 (s.data.toList.drop 2) = some n := by
        have := HI.out.1
        rw [List.take_of_length_le (by rw [List.length_drop, size_list]; omega)] at this
        exact this
      have HG : Hid ((numW s).2 = (decide (s.size ≤ 18) && decide (n < 9223372036854775808)) ∧ ((numW s).2 = true → (numW s).1.n = (n : Int))) := hex_good s HX.out.1 HX.out.2 n hp
      by_cases h18 : s.size ≤ 18
      · have hx : x = (n : Int) := HI.out.2 h18
        subst hx
        have g1 : decide ((s.size : Int) ≤ 18) = true := by simp; omega
        go_wp2
        go_ret2
        refine ⟨⟨wrap64 (n : Int), ?_, fun h => ?_⟩, rfl⟩
        · rw [HG.out.1, decide_eq_true h18, Bool.true_and]
          have e9 : decide (n < 9223372036854775808) = decide ((n : Int) < 9223372036854775808) := by rw [decide_eq_decide]; omega
          rw [e9]
          rfl
        · rw [HG.out.2 h]
          have hn := HG.out.1
          rw [h, decide_eq_true h18] at hn
          have hn2 : n < 9223372036854775808 := by simpa using hn.symm
          unfold wrap64
          omega
      · have g1 : decide ((s.size : Int) ≤ 18) = false := by simp; omega
        go_wp2
        go_ret2
        refine ⟨⟨_, by rw [HG.out.1, decide_eq_false h18]; rfl, fun h => ?_⟩, rfl⟩
        have hn := HG.out.1
        rw [h, decide_eq_false h18] at hn
        cases hn
end Go.Proofs.YtkbihcicnffjdaaDoor
