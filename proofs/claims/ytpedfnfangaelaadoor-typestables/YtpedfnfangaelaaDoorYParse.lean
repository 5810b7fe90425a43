/- Package types: contracts of strings.Cut at one byte, isName, cutCount, parse. -/
import Derived.Test.YtpedfnfangaelaaDoorYLeaf
namespace Go.Proofs.YtpedfnfangaelaaDoor
open Go.ChangeShapes Go.WideShapes Go.ChangeAt Go.RowKit
set_option linter.unusedSimpArgs false
set_option linter.unusedVariables false

/-- A text cut at the first of a byte. -/
def cut1 (t : ByteArray) (c : UInt8) : ByteArray × ByteArray × Bool :=
  if 0 ≤ Lib.indexByte t.data.toList c then (t.extract 0 (Lib.indexByte t.data.toList c).toNat, t.extract ((Lib.indexByte t.data.toList c).toNat + 1) t.size, true) else (t, ⟨#[]⟩, false)
theorem indexByte_lt : ∀ (l : List UInt8) (c : UInt8), Lib.indexByte l c < l.length
  | [], c => by simp [Lib.indexByte]
  | b :: l, c => by
    have := indexByte_lt l c
    unfold Lib.indexByte
    simp only [List.length_cons]
    split
    · omega
    · split <;> omega
set_option maxHeartbeats 1000000 in
theorem slcut_any (t : ByteArray) (c : UInt8) (ht : (t.size : Int) ≤ 4611686018427387904) (w : World) : Calls Tryd.prog 57 #[.string t, .string ⟨#[c]⟩] w (retP (.tuple #[.string (cut1 t c).1, .string (cut1 t c).2.1, .bool (cut1 t c).2.2]) w) := by
  have HI : Hid (∀ w, Calls Tryd.prog 63 #[.string t, .string ⟨#[c]⟩] w fun e w' => e = .returned (.int .i64 (Lib.indexByte t.data.toList c)) ∧ w' = w) := fun w => Tryd.stringslite_Index_one t c w
  have hlt := indexByte_lt t.data.toList c
  have hge := Lib.indexByte_ge t.data.toList c
  unfold cut1
  generalize Lib.indexByte t.data.toList c = i at *
  by_cases h0 : 0 ≤ i
  · rw [if_pos h0]
    have hi : i < t.size := by
      have := hlt; simp only [Array.length_toList] at this; exact this
    obtain ⟨n, rfl⟩ : ∃ n : Nat, i = (n : Int) := ⟨i.toNat, by omega⟩
    simp only [Int.toNat_natCast]
    have hn : n + 1 ≤ t.size := by omega
    have hn1 : (n : Int) + 1 ≤ t.size := by omega
    have q0 : decide ((0 : Int) ≤ n) = true := by simp
    have w1 : wrap64 ((n : Int) + 1) = (n : Int) + 1 := by unfold wrap64; omega
    have w2 : IntKind.i64.wrap ((n : Int) + 1) = (n : Int) + 1 := (IntWalk.i64_left _).trans w1
    clear hlt hge h0
    go_enter Tryd.func57, Tryd.ntmps57
    go_wp2_with (go_at_call 63; refine (HI.out _).mono ?_; rintro e w1 ⟨rfl, rfl⟩)
    go_quiet (fail)
    go_wp2
    go_ret3
    exact ⟨rfl, bel_drewN (Below.refl _ _) _⟩
  · rw [if_neg h0]
    have q0 : decide (0 ≤ i) = false := by simpa using h0
    clear hlt hge h0
    go_enter Tryd.func57, Tryd.ntmps57
    go_wp2_with (go_at_call 63; refine (HI.out _).mono ?_; rintro e w1 ⟨rfl, rfl⟩)
    go_ret3
    exact ⟨rfl, Below.refl _ _⟩

set_option maxHeartbeats 1000000 in
theorem cut_any (t : ByteArray) (c : UInt8) (ht : (t.size : Int) ≤ 4611686018427387904) (w : World) : Calls Tryd.prog 44 #[.string t, .string ⟨#[c]⟩] w (retP (.tuple #[.string (cut1 t c).1, .string (cut1 t c).2.1, .bool (cut1 t c).2.2]) w) := by
  have HI : Hid (∀ w, Calls Tryd.prog 57 #[.string t, .string ⟨#[c]⟩] w (retP (.tuple #[.string (cut1 t c).1, .string (cut1 t c).2.1, .bool (cut1 t c).2.2]) w)) := fun w => slcut_any t c ht w
  clear ht
  go_enter Tryd.func44, Tryd.ntmps44
  go_wp2_with (go_at_call 57; refine (HI.out _).mono ?_; rintro e w1 ⟨rfl, hb1⟩)
  go_ret3
  exact ⟨rfl, hb1⟩
/-- May a text be a name? -/
def nbB (b : Int) : Bool := digitB b || letterB b
def nameS (s : ByteArray) : Bool := !(s.size == 0) && (decide (s.size ≤ 40) && (!(digitB (byteAt s 0)) && s.data.toList.all (fun b => nbB (b.toNat : Int))))
theorem all_byteAt (p : Int → Bool) (s : ByteArray) : s.data.toList.all (fun b => p (b.toNat : Int)) = true ↔ ∀ i, i < s.size → p (byteAt s i) = true := by
  rw [List.all_eq_true]
  constructor
  · intro h i hi
    have hl : i < s.data.toList.length := hi
    unfold byteAt
    rw [List.getElem?_eq_getElem hl]
    exact h _ (List.getElem_mem hl)
  · intro h b hb
    obtain ⟨i, hi, rfl⟩ := List.getElem_of_mem hb
    have := h i hi
    unfold byteAt at this
    rw [List.getElem?_eq_getElem hi] at this
    exact this
set_option maxHeartbeats 2000000 in
theorem isName_any (s : ByteArray) (ht : (s.size : Int) ≤ 4611686018427387904) (w : World) : Calls Tryd.prog 40 #[.string s] w fun e w' => e = .returned (.bool (nameS s)) ∧ w' = w := by
  have HD : Hid (∀ b w, Calls Tryd.prog 48 #[.int .u8 b] w fun e w' => e = .returned (.bool (digitB b)) ∧ w' = w) := fun b w => isDigit_any b w
  have HL : Hid (∀ b w, Calls Tryd.prog 49 #[.int .u8 b] w fun e w' => e = .returned (.bool (letterB b)) ∧ w' = w) := fun b w => isLetter_any b w
  by_cases h0 : s.size = 0
  · have e : nameS s = false := by simp [nameS, h0]
    rw [e]
    have q0 : (s.toList == []) = true := by
      rw [beq_iff_eq, ByteArray.toList_eq]
      exact List.eq_nil_of_length_eq_zero h0
    clear e HD HL h0
    go_enter Tryd.func40, Tryd.ntmps40
    go_wp2
    go_ret
    exact ⟨rfl, rfl⟩
  have q0 : (s.toList == []) = false := by
    rw [beq_eq_false_iff_ne, ByteArray.toList_eq]
    intro e
    exact h0 (by simpa using congrArg List.length e)
  rcases Nat.lt_or_ge 40 s.size with h1 | h1
  · have h1 : ¬ s.size ≤ 40 := by omega
    have e : nameS s = false := by simp [nameS, h1]
    rw [e]
    have q1 : decide ((40 : Int) < (s.size : Int)) = true := by simp; omega
    clear e HD HL h0
    go_enter Tryd.func40, Tryd.ntmps40
    go_wp2
    go_ret
    exact ⟨rfl, rfl⟩
  have q1 : decide ((40 : Int) < (s.size : Int)) = false := by simp; omega
  have ix0 : ∀ w, (Instr.index 9 (.string s) (.int .i64 0)).run Tryd.prog w = .ok (.int .u8 (byteAt s 0)) w := fun w => index_byte s 0 (by omega) w
  by_cases h2 : digitB (byteAt s 0) = true
  · have e : nameS s = false := by simp [nameS, h2]
    rw [e]
    have HD0 : Hid (∀ w, Calls Tryd.prog 48 #[.int .u8 (byteAt s 0)] w fun e w' => e = .returned (.bool true) ∧ w' = w) := fun w => h2 ▸ isDigit_any _ w
    clear e HD HL h2
    go_enter Tryd.func40, Tryd.ntmps40
    go_wp2_with (go_at_call 48; refine (HD0.out _).mono ?_; rintro e w1 ⟨rfl, rfl⟩)
    go_ret
    exact ⟨rfl, rfl⟩
  replace h2 : digitB (byteAt s 0) = false := by simpa using h2
  have HD0 : Hid (∀ w, Calls Tryd.prog 48 #[.int .u8 (byteAt s 0)] w fun e w' => e = .returned (.bool false) ∧ w' = w) := fun w => h2 ▸ isDigit_any _ w
  have HE : Hid (nameS s = s.data.toList.all (fun b => nbB (b.toNat : Int))) := by
    show _ = _
    simp [nameS, h2, h0, h1]
  generalize nameS s = r at *
  have HN : Hid (s.size ≤ 40) := h1
  clear h0 h1 h2
  go_enter Tryd.func40, Tryd.ntmps40
  go_wp2_with (go_at_call 48; refine (HD0.out _).mono ?_; rintro e w1 ⟨rfl, rfl⟩)
  go_loopw [18] (fun v wr => ∃ i : Nat, i ≤ s.size ∧ v = .int .i64 i ∧ Hid (∀ j, j < i → nbB (byteAt s j) = true) ∧ wr = w1) (fun v _ => s.size - (intOf v).toNat)
  case atStart => exact ⟨0, by omega, rfl, fun j hj => by omega, rfl⟩
  case round =>
    obtain ⟨i, hi, rfl, HA, rfl⟩ := hrel
    by_cases hin : i < s.size
    · have i0 : (0 : Int) ≤ i := by omega
      have i1 : (i : Int) < s.size := by omega
      have ix := index_byte s i hin
      have HD1 : Hid (∀ w, Calls Tryd.prog 48 #[.int .u8 (byteAt s i)] w fun e w' => e = .returned (.bool (digitB (byteAt s i))) ∧ w' = w) := fun w => isDigit_any _ w
      have HL1 : Hid (∀ w, Calls Tryd.prog 49 #[.int .u8 (byteAt s i)] w fun e w' => e = .returned (.bool (letterB (byteAt s i))) ∧ w' = w) := fun w => isLetter_any _ w
      by_cases hb : nbB (byteAt s i) = true
      · have HA2 : Hid (∀ j, j < i + 1 → nbB (byteAt s j) = true) := fun j hj => by
          by_cases e : j = i
          · rw [e]; exact hb
          · exact HA.out j (by omega)
        unfold nbB at hb
        generalize digitB (byteAt s i) = d at *
        generalize letterB (byteAt s i) = l at *
        cases d
        · cases l
          · simp at hb
          · clear hb
            go_wp2_with (first | (go_at_call 48; refine (HD1.out _).mono ?_; rintro e w1 ⟨rfl, rfl⟩) | (go_at_call 49; refine (HL1.out _).mono ?_; rintro e w1 ⟨rfl, rfl⟩))
            go_roundw
            case rel => exact ⟨i + 1, by omega, by simp, HA2, trivial⟩
            case measure => simp [intOf]; omega
        · clear hb
          go_wp2_with (first | (go_at_call 48; refine (HD1.out _).mono ?_; rintro e w1 ⟨rfl, rfl⟩) | (go_at_call 49; refine (HL1.out _).mono ?_; rintro e w1 ⟨rfl, rfl⟩))
          go_roundw
          case rel => exact ⟨i + 1, by omega, by simp, HA2, trivial⟩
          case measure => simp [intOf]; omega
      · have hr : r = false := by
          rw [HE.out, Bool.eq_false_iff]
          intro h
          exact hb ((all_byteAt nbB s).1 h i hin)
        subst hr
        simp only [nbB, Bool.or_eq_true, not_or, Bool.not_eq_true] at hb
        obtain ⟨hb1, hb2⟩ := hb
        rw [hb1] at HD1
        rw [hb2] at HL1
        clear hb1 hb2
        go_wp2_with (first | (go_at_call 48; refine (HD1.out _).mono ?_; rintro e w1 ⟨rfl, rfl⟩) | (go_at_call 49; refine (HL1.out _).mono ?_; rintro e w1 ⟨rfl, rfl⟩))
        go_ret
        exact ⟨rfl, rfl⟩
    · have hie : i = s.size := by omega
      subst hie
      have hr : r = true := by
        rw [HE.out]
        exact (all_byteAt nbB s).2 HA.out
      subst hr
      go_wp2
      go_ret
      exact ⟨rfl, rfl⟩

/-- The number that the digits ahead of a place say, at most 65537. -/
def cnt (d : ByteArray) : Nat → Int
  | 0 => 0
  | i + 1 => min (10 * cnt d i + (byteAt d i - 48)) 65537
theorem cnt_range (d : ByteArray) : ∀ i, (∀ j, j < i → digitB (byteAt d j) = true) → 0 ≤ cnt d i ∧ cnt d i ≤ 65537
  | 0, _ => by simp [cnt]
  | i + 1, h => by
    have h1 := cnt_range d i (fun j hj => h j (by omega))
    have h2 := h i (by omega)
    simp only [digitB, Bool.and_eq_true, decide_eq_true_eq] at h2
    unfold cnt
    omega
/-- What stands in brackets, up to the last of them. -/
def digs (b : ByteArray) : ByteArray := ⟨(Lib.trimSuffix b.data.toList [93]).toArray⟩
def digOk (b : ByteArray) : Bool := Lib.hasSuffix b.data.toList [93] && (!((digs b).size == 0) && (!(byteAt (digs b) 0 == 48) && (digs b).data.toList.all (fun b => digitB (b.toNat : Int))))
def cutC (t : ByteArray) : ByteArray × Int × Bool :=
  if (cut1 t 91).2.2 = true then (if digOk (cut1 t 91).2.1 = true then ((cut1 t 91).1, cnt (digs (cut1 t 91).2.1) (digs (cut1 t 91).2.1).size, true) else (⟨#[]⟩, 0, false)) else (t, 0, true)
theorem size_cut1 (t : ByteArray) (c : UInt8) : (cut1 t c).1.size ≤ t.size ∧ (cut1 t c).2.1.size ≤ t.size := by
  unfold cut1
  split
  · simp only [ByteArray.size_extract]; omega
  · exact ⟨Nat.le_refl _, Nat.zero_le _⟩
theorem size_digs (b : ByteArray) : (digs b).size ≤ b.size := by
  show (Lib.trimSuffix b.data.toList [93]).toArray.size ≤ b.data.size
  simp only [List.size_toArray, Lib.trimSuffix]
  split
  · simp
  · simp
theorem run_min (a b : Int) (w : World) : (Builtin.min_ #[3, 3] 3 #[.int .i64 a, .int .i64 b]).run Tryd.prog w = .ok (.int .i64 (min a b)) w := by
  have e : min a b = if b < a then b else a := by split <;> omega
  rw [e]
  simp [Builtin.min_, Builtin.min2]
set_option maxHeartbeats 2000000 in
theorem cutCount_any (t : ByteArray) (ht : (t.size : Int) ≤ 4611686018427387904) (w : World) : Calls Tryd.prog 42 #[.string t] w (retP (.tuple #[.string (cutC t).1, .int .i64 (cutC t).2.1, .bool (cutC t).2.2]) w) := by
  have HC : Hid (∀ w, Calls Tryd.prog 44 #[.string t, .string ⟨#[91]⟩] w (retP (.tuple #[.string (cut1 t 91).1, .string (cut1 t 91).2.1, .bool (cut1 t 91).2.2]) w)) := fun w => cut_any t 91 ht w
  have hsz := (size_cut1 t 91).2
  unfold cutC
  generalize (cut1 t 91).1 = rest at *
  generalize (cut1 t 91).2.1 = b at *
  generalize (cut1 t 91).2.2 = ok at *
  cases ok
  · simp only [Bool.false_eq_true, if_false]
    go_enter Tryd.func42, Tryd.ntmps42
    go_wp2_with (go_at_call 44; refine (HC.out _).mono ?_; rintro e w1 ⟨rfl, hb1⟩)
    go_ret3
    exact ⟨rfl, hb1⟩
  simp only [if_true]
  have hbs : (b.size : Int) ≤ 4611686018427387904 := by omega
  have HS : Hid (∀ w, Calls Tryd.prog 52 #[.string b, .string ⟨#[93]⟩] w fun e w' => e = .returned (.tuple #[.string (digs b), .bool (Lib.hasSuffix b.data.toList [93])]) ∧ w' = w) := fun w => Tryd.strings_CutSuffix b ⟨#[93]⟩ w (by omega)
  have hds := size_digs b
  have HO : Hid (digOk b = (Lib.hasSuffix b.data.toList [93] && (!((digs b).size == 0) && (!(byteAt (digs b) 0 == 48) && (digs b).data.toList.all (fun b => digitB (b.toNat : Int)))))) := rfl
  generalize digOk b = ok at *
  generalize Lib.hasSuffix b.data.toList [93] = sf at *
  generalize digs b = d at *
  have hdz : (d.size : Int) ≤ 4611686018427387904 := by omega
  clear ht hsz hbs hds
  cases sf
  · have hr : ok = false := by rw [HO.out]; simp
    subst hr
    simp only [Bool.false_eq_true, if_false]
    clear HO
    go_enter Tryd.func42, Tryd.ntmps42
    go_wp2_with (first | (go_at_call 44; refine (HC.out _).mono ?_; rintro e w1 ⟨rfl, hb1⟩) | (go_at_call 52; refine (HS.out _).mono ?_; rintro e w1 ⟨rfl, rfl⟩))
    go_ret3
    exact ⟨rfl, hb1⟩
  by_cases h0 : d.size = 0
  · have hr : ok = false := by rw [HO.out]; simp [h0]
    subst hr
    simp only [Bool.false_eq_true, if_false]
    have q0 : (d.toList == []) = true := by
      rw [beq_iff_eq, ByteArray.toList_eq]
      exact List.eq_nil_of_length_eq_zero h0
    clear HO h0
    go_enter Tryd.func42, Tryd.ntmps42
    go_wp2_with (first | (go_at_call 44; refine (HC.out _).mono ?_; rintro e w1 ⟨rfl, hb1⟩) | (go_at_call 52; refine (HS.out _).mono ?_; rintro e w1 ⟨rfl, rfl⟩))
    go_ret3
    exact ⟨rfl, hb1⟩
  have q0 : (d.toList == []) = false := by
    rw [beq_eq_false_iff_ne, ByteArray.toList_eq]
    intro e
    exact h0 (by simpa using congrArg List.length e)
  have ix0 : ∀ w, (Instr.index 9 (.string d) (.int .i64 0)).run Tryd.prog w = .ok (.int .u8 (byteAt d 0)) w := fun w => index_byte d 0 (by omega) w
  by_cases h1 : (byteAt d 0 == 48) = true
  · have hr : ok = false := by rw [HO.out]; simp [h1]
    subst hr
    simp only [Bool.false_eq_true, if_false]
    clear HO h0
    go_enter Tryd.func42, Tryd.ntmps42
    go_wp2_with (first | (go_at_call 44; refine (HC.out _).mono ?_; rintro e w1 ⟨rfl, hb1⟩) | (go_at_call 52; refine (HS.out _).mono ?_; rintro e w1 ⟨rfl, rfl⟩))
    go_ret3
    exact ⟨rfl, hb1⟩
  replace h1 : (byteAt d 0 == 48) = false := by simpa using h1
  have HE : Hid (ok = d.data.toList.all (fun b => digitB (b.toNat : Int))) := by
    show _ = _
    rw [HO.out]; simp [h0, h1]
  clear HO h0
  generalize hR : (if ok = true then (rest, cnt d d.size, true) else ((⟨#[]⟩ : ByteArray), (0 : Int), false)) = R
  have HR : Hid ((if ok = true then (rest, cnt d d.size, true) else ((⟨#[]⟩ : ByteArray), (0 : Int), false)) = R) := hR
  clear hR
  obtain ⟨r0, r1, r2⟩ := R
  dsimp only
  go_enter Tryd.func42, Tryd.ntmps42
  go_wp2_with (first | (go_at_call 44; refine (HC.out _).mono ?_; rintro e w1 ⟨rfl, hb1⟩) | (go_at_call 52; refine (HS.out _).mono ?_; rintro e w1 ⟨rfl, rfl⟩))
  go_loopw [2, 3, 4, 36] (fun u2 u u4 v wr => ∃ i : Nat, i ≤ d.size ∧ u2 = .string rest ∧ u4 = .bool true ∧ v = .int .i64 i ∧ u = .int .i64 (cnt d i) ∧ Hid (∀ j, j < i → digitB (byteAt d j) = true) ∧ wr = w1) (fun _ _ _ v _ => d.size - (intOf v).toNat)
  case atStart => exact ⟨0, by omega, rfl, rfl, rfl, rfl, fun j hj => by omega, rfl⟩
  case round =>
    obtain ⟨i, hi, rfl, rfl, rfl, rfl, HA, rfl⟩ := hrel
    by_cases hin : i < d.size
    · have i0 : (0 : Int) ≤ i := by omega
      have i1 : (i : Int) < d.size := by omega
      have ix := index_byte d i hin
      have HD1 : Hid (∀ w, Calls Tryd.prog 48 #[.int .u8 (byteAt d i)] w fun e w' => e = .returned (.bool (digitB (byteAt d i))) ∧ w' = w) := fun w => isDigit_any _ w
      by_cases hb : digitB (byteAt d i) = true
      · have HA2 : Hid (∀ j, j < i + 1 → digitB (byteAt d j) = true) := fun j hj => by
          by_cases e : j = i
          · rw [e]; exact hb
          · exact HA.out j (by omega)
        rw [hb] at HD1
        have hr := cnt_range d i HA.out
        simp only [digitB, Bool.and_eq_true, decide_eq_true_eq] at hb
        have HM : Hid (cnt d (i + 1) = min (10 * cnt d i + (byteAt d i - 48)) 65537) := rfl
        obtain ⟨m, hm⟩ : ∃ m, min (10 * cnt d i + (byteAt d i - 48)) 65537 = m := ⟨_, rfl⟩
        have rm : ∀ w, (Builtin.min_ #[3, 3] 3 #[.int .i64 (10 * cnt d i + (byteAt d i - 48)), .int .i64 65537]).run Tryd.prog w = .ok (.int .i64 m) w := fun w => hm ▸ run_min _ _ w
        rw [hm] at HM
        clear hm
        generalize cnt d i = c at *
        have HBB : Hid (digitB (byteAt d i) = true) := by show _ = _; simp only [digitB, Bool.and_eq_true, decide_eq_true_eq]; exact hb
        generalize byteAt d i = x at *
        go_wp2_with (go_at_call 48; refine (HD1.out _).mono ?_; rintro e w1 ⟨rfl, rfl⟩)
        go_roundw
        case rel => exact ⟨i + 1, by omega, rfl, rfl, by simp, by rw [HM.out], HA2, trivial⟩
        case measure => simp [intOf]; omega
      · have hr : ok = false := by
          rw [HE.out, Bool.eq_false_iff]
          intro h
          exact hb ((all_byteAt digitB d).1 h i hin)
        subst hr
        obtain ⟨rfl, rfl, rfl⟩ : (⟨#[]⟩ : ByteArray) = r0 ∧ (0 : Int) = r1 ∧ false = r2 := by simpa using HR.out
        clear HR
        replace hb : digitB (byteAt d i) = false := by simpa using hb
        rw [hb] at HD1
        clear hb
        go_wp2_with (go_at_call 48; refine (HD1.out _).mono ?_; rintro e w1 ⟨rfl, rfl⟩)
        go_ret3
        exact ⟨rfl, hb1⟩
    · have hie : i = d.size := by omega
      subst hie
      have hr : ok = true := by
        rw [HE.out]
        exact (all_byteAt digitB d).2 HA.out
      subst hr
      obtain ⟨rfl, rfl, rfl⟩ : rest = r0 ∧ cnt d d.size = r1 ∧ true = r2 := by simpa using HR.out
      clear HR
      go_wp2
      go_ret3
      exact ⟨rfl, hb1⟩

end Go.Proofs.YtpedfnfangaelaaDoor
