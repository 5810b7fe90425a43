/- The document's own answer for types: contracts of cut and root, at texts that are types. -/
import Derived.Test.YtpedfnfangaelaaDoorYRef1
namespace Go.Proofs.YtpedfnfangaelaaDoor
open Go.ChangeShapes Go.WideShapes Go.ChangeAt Go.RowKit
set_option linter.unusedSimpArgs false
set_option linter.unusedVariables false

/-- The document's count of digits, from a place on, at most some steps more. -/
def rcnt (t : ByteArray) : Nat → Nat → Int → Int
  | 0, _, n => n
  | f + 1, k, n => if 1000000 < n then n else rcnt t f (k + 1) (10 * n + (byteAt t k - 48))
/-- A text's first bracket, as a place. -/
def brk (t : ByteArray) : Option Nat := if 0 ≤ Lib.indexByte t.data.toList 91 then some (Lib.indexByte t.data.toList 91).toNat else none
def cutR (t : ByteArray) : ByteArray × Int × Bool :=
  match brk t with
  | none => (t, 0, false)
  | some i => (t.extract 0 i, rcnt t (t.size - 1 - (i + 1)) (i + 1) 0, true)
theorem brk_spec (t : ByteArray) : (∀ i, brk t = some i → i < t.size ∧ byteAt t i = 91 ∧ ∀ j, j < i → byteAt t j ≠ 91) ∧ (brk t = none → ∀ j, j < t.size → byteAt t j ≠ 91) := by
  have hbyte : ∀ j (b : UInt8), t.data.toList[j]? = some b → byteAt t j = (b.toNat : Int) := fun j b h => by unfold byteAt; rw [h]; rfl
  constructor
  · intro i hi
    unfold brk at hi
    split at hi
    · rename_i h0
      cases hi
      have hlt := indexByte_lt t.data.toList 91
      obtain ⟨h1, h2⟩ := Lib.indexByte_some (l := t.data.toList) (c := 91) (o := (Lib.indexByte t.data.toList 91).toNat) (by omega)
      have e : t.data.toList.length = t.size := rfl
      refine ⟨by omega, by rw [hbyte _ _ h1]; rfl, fun j hj hb => ?_⟩
      have hjl : j < t.data.toList.length := by omega
      have hg := List.getElem?_eq_getElem hjl
      rw [hbyte j _ hg] at hb
      refine h2 j hj ?_
      rw [hg]
      congr 1
      exact UInt8.toNat_inj.1 (by have : ((91 : UInt8).toNat : Int) = 91 := rfl; omega)
    · cases hi
  · intro hn j hj hb
    unfold brk at hn
    split at hn
    · cases hn
    · rename_i h0
      have hge := Lib.indexByte_ge t.data.toList 91
      have hjl : j < t.data.toList.length := hj
      have hg := List.getElem?_eq_getElem hjl
      rw [hbyte j _ hg] at hb
      refine Lib.indexByte_none (l := t.data.toList) (c := 91) (by omega) j ?_
      rw [hg]
      congr 1
      exact UInt8.toNat_inj.1 (by have : ((91 : UInt8).toNat : Int) = 91 := rfl; omega)
/-- All bytes between the bracket and the last byte are digits. -/
def DigT (t : ByteArray) : Prop := ∀ i, brk t = some i → ∀ k, i < k → k < t.size - 1 → digitB (byteAt t k) = true
set_option maxHeartbeats 4000000 in
theorem rCut_any (t : ByteArray) (ht : (t.size : Int) ≤ 4611686018427387904) (hd : DigT t) (w : World) : Calls Tryd.prog 38 #[.string t] w (retP (.tuple #[.string (cutR t).1, .int .i64 (cutR t).2.1, .bool (cutR t).2.2]) w) := by
  have HB : Hid ((∀ i, brk t = some i → i < t.size ∧ byteAt t i = 91 ∧ ∀ j, j < i → byteAt t j ≠ 91) ∧ (brk t = none → ∀ j, j < t.size → byteAt t j ≠ 91)) := brk_spec t
  have HD : Hid (DigT t) := hd
  clear hd
  obtain ⟨c, hc⟩ : ∃ c, cutR t = c := ⟨_, rfl⟩
  have HC : Hid (cutR t = c) := hc
  rw [hc]
  clear hc
  obtain ⟨r0, r1, r2⟩ := c
  dsimp only
  go_enter Tryd.func38, Tryd.ntmps38
  go_wp2
  go_loopw [5] (fun v wr => ∃ i : Nat, i ≤ t.size ∧ v = .int .i64 (i : Int) ∧ Hid (∀ j, j < i → byteAt t j ≠ 91) ∧ wr = w) (fun v _ => t.size - (intOf v).toNat)
  case atStart => exact ⟨0, by omega, rfl, fun j hj => by omega, rfl⟩
  case round =>
    obtain ⟨i, hi, rfl, HA, rfl⟩ := hrel
    by_cases hin : i < t.size
    · have i0 : (0 : Int) ≤ i := by omega
      have i1 : (i : Int) < t.size := by omega
      have ix := index_byte t i hin
      by_cases hb : byteAt t i = 91
      · have q : (byteAt t i == 91) = true := by simpa using hb
        have HK : Hid (brk t = some i) := by
          show _ = _
          cases hk : brk t with
          | none => exact absurd hb (HB.out.2 hk i hin)
          | some k =>
            have := HB.out.1 k hk
            congr 1
            rcases Nat.lt_trichotomy k i with h | h | h
            · exact absurd this.2.1 (HA.out k h)
            · exact h
            · exact absurd hb (this.2.2 i h)
        have HR : Hid (t.extract 0 i = r0 ∧ rcnt t (t.size - 1 - (i + 1)) (i + 1) 0 = r1 ∧ true = r2) := by
          have := HC.out
          unfold cutR at this
          rw [HK.out] at this
          show _ ∧ _
          simpa using this
        clear HC hb HA HB
        go_wp2
        go_loopw [6, 7] (fun vn vk wr' => ∃ (k : Nat) (n : Int), i + 1 ≤ k ∧ (k ≤ t.size - 1 ∨ k = i + 1) ∧ vn = .int .i64 n ∧ vk = .int .i64 (k : Int) ∧ Hid (0 ≤ n ∧ n ≤ 10000009 ∧ rcnt t (t.size - 1 - k) k n = r1) ∧ wr' = wr) (fun _ vk _ => t.size - (intOf vk).toNat)
        case atStart => exact ⟨i + 1, 0, by omega, .inr rfl, rfl, by simp, ⟨by omega, by omega, HR.out.2.1⟩, rfl⟩
        case round =>
          obtain ⟨k, n, hk1, hk2, rfl, rfl, HN, rfl⟩ := hrel
          have k0 : (0 : Int) ≤ k := by omega
          have ws : wrap64 ((t.size : Int) - 1) = (t.size : Int) - 1 := by unfold wrap64; omega
          by_cases hkn : k < t.size - 1
          · have k1 : (k : Int) < t.size := by omega
            have qk : decide ((k : Int) < (t.size : Int) - 1) = true := by simp; omega
            have ixk := index_byte t k (by omega)
            have hdg := HD.out i HK.out k (by omega) hkn
            have hf : t.size - 1 - k = (t.size - 1 - (k + 1)) + 1 := by omega
            by_cases hgt : 1000000 < n
            · have qg : decide (1000000 < n) = true := by simpa using hgt
              have hr1 : n = r1 := by
                have := HN.out.2.2
                rw [hf] at this
                unfold rcnt at this
                rw [if_pos hgt] at this
                exact this
              subst hr1
              obtain ⟨rfl, -, rfl⟩ := HR.out
              go_wp2
              go_ret3
              exact ⟨rfl, Below.refl _ _⟩
            · have qg : decide (1000000 < n) = false := by simpa using hgt
              simp only [digitB, Bool.and_eq_true, decide_eq_true_eq] at hdg
              have HN2 : Hid (0 ≤ 10 * n + (byteAt t k - 48) ∧ 10 * n + (byteAt t k - 48) ≤ 10000009 ∧ rcnt t (t.size - 1 - (k + 1)) (k + 1) (10 * n + (byteAt t k - 48)) = r1) := by
                have h1 := HN.out
                refine ⟨by omega, by omega, ?_⟩
                have := h1.2.2
                rw [hf] at this
                unfold rcnt at this
                rw [if_neg hgt] at this
                exact this
              have hn1 := HN.out.1
              have hn2 := HN.out.2.1
              clear hgt
              generalize byteAt t k = x at *
              go_wp2
              go_roundw
              case rel => exact ⟨k + 1, 10 * n + (x - 48), by omega, by omega, by first | rfl | (simp; omega), by simp, HN2, trivial⟩
              case measure => simp [intOf]; omega
          · have qk : decide ((k : Int) < (t.size : Int) - 1) = false := by simp; omega
            have hr1 : n = r1 := by
              have := HN.out.2.2
              rw [show t.size - 1 - k = 0 by omega] at this
              exact this
            subst hr1
            obtain ⟨rfl, -, rfl⟩ := HR.out
            go_wp2
            go_ret3
            exact ⟨rfl, Below.refl _ _⟩
      · have q : (byteAt t i == 91) = false := by simpa using hb
        have HA2 : Hid (∀ j, j < i + 1 → byteAt t j ≠ 91) := fun j hj => by
          by_cases e : j = i
          · rw [e]; exact hb
          · exact HA.out j (by omega)
        clear hb
        go_wp2
        go_roundw
        case rel => exact ⟨i + 1, by omega, by simp, HA2, trivial⟩
        case measure => simp [intOf]; omega
    · have hie : i = t.size := by omega
      subst hie
      have HK : Hid (brk t = none) := by
        show _ = _
        cases hk : brk t with
        | none => rfl
        | some k => exact absurd (HB.out.1 k hk).2.1 (HA.out k (HB.out.1 k hk).1)
      obtain ⟨rfl, rfl, rfl⟩ : t = r0 ∧ (0 : Int) = r1 ∧ false = r2 := by
        have := HC.out
        unfold cutR at this
        rw [HK.out] at this
        simpa using this
      clear HC
      go_wp2
      go_ret3
      exact ⟨rfl, Below.refl _ _⟩
/-- A text is another with stars behind it. -/
def StripOf (b s : ByteArray) (k : Nat) : Prop := b.data.toList = s.data.toList ++ List.replicate k 42
theorem starS_last {s : ByteArray} (h : starS s = true) : ∃ k, s.size = k + 1 ∧ s.data.toList = (s.extract 0 k).data.toList ++ [42] := by
  simp only [starS, Bool.and_eq_true, decide_eq_true_eq, beq_iff_eq] at h
  obtain ⟨h0, h1⟩ := h
  refine ⟨s.size - 1, by omega, ?_⟩
  have e : s.data.toList.length = s.size := rfl
  have hl : s.size - 1 < s.data.toList.length := by omega
  rw [extract_list, List.drop_zero, Nat.sub_zero]
  unfold byteAt at h1
  rw [List.getElem?_eq_getElem hl] at h1
  have h2 : s.data.toList[s.size - 1] = 42 := UInt8.toNat_inj.1 (by
    simp only [Option.map_some, Option.getD_some] at h1
    have : ((42 : UInt8).toNat : Int) = 42 := rfl
    omega)
  have h3 := List.take_append_getElem hl
  rw [h2] at h3
  rw [h3, show s.size - 1 + 1 = s.data.toList.length by omega, List.take_length]
theorem StripOf.step {b s : ByteArray} {k j : Nat} (h : StripOf b s k) (hs : s.size = j + 1) (hl : s.data.toList = (s.extract 0 j).data.toList ++ [42]) : StripOf b (s.extract 0 j) (k + 1) := by
  unfold StripOf at *
  rw [h, hl, List.append_assoc, List.replicate_succ]
  rfl
theorem StripOf.fin {b s : ByteArray} {k : Nat} (h : StripOf b s k) (hs : starS s = false) : baseS b = s ∧ b.size = s.size + k := by
  have hsz : b.size = s.size + k := by
    have := congrArg List.length h
    rw [List.length_append, List.length_replicate] at this
    exact this
  refine ⟨ba_ext ?_, hsz⟩
  show (Lib.trimRightB b.data.toList 42).toArray.toList = _
  rw [List.toList_toArray]
  unfold Lib.trimRightB
  rw [h, List.reverse_append, List.reverse_replicate]
  have hd : ∀ k, (List.replicate k (42 : UInt8) ++ s.data.toList.reverse).dropWhile (· == 42) = s.data.toList.reverse.dropWhile (· == 42) := by
    intro k
    induction k with
    | zero => rfl
    | succ k ih => rw [List.replicate_succ, List.cons_append, List.dropWhile_cons]; simp
  rw [hd]
  have hn : s.data.toList.reverse.dropWhile (· == 42) = s.data.toList.reverse := by
    cases hr : s.data.toList.reverse with
    | nil => rfl
    | cons x l =>
      rw [List.dropWhile_cons]
      by_cases hx : (x == 42) = true
      · exfalso
        have hx' : x = 42 := by simpa using hx
        have hl : s.data.toList = l.reverse ++ [42] := by
          have := congrArg List.reverse hr
          rw [List.reverse_reverse, List.reverse_cons, hx'] at this
          exact this
        have e : s.data.toList.length = s.size := rfl
        have hlen : s.size = l.length + 1 := by rw [← e, hl]; simp
        have : starS s = true := by
          simp only [starS, Bool.and_eq_true, decide_eq_true_eq, beq_iff_eq]
          refine ⟨by omega, ?_⟩
          unfold byteAt
          rw [hl, show s.size - 1 = l.reverse.length by rw [List.length_reverse]; omega, List.getElem?_append_right (Nat.le_refl _), Nat.sub_self]
          rfl
        rw [this] at hs
        cases hs
      · rw [if_neg hx]
  rw [hn, List.reverse_reverse]
set_option maxHeartbeats 2000000 in
theorem rRoot_any (t : ByteArray) (ht : (t.size : Int) ≤ 4611686018427387904) (hd : DigT t) (w : World) : Calls Tryd.prog 37 #[.string t] w (retP (.tuple #[.string (baseS (cutR t).1), .int .i64 (((cutR t).1.size : Int) - (baseS (cutR t).1).size)]) w) := by
  have HC : Hid (∀ w, Calls Tryd.prog 38 #[.string t] w (retP (.tuple #[.string (cutR t).1, .int .i64 (cutR t).2.1, .bool (cutR t).2.2]) w)) := fun w => rCut_any t ht hd w
  have hz : (cutR t).1.size ≤ t.size := by
    unfold cutR
    split
    · exact Nat.le_refl _
    · simp only [ByteArray.size_extract]; omega
  generalize cutR t = c at *
  obtain ⟨b, c1, c2⟩ := c
  dsimp only at *
  obtain ⟨r0, hr0⟩ : ∃ r0, baseS b = r0 := ⟨_, rfl⟩
  have HR : Hid (baseS b = r0) := hr0
  rw [hr0]
  clear hr0 hd
  have hbz : (b.size : Int) ≤ 4611686018427387904 := by omega
  obtain ⟨r1, hr1⟩ : ∃ r1, (b.size : Int) - r0.size = r1 := ⟨_, rfl⟩
  have HR1 : Hid ((b.size : Int) - r0.size = r1) := hr1
  rw [hr1]
  clear hr1
  have HP : Hid (∀ (s : ByteArray) w, (s.size : Int) ≤ 4611686018427387904 → Calls Tryd.prog 21 #[.string s] w fun e w' => e = .returned (.bool (starS s)) ∧ w' = w) := fun s w h => rPointer_any s h w
  go_enter Tryd.func37, Tryd.ntmps37
  go_wp2_with fail
  refine (HC.out _).mono ?_
  rintro e w1 ⟨rfl, hb1⟩
  dsimp only
  go_wp2_with fail
  go_loopw [4, 7] (fun vb vn wr => ∃ (s : ByteArray) (k : Nat), vb = .string s ∧ vn = .int .i64 (k : Int) ∧ Hid (StripOf b s k) ∧ wr = w1) (fun vb _ _ => (match vb with | .string s => s.size | _ => 0))
  case atStart => exact ⟨b, 0, rfl, rfl, by show _ = _; simp, rfl⟩
  case round =>
    obtain ⟨s, k, rfl, rfl, HS, rfl⟩ := hrel
    have hsz : b.size = s.size + k := by
      have := congrArg List.length HS.out
      rw [List.length_append, List.length_replicate] at this
      exact this
    have hsl : (s.size : Int) ≤ 4611686018427387904 := by omega
    have hkl : (k : Int) ≤ 4611686018427387904 := by omega
    cases hst : starS s
    · obtain ⟨h1, h2⟩ := HS.out.fin hst
      obtain rfl : s = r0 := h1.symm.trans HR.out
      obtain rfl : (k : Int) = r1 := by rw [← HR1.out]; omega
      go_wp2_with fail
      refine (HP.out s _ hsl).mono ?_
      rintro e w2 ⟨rfl, hw⟩
      rw [hst]
      replace hw := hw.symm
      subst hw
      clear HR HR1 HS hsz h1 h2
      go_wp2
      go_ret2
      exact ⟨rfl, hb1⟩
    · obtain ⟨j, hj, hl⟩ := starS_last hst
      have HS2 : Hid (StripOf b (s.extract 0 j) (k + 1)) := HS.out.step hj hl
      have hje : ((s.size : Int) - 1) = (j : Int) := by omega
      have hw1 : wrap64 ((s.size : Int) - 1) = (j : Int) := by unfold wrap64; omega
      have j0 : (0 : Int) ≤ j := by omega
      have j1 : (j : Int) ≤ s.size := by omega
      have HJ : Hid (s.size = j + 1 ∧ (s.extract 0 j).size = j) := ⟨hj, by simp only [ByteArray.size_extract]; omega⟩
      go_wp2_with fail
      refine (HP.out s _ hsl).mono ?_
      rintro e w2 ⟨rfl, hw⟩
      rw [hst]
      replace hw := hw.symm
      subst hw
      clear hsz hj hl hst
      go_wp2
      go_roundw
      case rel => exact ⟨s.extract 0 j, k + 1, by simp, by simp, HS2, trivial⟩
      case measure => simp only [hje, Int.toNat_natCast]; have := HJ.out; omega
end Go.Proofs.YtpedfnfangaelaaDoor

