/- The document's own answer for types: contract of Formed. -/
import Derived.Test.YtpedfnfangaelaaDoorYRef2
namespace Go.Proofs.YtpedfnfangaelaaDoor
open Go.ChangeShapes Go.WideShapes Go.ChangeAt Go.RowKit
set_option linter.unusedSimpArgs false
set_option linter.unusedVariables false

/-- A type without stars and brackets, as the document tells it. -/
def finS (b : ByteArray) : Bool := isS b cChar || (isS b cInt || (isS b cLong || (isS b cVoid || (decide ((7 : Int) < b.size) && (isS (b.extract 0 7) [115, 116, 114, 117, 99, 116, 32] && nameS (b.extract 7 b.size))))))
/-- What stands behind a bracket. -/
def dOk (d : ByteArray) : Bool := !(decide ((d.size : Int) < 2)) && (byteAt d (d.size - 1) == 93 && (decide (49 ≤ byteAt d 0) && (decide (byteAt d 0 ≤ 57) && decide (∀ k, k < d.size - 1 → digitB (byteAt d k) = true))))
def fmR (t : ByteArray) : Bool :=
  match brk t with
  | none => finS (baseS t)
  | some i => dOk (t.extract (i + 1) t.size) && (!(isS (t.extract 0 i) cVoid) && finS (baseS (t.extract 0 i)))

theorem fin_empty {s : ByteArray} (h : s.size = 0) : finS s = false := by
  have hl : s.data.toList = [] := List.eq_nil_of_length_eq_zero h
  have e : ∀ c : List UInt8, c ≠ [] → isS s c = false := fun c hc => by
    unfold isS
    rw [hl, beq_eq_false_iff_ne]
    exact Ne.symm hc
  unfold finS
  rw [e _ (by simp [cChar]), e _ (by simp [cInt]), e _ (by simp [cLong]), e _ (by simp [cVoid]), h]
  rfl
set_option maxRecDepth 100000 in
set_option maxHeartbeats 8000000 in
theorem rFormed_any (t : ByteArray) (ht : (t.size : Int) ≤ 4611686018427387904) (w : World) : Calls Tryd.prog 36 #[.string t] w fun e w' => e = .returned (.bool (fmR t)) ∧ w' = w := by
  have HB : Hid ((∀ i, brk t = some i → i < t.size ∧ byteAt t i = 91 ∧ ∀ j, j < i → byteAt t j ≠ 91) ∧ (brk t = none → ∀ j, j < t.size → byteAt t j ≠ 91)) := brk_spec t
  obtain ⟨r, hr⟩ : ∃ r, fmR t = r := ⟨_, rfl⟩
  have HC : Hid (fmR t = r) := hr
  rw [hr]
  clear hr
  go_enter Tryd.func36, Tryd.ntmps36
  go_wp2
  go_loopw [3, 4] (fun vb v wr => ∃ i : Nat, i ≤ t.size ∧ vb = .string t ∧ v = .int .i64 (i : Int) ∧ Hid (∀ j, j < i → byteAt t j ≠ 91) ∧ wr = w) (fun _ v _ => t.size - (intOf v).toNat)
  case atStart => exact ⟨0, by omega, rfl, rfl, fun j hj => by omega, rfl⟩
  case round =>
    obtain ⟨i, hi, rfl, rfl, HA, rfl⟩ := hrel
    by_cases hin : i < t.size
    · have i0 : (0 : Int) ≤ i := by omega
      have i1 : (i : Int) < t.size := by omega
      have ix := index_byte t i hin
      by_cases hb : byteAt t i = 91
      · have q : (byteAt t i == 91) = true := by simpa using hb
        have HK : Hid (brk t = some i) := by
          show _ = _
          cases hk : brk t with
          | none => exact absurd hb (HB.out.2 hk i hin)
          | some k =>
            have := HB.out.1 k hk
            congr 1
            rcases Nat.lt_trichotomy k i with h | h | h
            · exact absurd this.2.1 (HA.out k h)
            · exact h
            · exact absurd hb (this.2.2 i h)
        have HR : Hid ((dOk (t.extract (i + 1) t.size) && (!(isS (t.extract 0 i) cVoid) && finS (baseS (t.extract 0 i)))) = r) := by
          have := HC.out
          unfold fmR at this
          rw [HK.out] at this
          exact this
        have hdz : (t.extract (i + 1) t.size).size = t.size - (i + 1) := by simp only [ByteArray.size_extract]; omega
        have hw1 : wrap64 ((i : Int) + 1) = (i : Int) + 1 := by unfold wrap64; omega
        have hz1 : (i : Int) + 1 ≤ t.size := by omega
        clear HC hb HA HB
        obtain ⟨d, hd⟩ : ∃ d, t.extract (i + 1) t.size = d := ⟨_, rfl⟩
        have hie1 : ((i : Int) + 1).toNat = i + 1 := by omega
        rw [hd] at HR hdz
        have HDZ : Hid (d.size = t.size - (i + 1)) := hdz
        have HDE : Hid (t.extract (i + 1) t.size = d) := hd
        have hdl : (d.size : Int) ≤ 4611686018427387904 := by omega
        clear hdz
        by_cases h2 : (d.size : Int) < 2
        · have q2 : decide ((d.size : Int) < 2) = true := by simpa using h2
          have q2n : d.size < 2 := by omega
          obtain rfl : false = r := by rw [← HR.out]; simp [dOk, h2]
          clear HR
          go_wp2
          go_ret
          exact ⟨rfl, rfl⟩
        have q2 : decide ((d.size : Int) < 2) = false := by simpa using h2
        have q2n : ¬ d.size < 2 := by omega
        obtain ⟨j, hj⟩ : ∃ j, d.size = j + 1 := ⟨d.size - 1, by omega⟩
        have hje : d.size - 1 = j := by omega
        have HJ : Hid (d.size = j + 1 ∧ 1 ≤ j) := ⟨hj, by omega⟩
        have ixl : ∀ w, (Instr.index 9 (.string d) (.int .i64 ((d.size : Int) - 1))).run Tryd.prog w = .ok (.int .u8 (byteAt d j)) w := fun w => by
          have := index_byte d j (by omega) w
          rw [show ((j : Nat) : Int) = (d.size : Int) - 1 by omega] at this
          exact this
        have ws : wrap64 ((d.size : Int) - 1) = (d.size : Int) - 1 := by unfold wrap64; omega
        have ix0 : ∀ w, (Instr.index 9 (.string d) (.int .i64 0)).run Tryd.prog w = .ok (.int .u8 (byteAt d 0)) w := fun w => index_byte d 0 (by omega) w
        have HDO : Hid (dOk d = (byteAt d j == 93 && (decide (49 ≤ byteAt d 0) && (decide (byteAt d 0 ≤ 57) && decide (∀ k, k < j → digitB (byteAt d k) = true))))) := by
          show _ = _
          unfold dOk
          rw [q2, hje]
          rfl
        rw [HDO.out] at HR
        clear hj hje
        rcases Decidable.em (¬ byteAt d j = 93) with h3 | h3
        · have q3 : (byteAt d j == 93) = false := by simpa using h3
          have q3' : (byteAt d j != 93) = true := by simpa using h3
          obtain rfl : false = r := by rw [← HR.out, q3]; simp
          clear HR
          go_wp2
          go_ret
          exact ⟨rfl, rfl⟩
        replace h3 : byteAt d j = 93 := by simpa using h3
        have q3 : (byteAt d j == 93) = true := by simpa using h3
        have q3' : (byteAt d j != 93) = false := by simpa using h3
        rcases Decidable.em (byteAt d 0 < 49) with h4 | h4
        · have q4 : decide (49 ≤ byteAt d 0) = false := by simp; omega
          have q4' : decide (byteAt d 0 < 49) = true := by simpa using h4
          obtain rfl : false = r := by rw [← HR.out, q4]; simp
          clear HR
          go_wp2
          go_ret
          exact ⟨rfl, rfl⟩
        replace h4 : 49 ≤ byteAt d 0 := by omega
        have q4 : decide (49 ≤ byteAt d 0) = true := by simpa using h4
        have q4' : decide (byteAt d 0 < 49) = false := by simp; omega
        rcases Decidable.em (57 < byteAt d 0) with h5 | h5
        · have q5 : decide (byteAt d 0 ≤ 57) = false := by simp; omega
          have q5' : decide (57 < byteAt d 0) = true := by simpa using h5
          obtain rfl : false = r := by rw [← HR.out, q5]; simp
          clear HR
          go_wp2
          go_ret
          exact ⟨rfl, rfl⟩
        replace h5 : byteAt d 0 ≤ 57 := by omega
        have q5 : decide (byteAt d 0 ≤ 57) = true := by simpa using h5
        have q5' : decide (57 < byteAt d 0) = false := by simp; omega
        rw [q3, q4, q5, Bool.true_and, Bool.true_and, Bool.true_and] at HR
        go_wp2
        go_loopw [6] (fun vk wr' => ∃ k : Nat, k ≤ j ∧ vk = .int .i64 (k : Int) ∧ Hid (∀ m, m < k → digitB (byteAt d m) = true) ∧ wr' = wr) (fun vk _ => j - (intOf vk).toNat)
        case atStart => exact ⟨0, by omega, rfl, fun m hm => by omega, rfl⟩
        case round =>
          obtain ⟨k, hk, rfl, HM, rfl⟩ := hrel
          have hjz := HJ.out.1
          by_cases hkj : k < j
          · have k0 : (0 : Int) ≤ k := by omega
            have k1 : (k : Int) < d.size := by omega
            have qk : decide ((k : Int) < (d.size : Int) - 1) = true := by simp; omega
            have ixk := index_byte d k (by omega)
            clear hjz
            by_cases hdg : digitB (byteAt d k) = true
            · have HM2 : Hid (∀ m, m < k + 1 → digitB (byteAt d m) = true) := fun m hm => by
                by_cases e : m = k
                · rw [e]; exact hdg
                · exact HM.out m (by omega)
              simp only [digitB, Bool.and_eq_true, decide_eq_true_eq] at hdg
              have q6 : decide (byteAt d k < 48) = false := by simp; omega
              have q7 : decide (57 < byteAt d k) = false := by simp; omega
              clear hdg
              go_wp2
              go_roundw
              case rel => exact ⟨k + 1, by omega, by simp, HM2, trivial⟩
              case measure => simp [intOf]; omega
            · obtain rfl : false = r := by
                rw [← HR.out]
                have : decide (∀ k, k < j → digitB (byteAt d k) = true) = false := by
                  rw [decide_eq_false_iff_not]
                  intro h
                  exact hdg (h k hkj)
                rw [this]; rfl
              clear HR
              by_cases h6 : byteAt d k < 48
              · have q6 : decide (byteAt d k < 48) = true := by simpa using h6
                clear hdg
                go_wp2
                go_ret
                exact ⟨rfl, rfl⟩
              · have q6 : decide (byteAt d k < 48) = false := by simpa using h6
                have q7 : decide (57 < byteAt d k) = true := by
                  have : ¬ (48 ≤ byteAt d k ∧ byteAt d k ≤ 57) := fun h => hdg (by simp [digitB, h])
                  simp; omega
                clear hdg
                go_wp2
                go_ret
                exact ⟨rfl, rfl⟩
          · have hke : k = j := by omega
            subst hke
            have qk : decide ((k : Int) < (d.size : Int) - 1) = false := by simp; omega
            have HR2 : Hid ((!(isS (t.extract 0 i) cVoid) && finS (baseS (t.extract 0 i))) = r) := by
              have := HR.out
              rw [decide_eq_true HM.out, Bool.true_and] at this
              exact this
            clear HR hjz
            cases hv : isS (t.extract 0 i) cVoid
            · have HFIN : Hid (finS (baseS (t.extract 0 i)) = r) := by
                have := HR2.out
                rw [hv] at this
                show _ = _
                simpa using this
              have HBZ : Hid (((t.extract 0 i).size : Int) ≤ 4611686018427387904) := by show _ ≤ _; simp only [ByteArray.size_extract]; omega
              simp only [isS_eq, cVoid] at hv
              clear HR2 HM
              go_wp2
              go_loopw [3] (fun vb wr2 => ∃ (s : ByteArray) (k : Nat), vb = .string s ∧ Hid (StripOf (t.extract 0 i) s k) ∧ wr2 = wr) (fun vb _ => (match vb with | .string s => s.size | _ => 0))
              case atStart => exact ⟨t.extract 0 i, 0, by first | rfl | simp, by show _ = _; simp, rfl⟩
              case round =>
                obtain ⟨s, k, rfl, HS, rfl⟩ := hrel
                have hsz : (t.extract 0 i).size = s.size + k := by
                  have := congrArg List.length HS.out
                  rw [List.length_append, List.length_replicate] at this
                  exact this
                have hsl : (s.size : Int) ≤ 4611686018427387904 := by have := HBZ.out; omega
                by_cases h0 : 0 < s.size
                · obtain ⟨j, hj⟩ : ∃ j, s.size = j + 1 := ⟨s.size - 1, by omega⟩
                  have h0i : 0 < (s.size : Int) := by omega
                  have ixs : ∀ w, (Instr.index 9 (.string s) (.int .i64 ((s.size : Int) - 1))).run Tryd.prog w = .ok (.int .u8 (byteAt s j)) w := fun w => by
                    have := index_byte s j (by omega) w
                    rw [show ((j : Nat) : Int) = (s.size : Int) - 1 by omega] at this
                    exact this
                  have ws : wrap64 ((s.size : Int) - 1) = (s.size : Int) - 1 := by unfold wrap64; omega
                  have hje : s.size - 1 = j := by omega
                  by_cases hst : byteAt s j = 42
                  · have qst : (byteAt s j == 42) = true := by simpa using hst
                    have hstar : starS s = true := by simp [starS, hje, hst, h0]
                    obtain ⟨j2, hj2, hl⟩ := starS_last hstar
                    obtain rfl : j2 = j := by omega
                    have HS2 : Hid (StripOf (t.extract 0 i) (s.extract 0 j2) (k + 1)) := HS.out.step hj2 hl
                    have hie : ((s.size : Int) - 1).toNat = j2 := by omega
                    have HJ : Hid (s.size = j2 + 1 ∧ (s.extract 0 j2).size = j2) := ⟨hj2, by simp only [ByteArray.size_extract]; omega⟩
                    clear hsz hj hl hst hj2 hstar hje
                    go_wp2
                    go_roundw
                    case rel => exact ⟨s.extract 0 j2, k + 1, by simp [hie], HS2, trivial⟩
                    case measure => simp only [hie]; have := HJ.out; omega
                  · have qst : (byteAt s j == 42) = false := by simpa using hst
                    have hstar : starS s = false := by simp [starS, hje, hst]
                    have hbs := (HS.out.fin hstar).1
                    have HFS : Hid (finS s = r) := by have := HFIN.out; rw [hbs] at this; exact this
                    clear HFIN hbs hstar hst hsz HS hje hj
                    by_cases h1 : isS s cChar = true
                    · obtain rfl : true = r := by rw [← HFS.out]; simp [finS, h1]
                      clear HFS
                      simp only [isS_eq, cChar, cInt, cLong, cVoid] at h1
                      go_wp2
                      go_ret
                      exact ⟨rfl, rfl⟩
                    replace h1 : isS s cChar = false := by simpa using h1
                    by_cases h2 : isS s cInt = true
                    · obtain rfl : true = r := by rw [← HFS.out]; simp [finS, h1, h2]
                      clear HFS
                      simp only [isS_eq, cChar, cInt, cLong, cVoid] at h1 h2
                      go_wp2
                      go_ret
                      exact ⟨rfl, rfl⟩
                    replace h2 : isS s cInt = false := by simpa using h2
                    by_cases h3 : isS s cLong = true
                    · obtain rfl : true = r := by rw [← HFS.out]; simp [finS, h1, h2, h3]
                      clear HFS
                      simp only [isS_eq, cChar, cInt, cLong, cVoid] at h1 h2 h3
                      go_wp2
                      go_ret
                      exact ⟨rfl, rfl⟩
                    replace h3 : isS s cLong = false := by simpa using h3
                    by_cases h4 : isS s cVoid = true
                    · obtain rfl : true = r := by rw [← HFS.out]; simp [finS, h1, h2, h3, h4]
                      clear HFS
                      simp only [isS_eq, cChar, cInt, cLong, cVoid] at h1 h2 h3 h4
                      go_wp2
                      go_ret
                      exact ⟨rfl, rfl⟩
                    replace h4 : isS s cVoid = false := by simpa using h4
                    by_cases h5 : (7 : Int) < s.size
                    · have q5 : decide ((7 : Int) < s.size) = true := by simpa using h5
                      have h5n : 7 < s.size := by omega
                      by_cases h6 : isS (s.extract 0 7) [115, 116, 114, 117, 99, 116, 32] = true
                      · obtain rfl : nameS (s.extract 7 s.size) = r := by rw [← HFS.out]; simp only [finS, h1, h2, h3, h4, q5, h6, Bool.false_or, Bool.true_and]
                        have HNM : Hid (∀ w, Calls Tryd.prog 34 #[.string (s.extract 7 s.size)] w fun e w' => e = .returned (.bool (nameS (s.extract 7 s.size))) ∧ w' = w) := fun w => rNamed_any _ (by simp only [ByteArray.size_extract]; omega) w
                        clear HFS
                        simp only [isS_eq, cChar, cInt, cLong, cVoid] at h1 h2 h3 h4 h6
                        go_wp2_with fail
                        refine (HNM.out _).mono ?_
                        rintro e w2 ⟨rfl, hw⟩
                        replace hw := hw.symm
                        subst hw
                        go_wp2
                        go_ret
                        exact ⟨rfl, rfl⟩
                      · replace h6 : isS (s.extract 0 7) [115, 116, 114, 117, 99, 116, 32] = false := by simpa using h6
                        obtain rfl : false = r := by rw [← HFS.out]; simp only [finS, h1, h2, h3, h4, q5, h6, Bool.false_or, Bool.true_and, Bool.false_and]
                        clear HFS
                        simp only [isS_eq, cChar, cInt, cLong, cVoid] at h1 h2 h3 h4 h6
                        go_wp2
                        go_ret
                        exact ⟨rfl, rfl⟩
                    · have q5 : decide ((7 : Int) < s.size) = false := by simpa using h5
                      have h5n : ¬ 7 < s.size := by omega
                      obtain rfl : false = r := by rw [← HFS.out]; simp only [finS, h1, h2, h3, h4, q5, Bool.false_or, Bool.false_and]
                      clear HFS
                      simp only [isS_eq, cChar, cInt, cLong, cVoid] at h1 h2 h3 h4
                      go_wp2
                      go_ret
                      exact ⟨rfl, rfl⟩
                · have hz : s.size = 0 := by omega
                  have hstar : starS s = false := by simp [starS, hz]
                  have hbs := (HS.out.fin hstar).1
                  have HFS : Hid (finS s = r) := by have := HFIN.out; rw [hbs] at this; exact this
                  have hf : finS s = false := fin_empty hz
                  obtain rfl : false = r := hf.symm.trans HFS.out
                  have hl : s.toList = [] := by rw [ByteArray.toList_eq]; exact List.eq_nil_of_length_eq_zero hz
                  clear HFIN hbs hstar hsz HS HFS hf
                  go_wp2
                  go_ret
                  exact ⟨rfl, rfl⟩
            · obtain rfl : false = r := by rw [← HR2.out, hv]; rfl
              simp only [isS_eq, cVoid] at hv
              clear HR2 HM
              go_wp2
              go_ret
              exact ⟨rfl, rfl⟩
      · have q : (byteAt t i == 91) = false := by simpa using hb
        have HA2 : Hid (∀ j, j < i + 1 → byteAt t j ≠ 91) := fun j hj => by
          by_cases e : j = i
          · rw [e]; exact hb
          · exact HA.out j (by omega)
        clear hb
        go_wp2
        go_roundw
        case rel => exact ⟨i + 1, by omega, rfl, by simp, HA2, trivial⟩
        case measure => simp [intOf]; omega
    · have hie : i = t.size := by omega
      subst hie
      have HK : Hid (brk t = none) := by
        show _ = _
        cases hk : brk t with
        | none => rfl
        | some k => exact absurd (HB.out.1 k hk).2.1 (HA.out k (HB.out.1 k hk).1)
      have HFIN : Hid (finS (baseS t) = r) := by
        have := HC.out
        unfold fmR at this
        rw [HK.out] at this
        exact this
      have HBZ : Hid ((t.size : Int) ≤ 4611686018427387904) := ht
      clear HC HB HA HK
      go_wp2
      go_loopw [3] (fun vb wr2 => ∃ (s : ByteArray) (k : Nat), vb = .string s ∧ Hid (StripOf (t) s k) ∧ wr2 = wr) (fun vb _ => (match vb with | .string s => s.size | _ => 0))
      case atStart => exact ⟨t, 0, by first | rfl | simp, by show _ = _; simp, rfl⟩
      case round =>
        obtain ⟨s, k, rfl, HS, rfl⟩ := hrel
        have hsz : (t).size = s.size + k := by
          have := congrArg List.length HS.out
          rw [List.length_append, List.length_replicate] at this
          exact this
        have hsl : (s.size : Int) ≤ 4611686018427387904 := by have := HBZ.out; omega
        by_cases h0 : 0 < s.size
        · obtain ⟨j, hj⟩ : ∃ j, s.size = j + 1 := ⟨s.size - 1, by omega⟩
          have h0i : 0 < (s.size : Int) := by omega
          have ixs : ∀ w, (Instr.index 9 (.string s) (.int .i64 ((s.size : Int) - 1))).run Tryd.prog w = .ok (.int .u8 (byteAt s j)) w := fun w => by
            have := index_byte s j (by omega) w
            rw [show ((j : Nat) : Int) = (s.size : Int) - 1 by omega] at this
            exact this
          have ws : wrap64 ((s.size : Int) - 1) = (s.size : Int) - 1 := by unfold wrap64; omega
          have hje : s.size - 1 = j := by omega
          by_cases hst : byteAt s j = 42
          · have qst : (byteAt s j == 42) = true := by simpa using hst
            have hstar : starS s = true := by simp [starS, hje, hst, h0]
            obtain ⟨j2, hj2, hl⟩ := starS_last hstar
            obtain rfl : j2 = j := by omega
            have HS2 : Hid (StripOf (t) (s.extract 0 j2) (k + 1)) := HS.out.step hj2 hl
            have hie : ((s.size : Int) - 1).toNat = j2 := by omega
            have HJ : Hid (s.size = j2 + 1 ∧ (s.extract 0 j2).size = j2) := ⟨hj2, by simp only [ByteArray.size_extract]; omega⟩
            clear hsz hj hl hst hj2 hstar hje
            go_wp2
            go_roundw
            case rel => exact ⟨s.extract 0 j2, k + 1, by simp [hie], HS2, trivial⟩
            case measure => simp only [hie]; have := HJ.out; omega
          · have qst : (byteAt s j == 42) = false := by simpa using hst
            have hstar : starS s = false := by simp [starS, hje, hst]
            have hbs := (HS.out.fin hstar).1
            have HFS : Hid (finS s = r) := by have := HFIN.out; rw [hbs] at this; exact this
            clear HFIN hbs hstar hst hsz HS hje hj
            by_cases h1 : isS s cChar = true
            · obtain rfl : true = r := by rw [← HFS.out]; simp [finS, h1]
              clear HFS
              simp only [isS_eq, cChar, cInt, cLong, cVoid] at h1
              go_wp2
              go_ret
              exact ⟨rfl, rfl⟩
            replace h1 : isS s cChar = false := by simpa using h1
            by_cases h2 : isS s cInt = true
            · obtain rfl : true = r := by rw [← HFS.out]; simp [finS, h1, h2]
              clear HFS
              simp only [isS_eq, cChar, cInt, cLong, cVoid] at h1 h2
              go_wp2
              go_ret
              exact ⟨rfl, rfl⟩
            replace h2 : isS s cInt = false := by simpa using h2
            by_cases h3 : isS s cLong = true
            · obtain rfl : true = r := by rw [← HFS.out]; simp [finS, h1, h2, h3]
              clear HFS
              simp only [isS_eq, cChar, cInt, cLong, cVoid] at h1 h2 h3
              go_wp2
              go_ret
              exact ⟨rfl, rfl⟩
            replace h3 : isS s cLong = false := by simpa using h3
            by_cases h4 : isS s cVoid = true
            · obtain rfl : true = r := by rw [← HFS.out]; simp [finS, h1, h2, h3, h4]
              clear HFS
              simp only [isS_eq, cChar, cInt, cLong, cVoid] at h1 h2 h3 h4
              go_wp2
              go_ret
              exact ⟨rfl, rfl⟩
            replace h4 : isS s cVoid = false := by simpa using h4
            by_cases h5 : (7 : Int) < s.size
            · have q5 : decide ((7 : Int) < s.size) = true := by simpa using h5
              have h5n : 7 < s.size := by omega
              by_cases h6 : isS (s.extract 0 7) [115, 116, 114, 117, 99, 116, 32] = true
              · obtain rfl : nameS (s.extract 7 s.size) = r := by rw [← HFS.out]; simp only [finS, h1, h2, h3, h4, q5, h6, Bool.false_or, Bool.true_and]
                have HNM : Hid (∀ w, Calls Tryd.prog 34 #[.string (s.extract 7 s.size)] w fun e w' => e = .returned (.bool (nameS (s.extract 7 s.size))) ∧ w' = w) := fun w => rNamed_any _ (by simp only [ByteArray.size_extract]; omega) w
                clear HFS
                simp only [isS_eq, cChar, cInt, cLong, cVoid] at h1 h2 h3 h4 h6
                go_wp2_with fail
                refine (HNM.out _).mono ?_
                rintro e w2 ⟨rfl, hw⟩
                replace hw := hw.symm
                subst hw
                go_wp2
                go_ret
                exact ⟨rfl, rfl⟩
              · replace h6 : isS (s.extract 0 7) [115, 116, 114, 117, 99, 116, 32] = false := by simpa using h6
                obtain rfl : false = r := by rw [← HFS.out]; simp only [finS, h1, h2, h3, h4, q5, h6, Bool.false_or, Bool.true_and, Bool.false_and]
                clear HFS
                simp only [isS_eq, cChar, cInt, cLong, cVoid] at h1 h2 h3 h4 h6
                go_wp2
                go_ret
                exact ⟨rfl, rfl⟩
            · have q5 : decide ((7 : Int) < s.size) = false := by simpa using h5
              have h5n : ¬ 7 < s.size := by omega
              obtain rfl : false = r := by rw [← HFS.out]; simp only [finS, h1, h2, h3, h4, q5, Bool.false_or, Bool.false_and]
              clear HFS
              simp only [isS_eq, cChar, cInt, cLong, cVoid] at h1 h2 h3 h4
              go_wp2
              go_ret
              exact ⟨rfl, rfl⟩
        · have hz : s.size = 0 := by omega
          have hstar : starS s = false := by simp [starS, hz]
          have hbs := (HS.out.fin hstar).1
          have HFS : Hid (finS s = r) := by have := HFIN.out; rw [hbs] at this; exact this
          have hf : finS s = false := fin_empty hz
          obtain rfl : false = r := hf.symm.trans HFS.out
          have hl : s.toList = [] := by rw [ByteArray.toList_eq]; exact List.eq_nil_of_length_eq_zero hz
          clear HFIN hbs hstar hsz HS HFS hf
          go_wp2
          go_ret
          exact ⟨rfl, rfl⟩
end Go.Proofs.YtpedfnfangaelaaDoor

