/- The document's Formed, cut, root, Elem in parse's words. -/
import Derived.Test.YtpedfnfangaelaaDoorYRef4
namespace Go.Proofs.YtpedfnfangaelaaDoor
open Go.ChangeShapes Go.WideShapes Go.ChangeAt Go.RowKit
set_option linter.unusedSimpArgs false
set_option linter.unusedVariables false

theorem cnt_stay (d : ByteArray) : ∀ (k j : Nat), (∀ m, m < j + k → digitB (byteAt d m) = true) → cnt d j = 65537 → cnt d (j + k) = 65537
  | 0, j, _, h => h
  | k + 1, j, hd, h => by
    have h1 := cnt_stay d k j (fun m hm => hd m (by omega)) h
    have h2 := hd (j + k) (by omega)
    simp only [digitB, Bool.and_eq_true, decide_eq_true_eq] at h2
    rw [show j + (k + 1) = (j + k) + 1 by omega]
    unfold cnt
    rw [h1]
    omega
theorem cnt_pos (d : ByteArray) (h0 : 49 ≤ byteAt d 0) : ∀ j, (∀ m, m < j + 1 → digitB (byteAt d m) = true) → 1 ≤ cnt d (j + 1)
  | 0, _ => by simp only [cnt]; omega
  | j + 1, hd => by
    have h1 := cnt_pos d h0 j (fun m hm => hd m (by omega))
    have h2 := hd (j + 1) (by omega)
    simp only [digitB, Bool.and_eq_true, decide_eq_true_eq] at h2
    unfold cnt
    omega
theorem rcnt_eq (t d : ByteArray) (o : Nat) : ∀ (f j : Nat) (n : Int), (∀ m, m < j + f → byteAt t (o + m) = byteAt d m ∧ digitB (byteAt d m) = true) → 0 ≤ n → min n 65537 = cnt d j → min (rcnt t f (o + j) n) 65537 = cnt d (j + f)
  | 0, j, n, _, _, h => by simpa [rcnt] using h
  | f + 1, j, n, hd, h0, h => by
    unfold rcnt
    split
    · have h1 : cnt d j = 65537 := by omega
      rw [h, h1, cnt_stay d (f + 1) j (fun m hm => (hd m hm).2) h1]
    · have hx := hd j (by omega)
      have h2 := hx.2
      simp only [digitB, Bool.and_eq_true, decide_eq_true_eq] at h2
      rw [show j + (f + 1) = (j + 1) + f by omega, show o + j + 1 = o + (j + 1) by omega, hx.1]
      refine rcnt_eq t d o f (j + 1) _ (fun m hm => hd m (by omega)) (by omega) ?_
      show _ = min (10 * cnt d j + (byteAt d j - 48)) 65537
      rw [← h]
      omega
theorem digOk_cnt {d : ByteArray} (h : digOk d = true) : 1 ≤ cnt (digs d) (digs d).size ∧ ∃ l, d.data.toList = l ++ [93] ∧ digs d = ⟨l.toArray⟩ ∧ 1 ≤ l.length ∧ ∀ m, m < l.length → digitB (byteAt (digs d) m) = true := by
  have hsz : d.size = d.data.toList.length := rfl
  have h' := h
  rw [← dOk_eq] at h'
  rcases List.eq_nil_or_concat d.data.toList with hl | ⟨l, x, hl⟩
  · unfold digOk at h; rw [hl] at h; simp [Lib.hasSuffix] at h
  · have hl' : d.data.toList = l ++ [x] := by simpa using hl
    unfold digOk at h
    rw [hl', suffix_one] at h
    simp only [Bool.and_eq_true, beq_iff_eq] at h
    obtain ⟨rfl, h1, h2, h3⟩ := h
    have hdg := digs_last hl'
    have hds : (digs d).size = l.length := by rw [hdg]; show l.toArray.size = _; simp
    have h4 := (all_byteAt digitB (digs d)).1 h3
    rw [hds] at h4
    have hlp : 1 ≤ l.length := by
      rw [hds] at h1
      simp only [Bool.not_eq_true', beq_eq_false_iff_ne] at h1
      omega
    refine ⟨?_, l, hl', hdg, hlp, h4⟩
    have h49 : 49 ≤ byteAt (digs d) 0 := by
      have := h4 0 (by omega)
      simp only [digitB, Bool.and_eq_true, decide_eq_true_eq] at this
      simp only [Bool.not_eq_true', beq_eq_false_iff_ne] at h2
      omega
    have := cnt_pos (digs d) h49 (l.length - 1) (fun m hm => h4 m (by omega))
    rw [hds, show l.length = l.length - 1 + 1 by omega]
    exact this
theorem fmR_eq (t : ByteArray) : fmR t = (parseS t).2 := by
  have hc := cut1_brk t
  unfold fmR parseS cutC
  rw [hc]
  cases hk : brk t with
  | none =>
    simp only [Bool.false_eq_true, if_false, if_true]
    rw [formOk_zero, formB_eq]
  | some i =>
    simp only [if_true]
    rw [dOk_eq]
    cases hd : digOk (t.extract (i + 1) t.size)
    · simp
    · simp only [if_true, Bool.true_and]
      rw [formOk_pos _ (digOk_cnt hd).1, formB_eq]
/-- Of a text that is a type: what cut tells. -/
theorem cutR_of {t : ByteArray} (h : (parseS t).2 = true) : DigT t ∧ (cutR t).1 = (cutC t).1 ∧ (cutR t).2.2 = (parseS t).1.isArray ∧ (cutC t).2.1 = (parseS t).1.count ∧ 0 ≤ (parseS t).1.count ∧ min (cutR t).2.1 65537 = (parseS t).1.count ∧ 0 ≤ (cutR t).2.1 := by
  have hc := cut1_brk t
  unfold parseS at h ⊢
  unfold cutC at h ⊢
  rw [hc] at h ⊢
  unfold DigT cutR
  cases hk : brk t with
  | none =>
    clear h
    simp only [Bool.false_eq_true, if_false, if_true, formS, Fm.isArray]
    exact ⟨(fun i hi => by cases hi), by first | trivial | rfl, by first | trivial | rfl | decide, by first | trivial | rfl, by first | trivial | exact Int.le_refl _, by decide, by first | trivial | exact Int.le_refl _⟩
  | some i =>
    rw [hk] at h
    simp only [if_true] at h ⊢
    cases hd : digOk (t.extract (i + 1) t.size)
    · rw [hd] at h; simp at h
    · simp only [if_true, formS, Fm.isArray]
      obtain ⟨h1, l, hl, hdg, hlp, hall⟩ := digOk_cnt hd
      have hit := (brk_spec t).1 i hk
      have hlist : (t.extract (i + 1) t.size).data.toList = t.data.toList.drop (i + 1) := by
        rw [extract_list, List.take_of_length_le]
        rw [List.length_drop]
        have : t.data.toList.length = t.size := rfl
        omega
      have hlen : l.length + 1 = t.size - (i + 1) := by
        have := congrArg List.length (hlist.symm.trans hl)
        rw [List.length_drop, List.length_append, List.length_singleton] at this
        have e : t.data.toList.length = t.size := rfl
        omega
      have hby : ∀ m, m < l.length → byteAt t (i + 1 + m) = byteAt (digs (t.extract (i + 1) t.size)) m := fun m hm => by
        have e1 := byteAt_app hl m hm
        rw [hdg, ← e1]
        unfold byteAt
        rw [hlist, List.getElem?_drop]
      have hds : (digs (t.extract (i + 1) t.size)).size = l.length := by rw [hdg]; show l.toArray.size = _; simp
      have hr := rcnt_eq t (digs (t.extract (i + 1) t.size)) (i + 1) l.length 0 0 (fun m hm => ⟨hby m (by omega), hall m (by omega)⟩) (by omega) (by simp only [cnt]; omega)
      rw [show t.size - 1 - (i + 1) = l.length by omega, hds]
      rw [Nat.zero_add, Nat.add_zero] at hr
      rw [hds] at h1
      refine ⟨fun k hke m hm1 hm2 => ?_, by trivial, by symm; simpa using (by omega : 0 < cnt (digs (t.extract (i + 1) t.size)) l.length), by trivial, by omega, hr, by omega⟩
      cases hke
      obtain ⟨q, rfl⟩ : ∃ q, m = i + 1 + q := ⟨m - (i + 1), by omega⟩
      rw [hby q (by omega)]
      exact hall q (by omega)
theorem star_size (t : ByteArray) : decide (0 < (t.size : Int) - (baseS t).size) = starS t := by
  cases hs : starS t
  · have := (StripOf.fin (b := t) (s := t) (k := 0) (by show _ = _; simp) hs).1
    rw [this]
    simp
  · obtain ⟨k, hk, hl⟩ := starS_last hs
    have : (baseS t).size ≤ k := by
      have e : (baseS t).size = (Lib.trimRightB t.data.toList 42).length := by rw [← base_list]; rfl
      rw [e, hl]
      unfold Lib.trimRightB
      rw [List.reverse_append, List.length_reverse]
      have h2 : ([42].reverse ++ (t.extract 0 k).data.toList.reverse).dropWhile (· == (42 : UInt8)) = (t.extract 0 k).data.toList.reverse.dropWhile (· == 42) := by
        simp [List.dropWhile_cons]
      rw [h2]
      have h3 := (List.dropWhile_sublist (p := (· == (42 : UInt8))) (l := (t.extract 0 k).data.toList.reverse)).length_le
      rw [List.length_reverse] at h3
      have h4 : (t.extract 0 k).data.toList.length = (t.extract 0 k).size := rfl
      rw [h4] at h3
      simp only [ByteArray.size_extract] at h3
      omega
    simp only [decide_eq_true_eq]
    omega
theorem last_list {t : ByteArray} {l : List UInt8} {x : UInt8} (h : t.data.toList = l ++ [x]) : byteAt t (t.size - 1) = (x.toNat : Int) := by
  have hz : t.size = l.length + 1 := by
    have e : t.data.toList.length = t.size := rfl
    rw [← e, h]; simp
  rw [show t.size - 1 = l.length by omega]
  exact byteAt_last h
theorem fin_last {t : ByteArray} (h : finS t = true) : 1 ≤ t.size ∧ (byteAt t (t.size - 1) == 93) = false := by
  have hz : 1 ≤ t.size := by
    rcases Nat.eq_zero_or_pos t.size with h0 | h0
    · rw [fin_empty h0] at h; cases h
    · exact h0
  refine ⟨hz, ?_⟩
  have hw : ∀ c l : List UInt8, ∀ x : UInt8, c = l ++ [x] → x ≠ 93 → isS t c = true → (byteAt t (t.size - 1) == 93) = false := fun c l x hc hx hs => by
    rw [last_list (((isS_iff _ _).1 hs).trans hc), beq_eq_false_iff_ne]
    intro e
    exact hx (UInt8.toNat_inj.1 (by have : ((93 : UInt8).toNat : Int) = 93 := rfl; omega))
  unfold finS at h
  simp only [Bool.or_eq_true, Bool.and_eq_true, decide_eq_true_eq] at h
  rcases h with h | h | h | h | ⟨h7, _, hn⟩
  · exact hw cChar [99, 104, 97] 114 rfl (by decide) h
  · exact hw cInt [105, 110] 116 rfl (by decide) h
  · exact hw cLong [108, 111, 110] 103 rfl (by decide) h
  · exact hw cVoid [118, 111, 105] 100 rfl (by decide) h
  · rcases List.eq_nil_or_concat t.data.toList with hl | ⟨l, x, hl⟩
    · have e : t.data.toList.length = t.size := rfl
      rw [hl] at e
      simp at e
      omega
    · have hl' : t.data.toList = l ++ [x] := by simpa using hl
      rw [last_list hl', beq_eq_false_iff_ne]
      intro e93
      have hx : x ∈ (t.extract 7 t.size).data.toList := by
        rw [extract_list, List.take_of_length_le (by rw [List.length_drop]; exact Nat.le_refl _), hl']
        have hlen : 7 ≤ l.length := by
          have e : t.data.toList.length = t.size := rfl
          rw [hl'] at e
          simp at e
          omega
        rw [List.drop_append_of_le_length hlen]
        simp
      have := name_bytes hn x hx
      rw [e93] at this
      revert this; decide
theorem last_of {t : ByteArray} (h : (parseS t).2 = true) : 1 ≤ t.size ∧ ((byteAt t (t.size - 1) == 93) = (parseS t).1.isArray) ∧ ((parseS t).1.isArray = false → (byteAt t (t.size - 1) == 42) = (parseS t).1.isPointer) := by
  have hf := h
  rw [← fmR_eq] at hf
  obtain ⟨_, _, ha, _, _, _, _⟩ := cutR_of h
  unfold cutR at ha
  unfold fmR at hf
  cases hk : brk t with
  | none =>
    rw [hk] at ha hf
    simp only at ha hf
    have hst : (parseS t).1.stars = (t.size : Int) - (baseS t).size := by
      have hc := cut1_brk t
      rw [hk] at hc
      unfold parseS cutC
      rw [hc]
      simp [formS]
    have hpt : (parseS t).1.isPointer = starS t := by
      unfold Fm.isPointer
      rw [← ha, hst, star_size]
      simp
    cases hs : starS t
    · have hb := (StripOf.fin (b := t) (s := t) (k := 0) (by show _ = _; simp) hs).1
      rw [hb] at hf
      obtain ⟨h1, h2⟩ := fin_last hf
      refine ⟨h1, by rw [h2, ← ha], fun _ => ?_⟩
      rw [hpt, hs]
      unfold starS at hs
      have : decide (0 < (t.size : Int)) = true := by simp; omega
      rw [this, Bool.true_and] at hs
      exact hs
    · have hs' := hs
      unfold starS at hs'
      simp only [Bool.and_eq_true, decide_eq_true_eq, beq_iff_eq] at hs'
      refine ⟨by omega, ?_, fun _ => ?_⟩
      · rw [← ha, hs'.2]; rfl
      · rw [hpt, hs, hs'.2]; rfl
  | some i =>
    rw [hk] at ha hf
    simp only at ha hf
    simp only [Bool.and_eq_true] at hf
    obtain ⟨hd, _⟩ := hf
    have hit := (brk_spec t).1 i hk
    rw [dOk_eq] at hd
    obtain ⟨_, l, hl, _⟩ := digOk_cnt hd
    have hlist : (t.extract (i + 1) t.size).data.toList = t.data.toList.drop (i + 1) := by
      rw [extract_list, List.take_of_length_le]
      rw [List.length_drop]
      have : t.data.toList.length = t.size := rfl
      omega
    have ht : t.data.toList = (t.data.toList.take (i + 1) ++ l) ++ [93] := by
      rw [List.append_assoc, ← hl, hlist, List.take_append_drop]
    refine ⟨by omega, ?_, fun h0 => by rw [← ha] at h0; cases h0⟩
    rw [last_list ht, ← ha]
    rfl
set_option maxHeartbeats 2000000 in
theorem rElem_any (t : ByteArray) (ht : (t.size : Int) ≤ 4611686018427387904) (w : World) : Calls Tryd.prog 18 #[.string t] w (retP (.tuple #[.string (elF t).1, .bool (elF t).2]) w) := by
  have HF : Hid (∀ w, Calls Tryd.prog 36 #[.string t] w fun e w' => e = .returned (.bool (parseS t).2) ∧ w' = w) := fun w => fmR_eq t ▸ rFormed_any t ht w
  unfold elF
  cases hp : (parseS t).2
  · rw [hp] at HF
    simp only [Bool.false_and, Bool.false_eq_true, if_false]
    go_enter Tryd.func18, Tryd.ntmps18
    go_wp2_with fail
    refine (HF.out _).mono ?_
    rintro e w1 ⟨rfl, hw⟩
    replace hw := hw.symm
    subst hw
    go_wp2
    go_ret2
    exact ⟨rfl, Below.refl _ _⟩
  · rw [hp] at HF
    simp only [Bool.true_and]
    obtain ⟨h1, h93, h42⟩ := last_of hp
    obtain ⟨hd, hc1, _⟩ := cutR_of hp
    have HCU : Hid (∀ w, Calls Tryd.prog 38 #[.string t] w (retP (.tuple #[.string (cutR t).1, .int .i64 (cutR t).2.1, .bool (cutR t).2.2]) w)) := fun w => rCut_any t ht hd w
    obtain ⟨j, hj⟩ : ∃ j, t.size = j + 1 := ⟨t.size - 1, by omega⟩
    have hje : t.size - 1 = j := by omega
    have q0n : 0 < t.size := by omega
    rw [hje] at h93 h42 ⊢
    have ixl : ∀ w, (Instr.index 9 (.string t) (.int .i64 ((t.size : Int) - 1))).run Tryd.prog w = .ok (.int .u8 (byteAt t j)) w := fun w => by
      have := index_byte t j (by omega) w
      rw [show ((j : Nat) : Int) = (t.size : Int) - 1 by omega] at this
      exact this
    have ws : wrap64 ((t.size : Int) - 1) = (t.size : Int) - 1 := by unfold wrap64; omega
    have hje2 : ((t.size : Int) - 1).toNat = j := by omega
    cases ha : (parseS t).1.isArray
    · rw [ha] at h93
      have h42' := h42 ha
      clear h42
      simp only [Bool.false_eq_true, if_false]
      cases hpt : (parseS t).1.isPointer
      · rw [hpt] at h42'
        simp only [Bool.false_eq_true, if_false]
        clear hj hje HCU hc1 hd
        go_enter Tryd.func18, Tryd.ntmps18
        go_wp2_with fail
        refine (HF.out _).mono ?_
        rintro e w1 ⟨rfl, hw⟩
        replace hw := hw.symm
        subst hw
        go_wp2
        go_ret2
        exact ⟨rfl, Below.refl _ _⟩
      · rw [hpt] at h42'
        simp only [if_true]
        clear hj hje HCU hc1 hd
        go_enter Tryd.func18, Tryd.ntmps18
        go_wp2_with fail
        refine (HF.out _).mono ?_
        rintro e w1 ⟨rfl, hw⟩
        replace hw := hw.symm
        subst hw
        go_wp2
        go_ret2
        exact ⟨by simp [hje2], Below.refl _ _⟩
    · rw [ha] at h93
      simp only [if_true]
      have hel : t.extract 0 (Lib.indexByte t.data.toList 91).toNat = (cutR t).1 := by
        have hix := isArray_ix t ha
        unfold cutR brk
        rw [if_pos hix]
      rw [hel]
      generalize cutR t = c at *
      obtain ⟨b, c1, c2⟩ := c
      dsimp only at *
      clear hj hje hd hel hc1 h42
      go_enter Tryd.func18, Tryd.ntmps18
      go_wp2_with fail
      refine (HF.out _).mono ?_
      rintro e w1 ⟨rfl, hw⟩
      replace hw := hw.symm
      subst hw
      dsimp only
      go_wp2_with fail
      refine (HCU.out _).mono ?_
      rintro e w2 ⟨rfl, hb2⟩
      go_wp2
      go_ret2
      exact ⟨rfl, hb2⟩
end Go.Proofs.YtpedfnfangaelaaDoor

