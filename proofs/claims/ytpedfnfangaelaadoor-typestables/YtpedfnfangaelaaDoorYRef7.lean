/- The document's own answer for types: contract of Size, where Places keeps its own. -/
import Derived.Test.YtpedfnfangaelaaDoorYRef6
namespace Go.Proofs.YtpedfnfangaelaaDoor
open Go.ChangeShapes Go.WideShapes Go.ChangeAt Go.RowKit
set_option linter.unusedSimpArgs false
set_option linter.unusedVariables false

theorem base_parse {t : ByteArray} (h : (parseS t).2 = true) : (parseS t).1.stars = ((cutC t).1.size : Int) - (baseS (cutC t).1).size ∧
    ((7 < (baseS (cutC t).1).size ∧ isS (parseS t).1.word cStruct = true ∧ (parseS t).1.name = (baseS (cutC t).1).extract 7 (baseS (cutC t).1).size) ∨
     ((baseS (cutC t).1).size ≤ 7 ∧ (parseS t).1.word = baseS (cutC t).1 ∧ isS (baseS (cutC t).1) cStruct = false ∧ (isS (baseS (cutC t).1) cChar = true ∨ isS (baseS (cutC t).1) cInt = true ∨ isS (baseS (cutC t).1) cLong = true ∨ isS (baseS (cutC t).1) cVoid = true))) := by
  unfold parseS at *
  by_cases hok : (cutC t).2.2 = true
  · rw [if_pos hok] at h ⊢
    dsimp only [formS] at *
    generalize (cutC t).1 = r at *
    generalize (cutC t).2.1 = c at *
    refine ⟨rfl, ?_⟩
    unfold formOk at h
    generalize baseS r = b at *
    have hsz : b.data.toList.length = b.size := rfl
    by_cases hf : (cut1 b 32).2.2 = true
    · rw [if_pos hf] at h
      simp only [Bool.and_eq_true] at h
      refine .inl ?_
      unfold cut1 at *
      split at hf
      · rename_i h0
        rw [if_pos h0] at h ⊢
        dsimp only at h ⊢
        have hlt := indexByte_lt b.data.toList 32
        obtain ⟨n, hn⟩ : ∃ n : Nat, Lib.indexByte b.data.toList 32 = (n : Int) := ⟨(Lib.indexByte b.data.toList 32).toNat, by omega⟩
        rw [hn, Int.toNat_natCast] at h ⊢
        rw [hn] at hlt
        have hl1 := (isS_iff _ _).1 h.1
        rw [extract_list, List.drop_zero, Nat.sub_zero] at hl1
        have hn6 : n = 6 := by
          have := congrArg List.length hl1
          rw [List.length_take, hsz] at this
          simp [cStruct] at this
          omega
        subst hn6
        refine ⟨?_, h.1, rfl⟩
        rcases Nat.lt_or_ge 7 b.size with h7 | h7
        · exact h7
        · exfalso
          have : (b.extract (6 + 1) b.size).size = 0 := by simp only [ByteArray.size_extract]; omega
          have h9 := h.2
          simp [nameS, this] at h9
      · simp at hf
    · rw [if_neg hf] at h
      refine .inr ?_
      have hw : (cut1 b 32).1 = b := by
        unfold cut1 at hf ⊢
        split
        · rename_i h0; rw [if_pos h0] at hf; simp at hf
        · rfl
      rw [hw] at h ⊢
      have hcase : isS b cChar = true ∨ isS b cInt = true ∨ isS b cLong = true ∨ isS b cVoid = true := by
        by_cases hv : isS b cVoid = true
        · exact .inr (.inr (.inr hv))
        · rw [if_neg hv] at h
          simp only [intS, Bool.or_eq_true] at h
          rcases h with h | h | h
          · exact .inl h
          · exact .inr (.inl h)
          · exact .inr (.inr (.inl h))
      have hl : b.data.toList = cChar ∨ b.data.toList = cInt ∨ b.data.toList = cLong ∨ b.data.toList = cVoid := by
        rcases hcase with h | h | h | h
        · exact .inl ((isS_iff _ _).1 h)
        · exact .inr (.inl ((isS_iff _ _).1 h))
        · exact .inr (.inr (.inl ((isS_iff _ _).1 h)))
        · exact .inr (.inr (.inr ((isS_iff _ _).1 h)))
      refine ⟨?_, rfl, ?_, hcase⟩
      · rw [← hsz]
        rcases hl with h | h | h | h <;> rw [h] <;> decide
      · unfold isS
        rcases hl with h | h | h | h <;> rw [h] <;> decide
  · rw [if_neg hok] at h; cases h
/-- A size with its brackets. -/
def resF (f : Fm) (S A : Int) : Int × Int × Int := if f.isArray = true then (if 65536 / S < f.count then (0, 0, 2) else (f.count * S, A, 0)) else (S, A, 0)
theorem szF_res {T : Tab} {t : ByteArray} {S A : Int} (h : (parseS t).2 = true) (hs : sgF T (parseS t).1 = (S, A, true)) : szF T t = resF (parseS t).1 S A := by
  unfold szF resF
  rw [h, hs]
  simp
theorem szF_no {T : Tab} {t : ByteArray} {S A : Int} (h : (parseS t).2 = true) (hs : sgF T (parseS t).1 = (S, A, false)) : szF T t = (0, 0, 5) := by
  unfold szF
  rw [h, hs]
  simp
set_option maxRecDepth 100000 in
set_option maxHeartbeats 16000000 in
theorem rSize_of (lv : Value) (l : List St) (T : Tab) (most : Nat) (hN : T.names = namesOf l) (hM : T.shapes.length = most) (hG : GoodT T) (hm : (most : Int) ≤ 4611686018427387904)
    (HPL0 : ∀ (k : Nat) (y : Shp) w', T.shapes[k]? = some y → RStAt w' lv l → Calls Tryd.prog 16 #[lv, .int .i64 (k : Int)] w' fun e w'' => ∃ pa pn pc, e = .returned (.tuple #[.slice pa pn pc, .int .i64 y.size, .int .i64 y.align, .int .i64 0]) ∧ 1 ≤ pn ∧ (pn : Int) ≤ 4611686018427387904 ∧ Below w'.heap.size w' w'')
    (t : ByteArray) (ht : t.size ≤ 281474976710656) (w : World) (hl : RStAt w lv l) :
    Calls Tryd.prog 17 #[lv, .int .i64 (most : Int), .string t] w (retP (.tuple #[.int .i64 (szF T t).1, .int .i64 (szF T t).2.1, .int .i64 (szF T t).2.2]) w) := by
  have HPL : Hid (∀ (k : Nat) (y : Shp) w', T.shapes[k]? = some y → RStAt w' lv l → Calls Tryd.prog 16 #[lv, .int .i64 (k : Int)] w' fun e w'' => ∃ pa pn pc, e = .returned (.tuple #[.slice pa pn pc, .int .i64 y.size, .int .i64 y.align, .int .i64 0]) ∧ 1 ≤ pn ∧ (pn : Int) ≤ 4611686018427387904 ∧ Below w'.heap.size w' w'') := HPL0
  have HL : Hid (RStAt w lv l) := hl
  have HG : Hid (GoodT T ∧ T.names = namesOf l ∧ T.shapes.length = most) := ⟨hG, hN, hM⟩
  clear HPL0 hl hG hN hM
  have HF : Hid (∀ w, Calls Tryd.prog 36 #[.string t] w fun e w' => e = .returned (.bool (parseS t).2) ∧ w' = w) := fun w => fmR_eq t ▸ rFormed_any t (by omega) w
  cases hok : (parseS t).2
  · rw [hok] at HF
    have hz : szF T t = (0, 0, 5) := by unfold szF; rw [hok]; rfl
    rw [hz]
    clear hz hok
    go_enter Tryd.func17, Tryd.ntmps17
    go_wp2_with fail
    refine (HF.out _).mono ?_
    rintro e w1 ⟨rfl, hw⟩
    replace hw := hw.symm
    subst hw
    go_wp2
    go_ret3
    exact ⟨rfl, Below.refl _ _⟩
  rw [hok] at HF
  by_cases hv : isS t cVoid = true
  · have hz : szF T t = (0, 0, 5) := by
      have ht : t = bVoid := ba_ext ((isS_iff _ _).1 hv)
      subst ht
      have h1 : parseS bVoid = (⟨bVoid, ⟨#[]⟩, 0, 0⟩, true) := by kernel_rfl
      refine szF_no (S := 0) (A := 0) (by rw [h1]) ?_
      rw [h1]
      rfl
    rw [hz]
    simp only [isS_eq, cVoid] at hv
    clear hz hok
    go_enter Tryd.func17, Tryd.ntmps17
    go_wp2_with fail
    refine (HF.out _).mono ?_
    rintro e w1 ⟨rfl, hw⟩
    replace hw := hw.symm
    subst hw
    go_wp2
    go_ret3
    exact ⟨rfl, Below.refl _ _⟩
  replace hv : isS t cVoid = false := by simpa using hv
  obtain ⟨hd, hc1, harr, _, hc0, hmin, hn0⟩ := cutR_of hok
  obtain ⟨hstar, hbase⟩ := base_parse hok
  have HCU : Hid (∀ w, Calls Tryd.prog 38 #[.string t] w (retP (.tuple #[.string (cutR t).1, .int .i64 (cutR t).2.1, .bool (cutR t).2.2]) w)) := fun w => rCut_any t (by omega) hd w
  have HRO : Hid (∀ w, Calls Tryd.prog 37 #[.string t] w (retP (.tuple #[.string (baseS (cutR t).1), .int .i64 (((cutR t).1.size : Int) - (baseS (cutR t).1).size)]) w)) := fun w => rRoot_any t (by omega) hd w
  have HRES : Hid (∀ S A, sgF T (parseS t).1 = (S, A, true) → szF T t = resF (parseS t).1 S A) := fun S A h => szF_res hok h
  have HNO : Hid (∀ S A, sgF T (parseS t).1 = (S, A, false) → szF T t = (0, 0, 5)) := fun S A h => szF_no hok h
  have hvs : (parseS t).1.stars = 0 → isS (baseS (cutC t).1) cVoid = true → False := fun hs hb => by
    have hb2 : baseS (cutC t).1 = (cutC t).1 := base_full (by rw [hstar] at hs; omega)
    rw [hb2] at hb
    have hf := hok
    rw [← fmR_eq] at hf
    unfold fmR at hf
    have hc := cut1_brk t
    unfold cutC at hb
    rw [hc] at hb
    cases hk : brk t with
    | none =>
      rw [hk] at hb
      simp only [Bool.false_eq_true, if_false] at hb
      rw [hb] at hv
      cases hv
    | some i =>
      rw [hk] at hb hf
      simp only [Bool.and_eq_true, Bool.not_eq_true', dOk_eq] at hf
      simp only [if_true] at hb
      rw [if_pos hf.1, hf.2.1] at hb
      cases hb
  rw [← hc1] at hstar hbase hvs
  have hbz : (baseS (cutR t).1).size ≤ 281474976710656 := by
    have h1 := size_baseS (cutR t).1
    have h2 := size_cutC t
    rw [← hc1] at h2
    omega
  have hst0 : 0 ≤ ((cutR t).1.size : Int) - (baseS (cutR t).1).size := by have := size_baseS (cutR t).1; omega
  rw [harr] at HCU
  generalize baseS (cutR t).1 = b at *
  generalize hst : ((cutR t).1.size : Int) - b.size = st at *
  generalize (cutR t).1 = rr at *
  generalize (cutR t).2.1 = n at *
  generalize szF T t = z at *
  generalize (parseS t).1 = f at *
  clear hst hc1 harr hd hok
  have HMN : Hid (min n 65537 = f.count ∧ 0 ≤ n) := ⟨hmin, hn0⟩
  clear hmin hc0
  simp only [isS_eq, cVoid] at hv
  have HFI : Hid (∀ w', RStAt w' lv l → Calls Tryd.prog 35 #[lv, .string (b.extract 7 b.size)] w' fun e w'' => e = .returned (.int .i64 (ixI (ixOf (namesOf l) (b.extract 7 b.size)))) ∧ w'' = w') := fun w' h => rFind_any lv l _ w' h
  rcases hbase with ⟨h7, hwd, hnm⟩ | ⟨h7, hwd, hns, hcase⟩
  · have q7 : decide ((7 : Int) < b.size) = true := by simp; omega
    have h7i : (7 : Int) ≤ b.size := by omega
    have hix : ixOf T.names f.name = ixOf (namesOf l) (b.extract 7 b.size) := by rw [HG.out.2.1, hnm]
    cases hk : ixOf (namesOf l) (b.extract 7 b.size) with
    | none =>
      rw [hk] at HFI hix
      simp only [ixI] at HFI
      have hsg : sgF T f = (0, 0, false) := by
        unfold sgF shF ptF Fm.isStruct
        rw [hwd, hix]
        by_cases hs0 : f.stars = 0
        · simp [hs0]
        · have : (f.stars == 0) = false := by simpa using hs0
          simp [this]
          omega
      have hz : z = (0, 0, 5) := HNO.out _ _ (hsg)
      subst hz
      clear HRES HNO
      go_enter Tryd.func17, Tryd.ntmps17
      go_wp2_with fail
      refine (HF.out _).mono ?_
      rintro e w1 ⟨rfl, hw⟩
      replace hw := hw.symm
      subst hw
      dsimp only
      go_wp2_with fail
      refine (HRO.out _).mono ?_
      rintro e w2 ⟨rfl, hb2⟩
      dsimp only
      go_wp2_with fail
      refine (HFI.out _ (HL.out.keep hb2)).mono ?_
      rintro e w3 ⟨rfl, hw⟩
      replace hw := hw.symm
      subst hw
      dsimp only
      go_wp2_with fail
      go_ret3
      exact ⟨rfl, hb2⟩
    | some j =>
      rw [hk] at HFI hix
      simp only [ixI] at HFI
      have j0 : (0 : Int) ≤ j := by omega
      have qj : decide ((j : Int) < 0) = false := by simp
      by_cases hs0 : st = 0
      · have qs0 : (st == 0) = true := by simpa using hs0
        have hist : f.isStruct = true := by unfold Fm.isStruct; rw [hwd, hstar, hs0]; rfl
        by_cases hjm : j < most
        · have qjm : decide ((most : Int) ≤ (j : Int)) = false := by simp; omega
          have hyg := List.getElem?_eq_getElem (l := T.shapes) (i := j) (by rw [HG.out.2.2]; exact hjm)
          obtain ⟨y, hye⟩ : ∃ y, T.shapes[j]'(by rw [HG.out.2.2]; exact hjm) = y := ⟨_, rfl⟩
          rw [hye] at hyg
          clear hye
          have hgy := HG.out.1 y (List.mem_of_getElem? hyg)
          have hsg : sgF T f = (y.size, y.align, true) := by
            unfold sgF
            rw [if_pos hist]
            unfold shF
            rw [hix]
            dsimp only
            rw [hyg]
          have HPY : Hid (∀ w', RStAt w' lv l → Calls Tryd.prog 16 #[lv, .int .i64 (j : Int)] w' fun e w'' => ∃ pa pn pc, e = .returned (.tuple #[.slice pa pn pc, .int .i64 y.size, .int .i64 y.align, .int .i64 0]) ∧ 1 ≤ pn ∧ (pn : Int) ≤ 4611686018427387904 ∧ Below w'.heap.size w' w'') := fun w' h => HPL.out j y w' hyg h
          obtain ⟨_, ysz, yal⟩ := y
          dsimp only at *
          have hy1 := hgy.1
          have hy2 := hgy.2.1
          have hyn : ¬ ysz = 0 := by omega
          obtain ⟨qq, hqq⟩ : ∃ qq, 65536 / ysz = qq := ⟨_, rfl⟩
          have e1 : (65536 : Int).tdiv ysz = qq := by rw [← hqq]; exact Int.tdiv_eq_ediv_of_nonneg (by omega)
          have hq1 : 0 ≤ qq := by rw [← hqq]; exact Int.ediv_nonneg (by omega) (by omega)
          have hq2 : qq ≤ 65536 := by rw [← hqq]; exact Int.ediv_le_self _ (by omega)
          have wq : wrap64 qq = qq := by unfold wrap64; omega
          clear hyg hgy HPL
          have HSG : Hid (sgF T f = (ysz, yal, true)) := hsg
          have qs : decide ((65536 : Int) < ysz) = false := by simp; omega
          cases ha : f.isArray
          · have hz : z = (ysz, yal, 0) := by rw [HRES.out _ _ HSG.out]; unfold resF; rw [ha]; rfl
            subst hz
            rw [ha] at HCU
            clear HRES HNO HSG
            go_enter Tryd.func17, Tryd.ntmps17
            go_wp2_with fail
            refine (HF.out _).mono ?_
            rintro e w1 ⟨rfl, hw⟩
            replace hw := hw.symm
            subst hw
            dsimp only
            go_wp2_with fail
            refine (HRO.out _).mono ?_
            rintro e w2 ⟨rfl, hb2⟩
            dsimp only
            go_wp2_with fail
            refine (HFI.out _ (HL.out.keep hb2)).mono ?_
            rintro e w3 ⟨rfl, hw⟩
            replace hw := hw.symm
            subst hw
            dsimp only
            go_wp2_with fail
            refine (HPY.out _ (HL.out.keep hb2)).mono ?_
            rintro e w4 ⟨pa, pn, pc, rfl, hp1, hp2, hb4⟩
            have qp : ((pn : Int) == 0) = false := by simp; omega
            have qpn : ¬ pn = 0 := by omega
            have hb40 := bel_trans hb2 hb4
            clear hb4 hp1
            dsimp only
            go_wp2_with fail
            refine (HCU.out _).mono ?_
            rintro e w5 ⟨rfl, hb5⟩
            go_wp2
            go_ret3
            exact ⟨rfl, bel_trans hb40 hb5⟩
          · rw [ha] at HCU
            have hcp : 0 < f.count := by simpa [Fm.isArray] using ha
            by_cases hlt : qq < n
            · have ql : decide (qq < n) = true := by simpa using hlt
              have hz : z = (0, 0, 2) := by
                rw [HRES.out _ _ HSG.out]
                unfold resF
                rw [ha, if_pos rfl, if_pos (by rw [hqq]; have h1 := HMN.out.1; omega)]
              subst hz
              clear HRES HNO HSG
              go_enter Tryd.func17, Tryd.ntmps17
              go_wp2_with fail
              refine (HF.out _).mono ?_
              rintro e w1 ⟨rfl, hw⟩
              replace hw := hw.symm
              subst hw
              dsimp only
              go_wp2_with fail
              refine (HRO.out _).mono ?_
              rintro e w2 ⟨rfl, hb2⟩
              dsimp only
              go_wp2_with fail
              refine (HFI.out _ (HL.out.keep hb2)).mono ?_
              rintro e w3 ⟨rfl, hw⟩
              replace hw := hw.symm
              subst hw
              dsimp only
              go_wp2_with fail
              refine (HPY.out _ (HL.out.keep hb2)).mono ?_
              rintro e w4 ⟨pa, pn, pc, rfl, hp1, hp2, hb4⟩
              have qp : ((pn : Int) == 0) = false := by simp; omega
              have qpn : ¬ pn = 0 := by omega
              have hb40 := bel_trans hb2 hb4
              clear hb4 hp1
              dsimp only
              go_wp2_with fail
              refine (HCU.out _).mono ?_
              rintro e w5 ⟨rfl, hb5⟩
              go_wp2
              go_ret3
              exact ⟨rfl, bel_trans hb40 hb5⟩
            · have ql : decide (qq < n) = false := by simpa using hlt
              have hcn : f.count = n := by have h1 := HMN.out.1; omega
              have hz : z = (ysz * n, yal, 0) := by
                rw [HRES.out _ _ HSG.out]
                unfold resF
                rw [ha, if_pos rfl, if_neg (by rw [hqq]; omega), hcn]
                refine Prod.ext ?_ rfl
                exact Int.mul_comm _ _
              subst hz
              have hmul : ysz * n ≤ 65536 := by
                have h2 : qq * ysz ≤ 65536 := by rw [← hqq]; exact Int.ediv_mul_le _ (by omega)
                have h3 : n * ysz ≤ qq * ysz := Int.mul_le_mul_of_nonneg_right (by omega) (by omega)
                rw [Int.mul_comm]; omega
              have hmul0 : 0 ≤ ysz * n := Int.mul_nonneg (by omega) HMN.out.2
              have wm : wrap64 (ysz * n) = ysz * n := by unfold wrap64; omega
              have qm : decide (65536 < ysz * n) = false := by simp; omega
              clear hmul hmul0
              have HWM : Hid (wrap64 (ysz * n) = ysz * n) := wm
              clear HRES HNO HSG
              go_enter Tryd.func17, Tryd.ntmps17
              go_wp2_with fail
              refine (HF.out _).mono ?_
              rintro e w1 ⟨rfl, hw⟩
              replace hw := hw.symm
              subst hw
              dsimp only
              go_wp2_with fail
              refine (HRO.out _).mono ?_
              rintro e w2 ⟨rfl, hb2⟩
              dsimp only
              go_wp2_with fail
              refine (HFI.out _ (HL.out.keep hb2)).mono ?_
              rintro e w3 ⟨rfl, hw⟩
              replace hw := hw.symm
              subst hw
              dsimp only
              go_wp2_with fail
              refine (HPY.out _ (HL.out.keep hb2)).mono ?_
              rintro e w4 ⟨pa, pn, pc, rfl, hp1, hp2, hb4⟩
              have qp : ((pn : Int) == 0) = false := by simp; omega
              have qpn : ¬ pn = 0 := by omega
              have hb40 := bel_trans hb2 hb4
              clear hb4 hp1
              dsimp only
              go_wp2_with fail
              refine (HCU.out _).mono ?_
              rintro e w5 ⟨rfl, hb5⟩
              go_wp2
              go_ret3
              exact ⟨by show Ending.returned (Value.tuple #[.int .i64 (wrap64 (ysz * n)), .int .i64 yal, .int .i64 0]) = Ending.returned (Value.tuple #[.int .i64 (ysz * n), .int .i64 yal, .int .i64 0]); rw [HWM.out], bel_trans hb40 hb5⟩
        · have qjm : decide ((most : Int) ≤ (j : Int)) = true := by simp; omega
          have hsg : sgF T f = (0, 0, false) := by
            unfold sgF
            rw [if_pos hist]
            unfold shF
            rw [hix]
            dsimp only
            rw [List.getElem?_eq_none (by rw [HG.out.2.2]; omega)]
          have hz : z = (0, 0, 5) := HNO.out _ _ (hsg)
          subst hz
          clear HRES HNO
          go_enter Tryd.func17, Tryd.ntmps17
          go_wp2_with fail
          refine (HF.out _).mono ?_
          rintro e w1 ⟨rfl, hw⟩
          replace hw := hw.symm
          subst hw
          dsimp only
          go_wp2_with fail
          refine (HRO.out _).mono ?_
          rintro e w2 ⟨rfl, hb2⟩
          dsimp only
          go_wp2_with fail
          refine (HFI.out _ (HL.out.keep hb2)).mono ?_
          rintro e w3 ⟨rfl, hw⟩
          replace hw := hw.symm
          subst hw
          dsimp only
          go_wp2_with fail
          go_ret3
          exact ⟨rfl, hb2⟩
      · have qs0 : (st == 0) = false := by simpa using hs0
        have hsg : sgF T f = (8, 8, true) := by
          unfold sgF Fm.isStruct ptF
          have h1 : (f.stars == 0) = false := by rw [hstar]; exact qs0
          rw [hwd, h1, hix]
          have h2 : 0 < f.stars := by omega
          simp [h2]
        have HSG : Hid (sgF T f = (8, 8, true)) := hsg
        have qs : decide ((65536 : Int) < 8) = false := by decide
        cases ha : f.isArray
        · have hz : z = (8, 8, 0) := by rw [HRES.out _ _ HSG.out]; unfold resF; rw [ha]; rfl
          subst hz
          rw [ha] at HCU
          clear HRES HNO HSG
          go_enter Tryd.func17, Tryd.ntmps17
          go_wp2_with fail
          refine (HF.out _).mono ?_
          rintro e w1 ⟨rfl, hw⟩
          replace hw := hw.symm
          subst hw
          dsimp only
          go_wp2_with fail
          refine (HRO.out _).mono ?_
          rintro e w2 ⟨rfl, hb2⟩
          dsimp only
          go_wp2_with fail
          refine (HFI.out _ (HL.out.keep hb2)).mono ?_
          rintro e w3 ⟨rfl, hw⟩
          replace hw := hw.symm
          subst hw
          dsimp only
          go_wp2_with fail
          refine (HCU.out _).mono ?_
          rintro e w5 ⟨rfl, hb5⟩
          go_wp2
          go_ret3
          exact ⟨rfl, bel_trans hb2 hb5⟩
        · rw [ha] at HCU
          have hcp : 0 < f.count := by simpa [Fm.isArray] using ha
          by_cases hlt : 8192 < n
          · have ql : decide (8192 < n) = true := by simpa using hlt
            have hz : z = (0, 0, 2) := by
              rw [HRES.out _ _ HSG.out]
              unfold resF
              rw [ha, if_pos rfl, if_pos (by have h1 := HMN.out.1; omega)]
            subst hz
            clear HRES HNO HSG
            go_enter Tryd.func17, Tryd.ntmps17
            go_wp2_with fail
            refine (HF.out _).mono ?_
            rintro e w1 ⟨rfl, hw⟩
            replace hw := hw.symm
            subst hw
            dsimp only
            go_wp2_with fail
            refine (HRO.out _).mono ?_
            rintro e w2 ⟨rfl, hb2⟩
            dsimp only
            go_wp2_with fail
            refine (HFI.out _ (HL.out.keep hb2)).mono ?_
            rintro e w3 ⟨rfl, hw⟩
            replace hw := hw.symm
            subst hw
            dsimp only
            go_wp2_with fail
            refine (HCU.out _).mono ?_
            rintro e w5 ⟨rfl, hb5⟩
            go_wp2
            go_ret3
            exact ⟨rfl, bel_trans hb2 hb5⟩
          · have ql : decide (8192 < n) = false := by simpa using hlt
            have hcn : f.count = n := by have h1 := HMN.out.1; omega
            have hz : z = (8 * n, 8, 0) := by
              rw [HRES.out _ _ HSG.out]
              unfold resF
              rw [ha, if_pos rfl, if_neg (by omega), hcn]
              refine Prod.ext ?_ rfl
              show n * 8 = 8 * n; omega
            subst hz
            have wm : wrap64 (8 * n) = 8 * n := by unfold wrap64; have h1 := HMN.out.2; omega
            have qm : decide (65536 < 8 * n) = false := by simp; omega
            have HWM : Hid (wrap64 (8 * n) = 8 * n) := wm
            clear HRES HNO HSG
            go_enter Tryd.func17, Tryd.ntmps17
            go_wp2_with fail
            refine (HF.out _).mono ?_
            rintro e w1 ⟨rfl, hw⟩
            replace hw := hw.symm
            subst hw
            dsimp only
            go_wp2_with fail
            refine (HRO.out _).mono ?_
            rintro e w2 ⟨rfl, hb2⟩
            dsimp only
            go_wp2_with fail
            refine (HFI.out _ (HL.out.keep hb2)).mono ?_
            rintro e w3 ⟨rfl, hw⟩
            replace hw := hw.symm
            subst hw
            dsimp only
            go_wp2_with fail
            refine (HCU.out _).mono ?_
            rintro e w5 ⟨rfl, hb5⟩
            go_wp2
            go_ret3
            exact ⟨rfl, bel_trans hb2 hb5⟩
  · have q7 : decide ((7 : Int) < b.size) = false := by simp; omega
    have hist : f.isStruct = false := by unfold Fm.isStruct; rw [hwd, hns]; rfl
    clear HFI HPL
    by_cases hs0 : st = 0
    · have qs0 : (st == 0) = true := by simpa using hs0
      have hs00 : ¬ 0 < f.stars := by omega
      by_cases h1 : isS b cChar = true
      · have hsg : sgF T f = (1, 1, true) := by
          unfold sgF
          rw [hist, if_neg (by decide), if_neg hs00, hwd, if_pos h1]
        simp only [isS_eq, cChar] at h1
        have HSG : Hid (sgF T f = (1, 1, true)) := hsg
        have qs : decide ((65536 : Int) < 1) = false := by decide
        cases ha : f.isArray
        · have hz : z = (1, 1, 0) := by rw [HRES.out _ _ HSG.out]; unfold resF; rw [ha]; rfl
          subst hz
          rw [ha] at HCU
          clear HRES HNO HSG
          go_enter Tryd.func17, Tryd.ntmps17
          go_wp2_with fail
          refine (HF.out _).mono ?_
          rintro e w1 ⟨rfl, hw⟩
          replace hw := hw.symm
          subst hw
          dsimp only
          go_wp2_with fail
          refine (HRO.out _).mono ?_
          rintro e w2 ⟨rfl, hb2⟩
          dsimp only
          go_wp2_with fail
          refine (HCU.out _).mono ?_
          rintro e w5 ⟨rfl, hb5⟩
          go_wp2
          go_ret3
          exact ⟨rfl, bel_trans hb2 hb5⟩
        · rw [ha] at HCU
          have hcp : 0 < f.count := by simpa [Fm.isArray] using ha
          by_cases hlt : 65536 < n
          · have ql : decide (65536 < n) = true := by simpa using hlt
            have hz : z = (0, 0, 2) := by
              rw [HRES.out _ _ HSG.out]
              unfold resF
              rw [ha, if_pos rfl, if_pos (by have h1 := HMN.out.1; omega)]
            subst hz
            clear HRES HNO HSG
            go_enter Tryd.func17, Tryd.ntmps17
            go_wp2_with fail
            refine (HF.out _).mono ?_
            rintro e w1 ⟨rfl, hw⟩
            replace hw := hw.symm
            subst hw
            dsimp only
            go_wp2_with fail
            refine (HRO.out _).mono ?_
            rintro e w2 ⟨rfl, hb2⟩
            dsimp only
            go_wp2_with fail
            refine (HCU.out _).mono ?_
            rintro e w5 ⟨rfl, hb5⟩
            go_wp2
            go_ret3
            exact ⟨rfl, bel_trans hb2 hb5⟩
          · have ql : decide (65536 < n) = false := by simpa using hlt
            have hcn : f.count = n := by have h1 := HMN.out.1; omega
            have hz : z = (n, 1, 0) := by
              rw [HRES.out _ _ HSG.out]
              unfold resF
              rw [ha, if_pos rfl, if_neg (by omega), hcn]
              refine Prod.ext ?_ rfl
              show n * 1 = n; omega
            subst hz
            have wm : wrap64 (n) = n := by unfold wrap64; have h1 := HMN.out.2; omega
            have qm : decide (65536 < n) = false := by simp; omega
            have HWM : Hid (wrap64 (n) = n) := wm
            clear HRES HNO HSG
            go_enter Tryd.func17, Tryd.ntmps17
            go_wp2_with fail
            refine (HF.out _).mono ?_
            rintro e w1 ⟨rfl, hw⟩
            replace hw := hw.symm
            subst hw
            dsimp only
            go_wp2_with fail
            refine (HRO.out _).mono ?_
            rintro e w2 ⟨rfl, hb2⟩
            dsimp only
            go_wp2_with fail
            refine (HCU.out _).mono ?_
            rintro e w5 ⟨rfl, hb5⟩
            go_wp2
            go_ret3
            exact ⟨rfl, bel_trans hb2 hb5⟩
      replace h1 : isS b cChar = false := by simpa using h1
      by_cases h2 : isS b cInt = true
      · have hsg : sgF T f = (4, 4, true) := by
          unfold sgF
          rw [hist, if_neg (by decide), if_neg hs00, hwd, if_neg (by rw [h1]; decide), if_pos h2]
        simp only [isS_eq, cChar, cInt] at h1 h2
        have HSG : Hid (sgF T f = (4, 4, true)) := hsg
        have qs : decide ((65536 : Int) < 4) = false := by decide
        cases ha : f.isArray
        · have hz : z = (4, 4, 0) := by rw [HRES.out _ _ HSG.out]; unfold resF; rw [ha]; rfl
          subst hz
          rw [ha] at HCU
          clear HRES HNO HSG
          go_enter Tryd.func17, Tryd.ntmps17
          go_wp2_with fail
          refine (HF.out _).mono ?_
          rintro e w1 ⟨rfl, hw⟩
          replace hw := hw.symm
          subst hw
          dsimp only
          go_wp2_with fail
          refine (HRO.out _).mono ?_
          rintro e w2 ⟨rfl, hb2⟩
          dsimp only
          go_wp2_with fail
          refine (HCU.out _).mono ?_
          rintro e w5 ⟨rfl, hb5⟩
          go_wp2
          go_ret3
          exact ⟨rfl, bel_trans hb2 hb5⟩
        · rw [ha] at HCU
          have hcp : 0 < f.count := by simpa [Fm.isArray] using ha
          by_cases hlt : 16384 < n
          · have ql : decide (16384 < n) = true := by simpa using hlt
            have hz : z = (0, 0, 2) := by
              rw [HRES.out _ _ HSG.out]
              unfold resF
              rw [ha, if_pos rfl, if_pos (by have h1 := HMN.out.1; omega)]
            subst hz
            clear HRES HNO HSG
            go_enter Tryd.func17, Tryd.ntmps17
            go_wp2_with fail
            refine (HF.out _).mono ?_
            rintro e w1 ⟨rfl, hw⟩
            replace hw := hw.symm
            subst hw
            dsimp only
            go_wp2_with fail
            refine (HRO.out _).mono ?_
            rintro e w2 ⟨rfl, hb2⟩
            dsimp only
            go_wp2_with fail
            refine (HCU.out _).mono ?_
            rintro e w5 ⟨rfl, hb5⟩
            go_wp2
            go_ret3
            exact ⟨rfl, bel_trans hb2 hb5⟩
          · have ql : decide (16384 < n) = false := by simpa using hlt
            have hcn : f.count = n := by have h1 := HMN.out.1; omega
            have hz : z = (4 * n, 4, 0) := by
              rw [HRES.out _ _ HSG.out]
              unfold resF
              rw [ha, if_pos rfl, if_neg (by omega), hcn]
              refine Prod.ext ?_ rfl
              show n * 4 = 4 * n; omega
            subst hz
            have wm : wrap64 (4 * n) = 4 * n := by unfold wrap64; have h1 := HMN.out.2; omega
            have qm : decide (65536 < 4 * n) = false := by simp; omega
            have HWM : Hid (wrap64 (4 * n) = 4 * n) := wm
            clear HRES HNO HSG
            go_enter Tryd.func17, Tryd.ntmps17
            go_wp2_with fail
            refine (HF.out _).mono ?_
            rintro e w1 ⟨rfl, hw⟩
            replace hw := hw.symm
            subst hw
            dsimp only
            go_wp2_with fail
            refine (HRO.out _).mono ?_
            rintro e w2 ⟨rfl, hb2⟩
            dsimp only
            go_wp2_with fail
            refine (HCU.out _).mono ?_
            rintro e w5 ⟨rfl, hb5⟩
            go_wp2
            go_ret3
            exact ⟨rfl, bel_trans hb2 hb5⟩
      replace h2 : isS b cInt = false := by simpa using h2
      have h3 : isS b cLong = true := by
        rcases hcase with h | h | h | h
        · rw [h] at h1; cases h1
        · rw [h] at h2; cases h2
        · exact h
        · exact absurd h (fun h => hvs (by omega) h)
      have hsg : sgF T f = (8, 8, true) := by
        unfold sgF
        rw [hist, if_neg (by decide), if_neg hs00, hwd, if_neg (by rw [h1]; decide), if_neg (by rw [h2]; decide), if_pos h3]
      simp only [isS_eq, cChar, cInt] at h1 h2
      have HSG : Hid (sgF T f = (8, 8, true)) := hsg
      have qs : decide ((65536 : Int) < 8) = false := by decide
      cases ha : f.isArray
      · have hz : z = (8, 8, 0) := by rw [HRES.out _ _ HSG.out]; unfold resF; rw [ha]; rfl
        subst hz
        rw [ha] at HCU
        clear HRES HNO HSG
        go_enter Tryd.func17, Tryd.ntmps17
        go_wp2_with fail
        refine (HF.out _).mono ?_
        rintro e w1 ⟨rfl, hw⟩
        replace hw := hw.symm
        subst hw
        dsimp only
        go_wp2_with fail
        refine (HRO.out _).mono ?_
        rintro e w2 ⟨rfl, hb2⟩
        dsimp only
        go_wp2_with fail
        refine (HCU.out _).mono ?_
        rintro e w5 ⟨rfl, hb5⟩
        go_wp2
        go_ret3
        exact ⟨rfl, bel_trans hb2 hb5⟩
      · rw [ha] at HCU
        have hcp : 0 < f.count := by simpa [Fm.isArray] using ha
        by_cases hlt : 8192 < n
        · have ql : decide (8192 < n) = true := by simpa using hlt
          have hz : z = (0, 0, 2) := by
            rw [HRES.out _ _ HSG.out]
            unfold resF
            rw [ha, if_pos rfl, if_pos (by have h1 := HMN.out.1; omega)]
          subst hz
          clear HRES HNO HSG
          go_enter Tryd.func17, Tryd.ntmps17
          go_wp2_with fail
          refine (HF.out _).mono ?_
          rintro e w1 ⟨rfl, hw⟩
          replace hw := hw.symm
          subst hw
          dsimp only
          go_wp2_with fail
          refine (HRO.out _).mono ?_
          rintro e w2 ⟨rfl, hb2⟩
          dsimp only
          go_wp2_with fail
          refine (HCU.out _).mono ?_
          rintro e w5 ⟨rfl, hb5⟩
          go_wp2
          go_ret3
          exact ⟨rfl, bel_trans hb2 hb5⟩
        · have ql : decide (8192 < n) = false := by simpa using hlt
          have hcn : f.count = n := by have h1 := HMN.out.1; omega
          have hz : z = (8 * n, 8, 0) := by
            rw [HRES.out _ _ HSG.out]
            unfold resF
            rw [ha, if_pos rfl, if_neg (by omega), hcn]
            refine Prod.ext ?_ rfl
            show n * 8 = 8 * n; omega
          subst hz
          have wm : wrap64 (8 * n) = 8 * n := by unfold wrap64; have h1 := HMN.out.2; omega
          have qm : decide (65536 < 8 * n) = false := by simp; omega
          have HWM : Hid (wrap64 (8 * n) = 8 * n) := wm
          clear HRES HNO HSG
          go_enter Tryd.func17, Tryd.ntmps17
          go_wp2_with fail
          refine (HF.out _).mono ?_
          rintro e w1 ⟨rfl, hw⟩
          replace hw := hw.symm
          subst hw
          dsimp only
          go_wp2_with fail
          refine (HRO.out _).mono ?_
          rintro e w2 ⟨rfl, hb2⟩
          dsimp only
          go_wp2_with fail
          refine (HCU.out _).mono ?_
          rintro e w5 ⟨rfl, hb5⟩
          go_wp2
          go_ret3
          exact ⟨rfl, bel_trans hb2 hb5⟩
    · have qs0 : (st == 0) = false := by simpa using hs0
      have hsg : sgF T f = (8, 8, true) := by
        unfold sgF ptF
        rw [hist, if_neg (by decide), if_pos (by omega), hwd, hns]
        rfl
      have HSG : Hid (sgF T f = (8, 8, true)) := hsg
      have qs : decide ((65536 : Int) < 8) = false := by decide
      cases ha : f.isArray
      · have hz : z = (8, 8, 0) := by rw [HRES.out _ _ HSG.out]; unfold resF; rw [ha]; rfl
        subst hz
        rw [ha] at HCU
        clear HRES HNO HSG
        go_enter Tryd.func17, Tryd.ntmps17
        go_wp2_with fail
        refine (HF.out _).mono ?_
        rintro e w1 ⟨rfl, hw⟩
        replace hw := hw.symm
        subst hw
        dsimp only
        go_wp2_with fail
        refine (HRO.out _).mono ?_
        rintro e w2 ⟨rfl, hb2⟩
        dsimp only
        go_wp2_with fail
        refine (HCU.out _).mono ?_
        rintro e w5 ⟨rfl, hb5⟩
        go_wp2
        go_ret3
        exact ⟨rfl, bel_trans hb2 hb5⟩
      · rw [ha] at HCU
        have hcp : 0 < f.count := by simpa [Fm.isArray] using ha
        by_cases hlt : 8192 < n
        · have ql : decide (8192 < n) = true := by simpa using hlt
          have hz : z = (0, 0, 2) := by
            rw [HRES.out _ _ HSG.out]
            unfold resF
            rw [ha, if_pos rfl, if_pos (by have h1 := HMN.out.1; omega)]
          subst hz
          clear HRES HNO HSG
          go_enter Tryd.func17, Tryd.ntmps17
          go_wp2_with fail
          refine (HF.out _).mono ?_
          rintro e w1 ⟨rfl, hw⟩
          replace hw := hw.symm
          subst hw
          dsimp only
          go_wp2_with fail
          refine (HRO.out _).mono ?_
          rintro e w2 ⟨rfl, hb2⟩
          dsimp only
          go_wp2_with fail
          refine (HCU.out _).mono ?_
          rintro e w5 ⟨rfl, hb5⟩
          go_wp2
          go_ret3
          exact ⟨rfl, bel_trans hb2 hb5⟩
        · have ql : decide (8192 < n) = false := by simpa using hlt
          have hcn : f.count = n := by have h1 := HMN.out.1; omega
          have hz : z = (8 * n, 8, 0) := by
            rw [HRES.out _ _ HSG.out]
            unfold resF
            rw [ha, if_pos rfl, if_neg (by omega), hcn]
            refine Prod.ext ?_ rfl
            show n * 8 = 8 * n; omega
          subst hz
          have wm : wrap64 (8 * n) = 8 * n := by unfold wrap64; have h1 := HMN.out.2; omega
          have qm : decide (65536 < 8 * n) = false := by simp; omega
          have HWM : Hid (wrap64 (8 * n) = 8 * n) := wm
          clear HRES HNO HSG
          go_enter Tryd.func17, Tryd.ntmps17
          go_wp2_with fail
          refine (HF.out _).mono ?_
          rintro e w1 ⟨rfl, hw⟩
          replace hw := hw.symm
          subst hw
          dsimp only
          go_wp2_with fail
          refine (HRO.out _).mono ?_
          rintro e w2 ⟨rfl, hb2⟩
          dsimp only
          go_wp2_with fail
          refine (HCU.out _).mono ?_
          rintro e w5 ⟨rfl, hb5⟩
          go_wp2
          go_ret3
          exact ⟨rfl, bel_trans hb2 hb5⟩
end Go.Proofs.YtpedfnfangaelaaDoor

