/- The document's own answer for types: contract of Table. -/
import Derived.Test.YtpedfnfangaelaaDoorYRef8
namespace Go.Proofs.YtpedfnfangaelaaDoor
open Go.ChangeShapes Go.WideShapes Go.ChangeAt Go.RowKit
set_option linter.unusedSimpArgs false
set_option linter.unusedVariables false

theorem nmOk_step {l : List Fd} {k : Nat} {f : Fd} (h : l[k]? = some f) : nmOk (l.take k) (l.drop k) = (!(hasN (l.take k) f.name || !(nameS f.name)) && nmOk (l.take (k + 1)) (l.drop (k + 1))) := by
  rw [drop_fd h, take_succ_fd h]
  rfl
theorem hasN_none {l : List Fd} {k : Nat} {s : ByteArray} (h : ∀ m y, m < k → l[m]? = some y → y.name ≠ s) : hasN (l.take k) s = false := by
  unfold hasN
  rw [Bool.eq_false_iff]
  intro he
  obtain ⟨y, hy, hs⟩ := List.any_eq_true.1 he
  obtain ⟨m, hm⟩ := List.mem_iff_getElem?.1 hy
  rw [List.getElem?_take] at hm
  split at hm
  · rename_i hlt
    exact h m y hlt hm (by simpa using hs)
  · cases hm
theorem hasN_some {l : List Fd} {k m : Nat} {y : Fd} {s : ByteArray} (hm : m < k) (hy : l[m]? = some y) (hs : y.name = s) : hasN (l.take k) s = true := by
  unfold hasN
  refine List.any_eq_true.2 ⟨y, List.mem_iff_getElem?.2 ⟨m, by rw [List.getElem?_take, if_pos hm]; exact hy⟩, by simpa using hs⟩
set_option maxRecDepth 100000 in
set_option maxHeartbeats 16000000 in
theorem rTable_any (lv : Value) (l : List St) (hS : StS l) (hf : ∀ x ∈ l, x.fields.length ≤ 10) (hlen : (l.length : Int) ≤ 4611686018427387904) (w : World) (hl : RStAt w lv l) :
    Calls Tryd.prog 15 #[lv] w (retP (.tuple #[.int .i64 ((newF l).2.1 : Int), .int .i64 (newF l).1]) w) := by
  have HRS : Hid (∀ w', Below w.heap.size w w' → RStAt w' lv l) := fun w' hb => hl.keep hb
  have HPL : Hid (∀ (sh : List Shp) (k : Nat) (x : St) w', PreOk l sh → k ≤ sh.length → l[k]? = some x → Below w.heap.size w w' → Calls Tryd.prog 16 #[lv, .int .i64 (k : Int)] w' (retPl (plF ⟨namesOf l, sh.take k⟩ x.fields) w')) := fun sh k x w' hp hk hx hb => rPlaces_any hp hS hf hlen k hk x hx w' (hl.keep hb)
  have HFI : Hid (∀ (s : ByteArray) w', Below w.heap.size w w' → Calls Tryd.prog 35 #[lv, .string s] w' fun e w'' => e = .returned (.int .i64 (ixI (ixOf (namesOf l) s))) ∧ w'' = w') := fun s w' hb => rFind_any lv l s w' (hl.keep hb)
  have HNM : Hid (∀ (s : ByteArray) w', s.size ≤ 281474976710656 → Calls Tryd.prog 34 #[.string s] w' fun e w'' => e = .returned (.bool (nameS s)) ∧ w'' = w') := fun s w' h => rNamed_any s (by omega) w'
  have HSS : Hid (StS l ∧ ∀ x ∈ l, x.fields.length ≤ 10) := ⟨hS, hf⟩
  obtain ⟨la, lc, rfl, hll, hlc⟩ := hl
  have HC : Hid (l ≠ [] → ∃ b off : Nat, la = some ⟨b, off, none⟩ ∧ ∀ (i : Nat) (x : St), l[i]? = some x → w.cell? ⟨b, off + i * 2, none⟩ = some (.string x.name) ∧ ∃ fv, w.cell? ⟨b, off + i * 2 + 1, none⟩ = some fv ∧ RFdAt w fv x.fields) := hlc
  clear hlc hS hf hlen HRS
  obtain ⟨R, hR⟩ : ∃ R, newF l = R := ⟨_, rfl⟩
  have HR : Hid (newL (namesOf l) 0 [] (l.drop 0) = R) := hR
  rw [hR]
  clear hR
  obtain ⟨err, idx, shR⟩ := R
  obtain ⟨n, hn⟩ : ∃ n, l.length = n := ⟨_, rfl⟩
  have HNL : Hid (l.length = n) := hn
  rw [hn] at hll HPL HFI ⊢
  clear hn
  dsimp only
  go_enter Tryd.func15, Tryd.ntmps15
  go_wp2_with fail
  go_loopw [4] (fun v wr => ∃ (i : Nat) (sh : List Shp), i ≤ n ∧ v = .int .i64 (i : Int) ∧ Hid (PreOk l sh ∧ sh.length = i ∧ newL (namesOf l) i sh (l.drop i) = (err, idx, shR) ∧ Below w.heap.size w wr)) (fun v _ => n - (intOf v).toNat)
  case atStart => exact ⟨0, [], by omega, rfl, PreOk.nil l, rfl, HR.out, Below.refl _ _⟩
  case round =>
    clear HR
    obtain ⟨i, sh, hi, rfl, HI⟩ := hrel
    by_cases hin : i < n
    · have i0 : (0 : Int) ≤ i := by omega
      have i1 : (i : Int) < n := by omega
      have hfg := List.getElem?_eq_getElem (l := l) (i := i) (by rw [HNL.out]; exact hin)
      obtain ⟨x, hfe⟩ : ∃ f, l[i]'(by rw [HNL.out]; exact hin) = f := ⟨_, rfl⟩
      rw [hfe] at hfg
      clear hfe
      obtain ⟨lb, lo, rfl, hcc⟩ := HC.out (fun e => by rw [e] at hfg; simp at hfg)
      obtain ⟨d0, fv, d1, fa, fc, rfl, hfl, hfc⟩ := hcc i x hfg
      have c0 := keep_cell HI.out.2.2.2 d0
      have c1 := keep_cell HI.out.2.2.2 d1
      have HD1 : Hid (w.cell? ⟨lb, lo + i * 2 + 1, none⟩ = some (.slice fa x.fields.length fc)) := d1
      have hst := HSS.out.1 x (List.mem_of_getElem? hfg)
      have hx10 := HSS.out.2 x (List.mem_of_getElem? hfg)
      have HX : Hid (x.name.size ≤ 281474976710656 ∧ FdS x.fields ∧ l[i]? = some x) := ⟨hst.1, hst.2, hfg⟩
      have HFC : Hid (x.fields ≠ [] → ∃ b off : Nat, fa = some ⟨b, off, none⟩ ∧ ∀ (i : Nat) (y : Fd), x.fields[i]? = some y → w.cell? ⟨b, off + i * 3, none⟩ = some (.string y.typ) ∧ w.cell? ⟨b, off + i * 3 + 1, none⟩ = some (.string y.name) ∧ w.cell? ⟨b, off + i * 3 + 2, none⟩ = some (.bool false)) := hfc
      have HNEW : Hid ((if addE ⟨namesOf l, sh⟩ x.name x.fields = 0 then newL (namesOf l) (i + 1) (sh ++ [(layR ⟨namesOf l, sh⟩ x.fields).1]) (l.drop (i + 1)) else (addE ⟨namesOf l, sh⟩ x.name x.fields, i, sh)) = (err, idx, shR)) := by
        have h1 := HI.out.2.2.1
        rw [drop_st hfg] at h1
        exact h1
      have HADE : Hid (addE ⟨namesOf l, sh⟩ x.name x.fields = if (!(nameS x.name) || (!((ixOf (namesOf l) x.name).getD 0 == sh.length) || x.fields.length == 0)) = true then 5 else (layR ⟨namesOf l, sh⟩ x.fields).2) := rfl
      have HGD : Hid (GoodT ⟨namesOf l, sh⟩) := by have := HI.out.1.good sh.length; rwa [List.take_length] at this
      have hmem : x.name ∈ namesOf l := List.mem_map.2 ⟨x, List.mem_of_getElem? hfg, rfl⟩
      have hix := ixOf_mem hmem
      obtain ⟨j, hj⟩ : ∃ j, (ixOf (namesOf l) x.name).getD 0 = j := ⟨_, rfl⟩
      rw [hj] at hix
      have hji : j ≤ i := by
        rcases Nat.lt_or_ge i j with h | h
        · exfalso
          have h2 := hix
          unfold ixOf at h2
          rw [List.findIdx?_eq_some_iff_getElem] at h2
          obtain ⟨h3, _, h5⟩ := h2
          have h6 := h5 i h
          have h7 : (namesOf l)[i]? = some x.name := by unfold namesOf; rw [List.getElem?_map, hfg]; rfl
          rw [List.getElem?_eq_getElem (by omega)] at h7
          rw [Option.some.inj h7] at h6
          simp at h6
        · exact h
      have HIX : Hid (ixOf (namesOf l) x.name = some j ∧ (ixOf (namesOf l) x.name).getD 0 = j) := ⟨hix, hj⟩
      have HSL : Hid (sh.length = i) := HI.out.2.1
      clear hcc hfg hst hmem hix hj d0 d1 hfc
      obtain ⟨nm, fields⟩ := x
      dsimp only at *
      obtain ⟨fl, hfle⟩ : ∃ fl, fields.length = fl := ⟨_, rfl⟩
      have HFL : Hid (fields.length = fl) := hfle
      rw [hfle] at c1 hfl hx10 HD1
      clear hfle
      cases hnm : nameS nm
      · have hE : addE ⟨namesOf l, sh⟩ nm fields = 5 := by rw [HADE.out, hnm]; rfl
        obtain ⟨rfl, rfl, rfl⟩ : (5 : Int) = err ∧ i = idx ∧ sh = shR := by
          have := HNEW.out
          rw [hE, if_neg (by decide)] at this
          simpa using this
        go_wp2_with fail
        refine (HNM.out nm _ HX.out.1).mono ?_
        rintro e w1 ⟨rfl, hw⟩
        rw [hnm]
        replace hw := hw.symm
        subst hw
        clear HNEW HADE hE
        go_wp2
        go_ret2
        exact ⟨rfl, HI.out.2.2.2⟩
      go_wp2_with fail
      refine (HNM.out nm _ HX.out.1).mono ?_
      rintro e w1 ⟨rfl, hw⟩
      rw [hnm]
      replace hw := hw.symm
      subst hw
      dsimp only
      go_wp2_with fail
      refine (HFI.out nm _ HI.out.2.2.2).mono ?_
      rintro e w1 ⟨rfl, hw⟩
      rw [HIX.out.1]
      replace hw := hw.symm
      subst hw
      dsimp only [ixI]
      by_cases hjl : j < i
      · have q1 : decide ((j : Int) < (i : Int)) = true := by simp; omega
        have hE : addE ⟨namesOf l, sh⟩ nm fields = 5 := by
          rw [HADE.out, hnm, HIX.out.2]
          have : (j == sh.length) = false := by have := HSL.out; simp; omega
          rw [this]; rfl
        obtain ⟨rfl, rfl, rfl⟩ : (5 : Int) = err ∧ i = idx ∧ sh = shR := by
          have := HNEW.out
          rw [hE, if_neg (by decide)] at this
          simpa using this
        clear HNEW HADE hE
        go_wp2
        go_ret2
        exact ⟨rfl, HI.out.2.2.2⟩
      have q1 : decide ((j : Int) < (i : Int)) = false := by simp; omega
      have q1n : ¬ j < i := hjl
      have hjs : (j == sh.length) = true := by have := HSL.out; simp; omega
      by_cases hf0 : fl = 0
      · have hE : addE ⟨namesOf l, sh⟩ nm fields = 5 := by
          rw [HADE.out, hnm, HIX.out.2, hjs, HFL.out, hf0]; rfl
        obtain ⟨rfl, rfl, rfl⟩ : (5 : Int) = err ∧ i = idx ∧ sh = shR := by
          have := HNEW.out
          rw [hE, if_neg (by decide)] at this
          simpa using this
        subst hf0
        clear HNEW HADE hE
        go_wp2
        go_ret2
        exact ⟨rfl, HI.out.2.2.2⟩
      have qf0 : ((fl : Int) == 0) = false := by simp; omega
      have HE2 : Hid (addE ⟨namesOf l, sh⟩ nm fields = (layR ⟨namesOf l, sh⟩ fields).2) := by
        show _ = _
        rw [HADE.out, hnm, HIX.out.2, hjs, HFL.out]
        have : (fl == 0) = false := by simpa using hf0
        rw [this]; rfl
      have HBAD : Hid (nmOk [] fields = false → (5 : Int) = err ∧ i = idx ∧ sh = shR) := fun hb => by
        have := HNEW.out
        rw [HE2.out, layR_nm hb, if_neg (by decide)] at this
        simpa using this
      clear HADE hjs hf0 hnm c0
      go_wp2_with fail
      have HB0 : Hid (Below w.heap.size w wr) := HI.out.2.2.2
      go_loopw [5] (fun v wk => ∃ k : Nat, k ≤ fl ∧ v = .int .i64 (k : Int) ∧ Hid (nmOk (fields.take k) (fields.drop k) = nmOk [] fields ∧ Below w.heap.size w wk)) (fun v _ => fl - (intOf v).toNat)
      case atStart => exact ⟨0, by omega, rfl, rfl, HB0.out⟩
      case round =>
        clear c1
        obtain ⟨k, hk, rfl, HK⟩ := hrel
        have c1 := keep_cell HK.out.2 HD1.out
        by_cases hkn : k < fl
        · have k0 : (0 : Int) ≤ k := by omega
          have k1 : (k : Int) < fl := by omega
          have hfg := List.getElem?_eq_getElem (l := fields) (i := k) (by rw [HFL.out]; exact hkn)
          obtain ⟨f, hfe⟩ : ∃ f, fields[k]'(by rw [HFL.out]; exact hkn) = f := ⟨_, rfl⟩
          rw [hfe] at hfg
          clear hfe
          obtain ⟨fb, fo, rfl, hcc⟩ := HFC.out (fun e => by rw [e] at hfg; simp at hfg)
          have t0 := keep_cell HK.out.2 (hcc k f hfg).1
          have t1 := keep_cell HK.out.2 (hcc k f hfg).2.1
          have t2 := keep_cell HK.out.2 (hcc k f hfg).2.2
          have HF : Hid (f.name.size ≤ 281474976710656 ∧ fields[k]? = some f) := ⟨(HX.out.2.1 f (List.mem_of_getElem? hfg)).1, hfg⟩
          have HCC : Hid (∀ (i : Nat) (y : Fd), fields[i]? = some y → w.cell? ⟨fb, fo + i * 3 + 1, none⟩ = some (.string y.name)) := fun i y hy => (hcc i y hy).2.1
          have HSTEP : Hid ((!(hasN (fields.take k) f.name || !(nameS f.name)) && nmOk (fields.take (k + 1)) (fields.drop (k + 1))) = nmOk [] fields) := by
            show _ = _
            rw [← nmOk_step hfg]
            exact HK.out.1
          clear hcc hfg
          go_wp2_with fail
          refine (HNM.out f.name _ HF.out.1).mono ?_
          rintro e w1 ⟨rfl, hw⟩
          have hc1 : w1.cell? ⟨wr.heap.size, 1, none⟩ = some (.string f.name) := by rw [hw]; exact heap_cell (o := 1) (heap_new wr _) (by rfl)
          have HBB : Hid (Below w.heap.size w w1) := by show Below _ _ _; rw [hw]; exact bel_alloc HK.out.2 _
          clear hw HK c1 t0 t1 t2
          dsimp only
          cases hnf : nameS f.name
          · obtain ⟨rfl, rfl, rfl⟩ := HBAD.out (by rw [← HSTEP.out, hnf]; simp)
            clear HNEW HBAD HSTEP
            go_wp2
            go_ret2
            exact ⟨rfl, HBB.out⟩
          have HC0 : Hid (w1.cell? ⟨wr.heap.size, 1, none⟩ = some (.string f.name)) := hc1
          have HNF : Hid (nameS f.name = true) := hnf
          clear hnf hc1
          go_wp2_with fail
          go_loopw [7] (fun v wm => ∃ m : Nat, m ≤ k ∧ v = .int .i64 (m : Int) ∧ Hid ((∀ q y, q < m → fields[q]? = some y → y.name ≠ f.name) ∧ Below w.heap.size w wm ∧ wm.cell? ⟨wr.heap.size, 1, none⟩ = some (.string f.name))) (fun v _ => k - (intOf v).toNat)
          case atStart => exact ⟨0, by omega, rfl, fun q y h => by omega, HBB.out, HC0.out⟩
          case round =>
            clear HC0 HBB
            obtain ⟨m, hm, rfl, HM⟩ := hrel
            by_cases hmk : m < k
            · have m0 : (0 : Int) ≤ m := by omega
              have m1 : (m : Int) < k := by omega
              have m2 : (m : Int) < fl := by omega
              have hfg := List.getElem?_eq_getElem (l := fields) (i := m) (by rw [HFL.out]; omega)
              obtain ⟨y, hye⟩ : ∃ y, fields[m]'(by rw [HFL.out]; omega) = y := ⟨_, rfl⟩
              rw [hye] at hfg
              clear hye
              have t1 := keep_cell HM.out.2.1 (HCC.out m y hfg)
              have c1 := keep_cell HM.out.2.1 HD1.out
              have e1 := HM.out.2.2
              have HY : Hid (fields[m]? = some y) := hfg
              clear hfg
              by_cases hyn : y.name = f.name
              · obtain ⟨rfl, rfl, rfl⟩ := HBAD.out (by rw [← HSTEP.out, hasN_some hmk HY.out hyn]; simp)
                have qy : (y.name.toList == f.name.toList) = true := by rw [hyn]; simp
                clear HNEW HBAD HSTEP
                go_wp2
                go_quiet (fail)
                go_wp2
                go_ret2
                exact ⟨rfl, by first | exact HM.out.2.1 | exact bel_drewN HM.out.2.1 _⟩
              · have qy : (y.name.toList == f.name.toList) = false := by
                  rw [Bool.eq_false_iff]
                  intro he
                  rw [beq_iff_eq, ByteArray.toList_eq, ByteArray.toList_eq] at he
                  exact hyn (ba_ext he)
                have HNE : Hid (y.name ≠ f.name) := hyn
                clear hyn
                go_wp2
                go_quiet (fail)
                go_wp2
                go_roundw
                case rel =>
                  refine ⟨m + 1, by omega, by simp, ?_, ?_, ?_⟩
                  · intro q z hq hz
                    rcases Nat.lt_or_ge q m with h | h
                    · exact HM.out.1 q z h hz
                    · have : q = m := by omega
                      subst this
                      rw [HY.out] at hz
                      cases hz
                      exact HNE.out
                  · first | exact HM.out.2.1 | exact bel_drewN HM.out.2.1 _
                  · first | exact HM.out.2.2 | exact keep_cell (bel_drewN (bel_refl _) _) HM.out.2.2
                case measure => simp [intOf]; omega
            · have hmk2 : m = k := by omega
              subst hmk2
              have HOKK : Hid (nmOk (fields.take (m + 1)) (fields.drop (m + 1)) = nmOk [] fields) := by
                show _ = _
                rw [← HSTEP.out, hasN_none HM.out.1, HNF.out]
                simp
              clear HSTEP
              go_wp2
              go_roundw
              case rel => exact ⟨m + 1, by omega, by simp, HOKK.out, HM.out.2.1⟩
              case measure => simp [intOf]; omega
        · have hkf : k = fl := by omega
          have HNO : Hid (nmOk [] fields = true) := by
            show _ = _
            rw [← HK.out.1, hkf, List.drop_of_length_le (by rw [HFL.out]; omega)]
            rfl
          subst hkf
          go_wp2_with fail
          refine (HPL.out sh i ⟨nm, fields⟩ _ HI.out.1 (by rw [HSL.out]; omega) HX.out.2.2 HK.out.2).mono ?_
          rw [show List.take i sh = sh from List.take_of_length_le (by rw [HSL.out]; omega)]
          rintro e w2 ⟨ov, rfl, -, hb2⟩
          have HB2 : Hid (Below w.heap.size w w2) := bel_trans HK.out.2 hb2
          have hpe := (plF_eq HGD.out HNO.out).1
          clear hb2
          dsimp only
          have HPE : Hid ((plF ⟨namesOf l, sh⟩ fields).1 = (layR ⟨namesOf l, sh⟩ fields).2) := hpe
          generalize plF ⟨namesOf l, sh⟩ fields = pr at *
          obtain ⟨p0, p1, p2, p3⟩ := pr
          dsimp only at *
          clear hpe
          by_cases hp0 : p0 = 0
          · subst hp0
            have HA0 : Hid (addE ⟨namesOf l, sh⟩ nm fields = 0) := by show _ = _; rw [HE2.out, ← HPE.out]
            have HN2 : Hid (newL (namesOf l) (i + 1) (sh ++ [(layR ⟨namesOf l, sh⟩ fields).1]) (l.drop (i + 1)) = (err, idx, shR)) := by
              have := HNEW.out
              rw [if_pos HA0.out] at this
              exact this
            have HPO : Hid (PreOk l (sh ++ [(layR ⟨namesOf l, sh⟩ fields).1])) := HI.out.1.snoc (x := ⟨nm, fields⟩) (by rw [HSL.out]; exact HX.out.2.2) HA0.out
            clear HNEW HBAD HE2 HPE HA0
            go_wp2
            go_roundw
            case rel => exact ⟨i + 1, sh ++ [(layR ⟨namesOf l, sh⟩ fields).1], by omega, by simp, HPO.out, by rw [List.length_append, HSL.out]; rfl, HN2.out, HB2.out⟩
            case measure => simp [intOf]; omega
          · have qp : (p0 == 0) = false := by simpa using hp0
            obtain ⟨rfl, rfl, rfl⟩ : p0 = err ∧ i = idx ∧ sh = shR := by
              have := HNEW.out
              rw [HE2.out, ← HPE.out, if_neg hp0] at this
              simpa using this
            clear HNEW HBAD HE2 HPE
            go_wp2
            go_ret2
            exact ⟨rfl, HB2.out⟩
    · have hie : i = n := by omega
      obtain ⟨rfl, rfl, rfl⟩ : (0 : Int) = err ∧ 0 = idx ∧ sh = shR := by
        have h1 := HI.out.2.2.1
        rw [hie, List.drop_of_length_le (by rw [HNL.out]; omega)] at h1
        simpa [newL] using h1
      subst hie
      go_wp2
      go_ret2
      exact ⟨rfl, HI.out.2.2.2⟩
end Go.Proofs.YtpedfnfangaelaaDoor

