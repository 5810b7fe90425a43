/- TypesTables: the walk. -/
import Derived.Test.YtpedfnfangaelaaDoorYTm
import Derived.Test.YtpedfnfangaelaaDoorYAwake
namespace Go.Proofs.YtpedfnfangaelaaDoor
open Go.ChangeShapes Go.WideShapes Go.ChangeAt Go.RowKit Go.Joins Go.Deep
set_option linter.unusedSimpArgs false
set_option linter.unusedVariables false

set_option maxHeartbeats 1000000 in
theorem rInt_any (s : ByteArray) (w : World) : Calls Tryd.prog 20 #[.string s] w fun e w' => e = .returned (.bool (intS s)) ∧ w' = w := by
  cases h1 : isS s cChar
  · cases h2 : isS s cInt
    · have e : intS s = isS s cLong := by simp only [intS, h1, h2, Bool.false_or]
      rw [e]
      simp only [isS_eq, cChar, cInt, cLong] at h1 h2 ⊢
      go_enter Tryd.func20, Tryd.ntmps20
      go_wp2
      go_ret
      exact ⟨rfl, rfl⟩
    · have e : intS s = true := by simp only [intS, h1, h2, Bool.false_or, Bool.true_or]
      rw [e]
      simp only [isS_eq, cChar, cInt, cLong] at h1 h2
      go_enter Tryd.func20, Tryd.ntmps20
      go_wp2
      go_ret
      exact ⟨rfl, rfl⟩
  · have e : intS s = true := by simp only [intS, h1, Bool.true_or]
    rw [e]
    simp only [isS_eq, cChar, cInt, cLong] at h1
    go_enter Tryd.func20, Tryd.ntmps20
    go_wp2
    go_ret
    exact ⟨rfl, rfl⟩
def AskAt (w : World) (v : Value) (l : List ByteArray) : Prop := ∃ (a : Option Addr) (cap : Nat), v = .slice a l.length cap ∧ (l.length : Int) ≤ 9223372036854775807 ∧ (l ≠ [] → ∃ b off : Nat, a = some ⟨b, off, none⟩ ∧ ∀ (i : Nat) (s : ByteArray), l[i]? = some s → w.cell? ⟨b, off + i, none⟩ = some (.string s))
set_option maxRecDepth 100000 in
set_option maxHeartbeats 32000000 in
theorem typesTables_walk (v va : Value) (l : List St) (ask : List ByteArray) (w : World) (hl : StAt w v l) (hs : StS l) (hq : AskAt w va ask) (hqs : ∀ s ∈ ask, s.size ≤ 281474976710656) : Calls Tryd.prog 4 #[v, va] w (retP (.bool true) w) := by
  have HNW : Hid (∀ w', Below w.heap.size w w' → Calls Tryd.prog 8 #[v] w' (retN l (newF l) w')) := fun w' hb => new_any v l w' (hl.keep hb) hs
  have HOW : Hid (l.length ≤ 8 → (∀ x ∈ l, x.fields.length ≤ 10) → ∀ w', Below w.heap.size w w' → Calls Tryd.prog 14 #[v] w' (retOwn l w')) := fun h8 hf w' hb => own_any v l h8 hf w' (hl.keep hb)
  have HST : Hid (StS l ∧ ∀ s ∈ ask, s.size ≤ 281474976710656) := ⟨hs, hqs⟩
  obtain ⟨sa, sc, rfl, hll, hlc⟩ := hl
  obtain ⟨qa, qc, rfl, hql, hqc⟩ := hq
  have HF : Hid (l ≠ [] → ∃ b off : Nat, sa = some ⟨b, off, none⟩ ∧ ∀ (i : Nat) (x : St), l[i]? = some x → w.cell? ⟨b, off + i * 2, none⟩ = some (.string x.name) ∧ ∃ fv, w.cell? ⟨b, off + i * 2 + 1, none⟩ = some fv ∧ FdAt w fv x.fields) := hlc
  have HQ : Hid (ask ≠ [] → ∃ b off : Nat, qa = some ⟨b, off, none⟩ ∧ ∀ (i : Nat) (s : ByteArray), ask[i]? = some s → w.cell? ⟨b, off + i, none⟩ = some (.string s)) := hqc
  clear hlc hs hqs hqc
  obtain ⟨n, hn⟩ : ∃ n, l.length = n := ⟨_, rfl⟩
  have HNL : Hid (l.length = n) := hn
  obtain ⟨m, hm⟩ : ∃ m, ask.length = m := ⟨_, rfl⟩
  have HML : Hid (ask.length = m) := hm
  rw [hn] at hll HNW HOW ⊢
  rw [hm] at hql ⊢
  clear hn hm
  by_cases h8 : n ≤ 8
  rotate_left
  · have q8 : decide ((8 : Int) < (n : Int)) = true := by simp; omega
    go_enter Tryd.func4, Tryd.ntmps4
    go_wp2_with fail
    refine (awake_any _).mono ?_
    rintro e w1 ⟨rfl, hb1⟩
    dsimp only
    go_wp2
    go_ret
    exact ⟨rfl, hb1⟩
  have q8 : decide ((8 : Int) < (n : Int)) = false := by simp; omega
  by_cases h20 : m ≤ 20
  rotate_left
  · have q20 : decide ((20 : Int) < (m : Int)) = true := by simp; omega
    go_enter Tryd.func4, Tryd.ntmps4
    go_wp2_with fail
    refine (awake_any _).mono ?_
    rintro e w1 ⟨rfl, hb1⟩
    dsimp only
    go_wp2
    go_ret
    exact ⟨rfl, hb1⟩
  have q20 : decide ((20 : Int) < (m : Int)) = false := by simp; omega
  go_enter Tryd.func4, Tryd.ntmps4
  go_wp2_with fail
  refine (awake_any _).mono ?_
  rintro e w1 ⟨rfl, hb1⟩
  dsimp only
  have HB1 : Hid (Below w.heap.size w w1) := hb1
  clear hb1
  go_wp2_with fail
  clear q8 q20
  go_loopw [5] (fun v wr => ∃ i : Nat, i ≤ n ∧ v = .int .i64 (i : Int) ∧ Hid (Below w.heap.size w wr ∧ ∀ j x, j < i → l[j]? = some x → x.fields.length ≤ 10)) (fun v _ => n - (intOf v).toNat)
  case atStart => exact ⟨0, by omega, rfl, HB1.out, fun j x h => by omega⟩
  case round =>
    clear HB1
    obtain ⟨i, hi, rfl, HI⟩ := hrel
    by_cases hin : i < n
    · have i0 : (0 : Int) ≤ i := by omega
      have i1 : (i : Int) < n := by omega
      have hfg := List.getElem?_eq_getElem (l := l) (i := i) (by rw [HNL.out]; exact hin)
      obtain ⟨x, hfe⟩ : ∃ f, l[i]'(by rw [HNL.out]; exact hin) = f := ⟨_, rfl⟩
      rw [hfe] at hfg
      clear hfe
      obtain ⟨sb, off, rfl, hc⟩ := HF.out (fun e => by rw [e] at hfg; simp at hfg)
      obtain ⟨d0, fv, d1, fa, fc, rfl, -⟩ := hc i x hfg
      have c1 := keep_cell HI.out.1 d1
      have HX : Hid (l[i]? = some x) := hfg
      clear hc hfg d0 d1
      by_cases h10 : x.fields.length ≤ 10
      · have q10 : decide ((10 : Int) < (x.fields.length : Int)) = false := by simp; omega
        have HX10 : Hid (x.fields.length ≤ 10) := h10
        clear h10
        go_wp2
        go_roundw
        case rel =>
          refine ⟨i + 1, by omega, by simp, HI.out.1, fun j y hj hy => ?_⟩
          rcases Nat.lt_or_ge j i with h | h
          · exact HI.out.2 j y h hy
          · have : j = i := by omega
            subst this
            rw [HX.out] at hy
            cases hy
            exact HX10.out
        case measure => simp [intOf]; omega
      · have q10 : decide ((10 : Int) < (x.fields.length : Int)) = true := by simp; omega
        clear h10
        go_wp2
        go_ret
        exact ⟨rfl, HI.out.1⟩
    · have hie : i = n := by omega
      have HX10 : Hid (∀ x ∈ l, x.fields.length ≤ 10) := fun x hx => by
        obtain ⟨j, hj⟩ := List.mem_iff_getElem?.1 hx
        refine HI.out.2 j x ?_ hj
        have := (List.getElem?_eq_some_iff.1 hj).1
        rw [HNL.out] at this
        omega
      have HB : Hid (Below w.heap.size w wr) := HI.out.1
      have HOW2 : Hid (∀ w', Below w.heap.size w w' → Calls Tryd.prog 14 #[.slice sa n sc] w' (retOwn l w')) := HOW.out h8 HX10.out
      clear HOW HI
      subst hie
      obtain ⟨R, hR⟩ : ∃ R, newF l = R := ⟨_, rfl⟩
      obtain ⟨err, rk, sh⟩ := R
      have HR : Hid (newF l = (err, rk, sh)) := hR
      rw [hR] at HNW
      clear hR
      have HTB : Hid (∀ lv w', RStAt w' lv l → Calls Tryd.prog 15 #[lv] w' (retP (.tuple #[.int .i64 (rk : Int), .int .i64 err]) w')) := fun lv w' h => by
        have := rTable_any lv l HST.out.1 HX10.out (by rw [HNL.out]; omega) w' h
        rw [HR.out] at this
        exact this
      go_wp2_with fail
      refine (HNW.out _ HB.out).mono ?_
      intro e w2 h2
      obtain ⟨hbn, h3, h4⟩ := h2
      have HB2 : Hid (Below w.heap.size w w2) := bel_trans HB.out hbn
      clear hbn HB HNW
      by_cases he : err = 0
      rotate_left
      · have he2 := h3 he
        subst he2
        have q1 : (err != 0) = true := by simpa using he
        have q2 : (err == 0) = false := by simpa using he
        clear h3 h4 he
        dsimp only
        go_wp2_with fail
        refine (HOW2.out _ HB2.out).mono ?_
        rintro e w3 ⟨lv, rfl, hlv, hb3⟩
        dsimp only
        have HB3 : Hid (Below w.heap.size w w3) := bel_trans HB2.out hb3
        have HLV : Hid (RStAt w3 lv l) := hlv
        clear hlv hb3
        go_wp2_with fail
        refine (HTB.out _ _ HLV.out).mono ?_
        rintro e w4 ⟨rfl, hb4⟩
        dsimp only
        have HB4 : Hid (Below w.heap.size w w4) := bel_trans HB3.out hb4
        clear hb4
        go_wp2
        go_ret
        exact ⟨rfl, HB4.out⟩
      obtain ⟨tb, he2, htb, hgt⟩ := h4 he
      subst he2
      subst he
      clear h3 h4
      have HPRE : Hid (PreOk l sh) := (newF_pre HR.out).1
      obtain rfl : rk = 0 := (newF_pre HR.out).2
      have HOK := newF_ok HR.out
      have HT : Hid (TabOk l ⟨namesOf l, sh⟩ ∧ sh.length = i) := ⟨HOK.1, HOK.2.trans HNL.out⟩
      have HTA : Hid (TabAt w2 tb ⟨namesOf l, sh⟩) := htb
      clear HOK HR htb hgt
      dsimp only
      go_wp2_with fail
      refine (HOW2.out _ HB2.out).mono ?_
      rintro e w3 ⟨lv, rfl, hlv, hb3⟩
      dsimp only
      have HB3 : Hid (Below w.heap.size w w3 ∧ TabAt w3 tb ⟨namesOf l, sh⟩) := ⟨bel_trans HB2.out hb3, HTA.out.keep hb3⟩
      have HLV : Hid (RStAt w3 lv l) := hlv
      clear hlv hb3 HB2 HTA HOW2
      go_wp2_with fail
      refine (HTB.out _ _ HLV.out).mono ?_
      rintro e w4 ⟨rfl, hb4⟩
      dsimp only
      have HB4 : Hid (Below w.heap.size w w4 ∧ TabAt w4 tb ⟨namesOf l, sh⟩ ∧ RStAt w4 lv l) := ⟨bel_trans HB3.out.1 hb4, HB3.out.2.keep hb4, HLV.out.keep hb4⟩
      clear hb4 HB3 HLV HTB
      obtain ⟨ra, rc, rfl, -, -⟩ := id HB4.out.2.2
      have HNL2 := HNL.out
      rw [HNL2] at HB4 ⊢
      clear HNL2
      go_wp2_with fail
      go_loopw [12] (fun v wk => ∃ k : Nat, k ≤ i ∧ v = .int .i64 (k : Int) ∧ Hid (Below w.heap.size w wk ∧ TabAt wk tb ⟨namesOf l, sh⟩ ∧ RStAt wk (.slice ra i rc) l)) (fun v _ => i - (intOf v).toNat)
      case atStart => exact ⟨0, by omega, rfl, HB4.out⟩
      case round =>
        clear HB4
        obtain ⟨k, hk, rfl, HK⟩ := hrel
        by_cases hkn : k < i
        · have k0 : (0 : Int) ≤ k := by omega
          have k1 : (k : Int) < i := by omega
          have hfg := List.getElem?_eq_getElem (l := l) (i := k) (by rw [HNL.out]; exact hkn)
          obtain ⟨x, hfe⟩ : ∃ f, l[k]'(by rw [HNL.out]; exact hkn) = f := ⟨_, rfl⟩
          rw [hfe] at hfg
          clear hfe
          have hyg := List.getElem?_eq_getElem (l := sh) (i := k) (by rw [HT.out.2]; exact hkn)
          obtain ⟨y, hye⟩ : ∃ f, sh[k]'(by rw [HT.out.2]; exact hkn) = f := ⟨_, rfl⟩
          rw [hye] at hyg
          clear hye
          obtain ⟨sb, off, rfl, hc⟩ := HF.out (fun e => by rw [e] at hfg; simp at hfg)
          obtain ⟨d0, fv, d1, fa, fc, rfl, -, hfc⟩ := hc k x hfg
          have c0 := keep_cell HK.out.1 d0
          have HFC : Hid (x.fields ≠ [] → ∃ b off : Nat, fa = some ⟨b, off, none⟩ ∧ ∀ (i : Nat) (y : Fd), x.fields[i]? = some y → w.cell? ⟨b, off + i * 2, none⟩ = some (.string y.name) ∧ w.cell? ⟨b, off + i * 2 + 1, none⟩ = some (.string y.typ)) := hfc
          have hEach := HT.out.1.each k x y hfg hyg
          have hsz := HT.out.1.size hfg hyg
          have hsh := HT.out.1.shape hfg hyg
          have hnl : x.name.size ≤ 40 := by
            have := hEach.1
            simp only [nameS, Bool.and_eq_true, decide_eq_true_eq] at this
            exact this.2.1
          have HZ : Hid (∀ w', TabAt w' tb ⟨namesOf l, sh⟩ → Calls Tryd.prog 10 #[.pointer (some ⟨tb, 0, none⟩), .string (⟨#[115, 116, 114, 117, 99, 116, 32]⟩ ++ x.name)] w' (retP (.tuple #[.int .i64 y.size, .int .i64 y.align, .int .i64 0]) w')) := fun w' h => by
            have e7 : (sPre ++ x.name).size = 7 + x.name.size := by rw [ByteArray.size_append]; rfl
            have := size_any tb ⟨namesOf l, sh⟩ (sPre ++ x.name) (by rw [e7]; omega) w' h HT.out.1.good
            rw [hsz] at this
            exact this
          have HLY : Hid (∀ w', TabAt w' tb ⟨namesOf l, sh⟩ → Calls Tryd.prog 11 #[.pointer (some ⟨tb, 0, none⟩), .string x.name] w' (retLy y.places true w')) := fun w' h => by
            have := layout_any tb ⟨namesOf l, sh⟩ x.name (by unfold maxLen; omega) w' h (by rw [hsh]; intro _; exact ⟨hEach.2.2.len.2, hEach.2.2.len.1⟩)
            rw [hsh] at this
            exact this
          have HPP : Hid (∀ w', RStAt w' (.slice ra i rc) l → Calls Tryd.prog 16 #[.slice ra i rc, .int .i64 (k : Int)] w' (retPl (0, y.places.map (·.off), y.size, y.align) w')) := fun w' h => by
            have := rPlaces_any HPRE.out HST.out.1 HX10.out (by rw [HNL.out]; omega) k (by rw [HT.out.2]; omega) x hfg w' h
            rw [pre_places HPRE.out hfg hyg] at this
            exact this
          have HNM : Hid (y.places.map (fun p => (⟨p.name, p.typ⟩ : Fd)) = x.fields) := hEach.2.2.names
          have hpl : y.places.length = x.fields.length := by
            have := congrArg List.length hEach.2.2.names
            simpa using this
          have hcat : ¬ 9223372036854775807 < (⟨#[115, 116, 114, 117, 99, 116, 32]⟩ : ByteArray).size + x.name.size := by
            have : (⟨#[115, 116, 114, 117, 99, 116, 32]⟩ : ByteArray).size = 7 := rfl
            omega
          have hp10 := HX10.out x (List.mem_of_getElem? hfg)
          have HD1 : Hid (w.cell? ⟨sb, off + k * 2 + 1, none⟩ = some (.slice fa y.places.length fc)) := by show _ = _; rw [hpl]; exact d1
          rw [← hpl] at hp10
          clear hc hfg hyg d0 d1 hEach hsz hsh hpl hfc hnl
          obtain ⟨nm, fields⟩ := x
          obtain ⟨pls, ysz, yal⟩ := y
          dsimp only at *
          obtain ⟨pn, hpn⟩ : ∃ pn, pls.length = pn := ⟨_, rfl⟩
          have HPN : Hid (pls.length = pn) := hpn
          rw [hpn] at hp10 HD1
          clear hpn
          go_wp2_with fail
          refine (HLY.out _ HK.out.2.1).mono ?_
          rintro e w5 ⟨pv, rfl, ⟨pa, pc, rfl, -, -, hcell⟩, hb5⟩
          have H5 : Hid (Below w.heap.size w w5 ∧ TabAt w5 tb ⟨namesOf l, sh⟩ ∧ RStAt w5 (.slice ra i rc) l) := ⟨bel_trans HK.out.1 hb5, HK.out.2.1.keep hb5, HK.out.2.2.keep hb5⟩
          have HCL : Hid (PlL w5 pa pls) := hcell
          replace c0 := keep_cell hb5 c0
          clear hb5 HLY hcell HK
          rw [HPN.out]
          simp only [if_true]
          go_wp2_with fail
          refine (HPP.out _ H5.out.2.2).mono ?_
          rintro e w6 ⟨ov, rfl, ⟨oa, oc, rfl, -, hoc⟩, hb6⟩
          have H6 : Hid (Below w.heap.size w w6 ∧ TabAt w6 tb ⟨namesOf l, sh⟩ ∧ RStAt w6 (.slice ra i rc) l) := ⟨bel_trans H5.out.1 hb6, H5.out.2.1.keep hb6, H5.out.2.2.keep hb6⟩
          have HOC : Hid (pls.map (·.off) ≠ [] → ∃ b off : Nat, oa = some ⟨b, off, none⟩ ∧ ∀ (i : Nat) (x : Int), (pls.map (·.off))[i]? = some x → w6.cell? ⟨b, off + i, none⟩ = some (.int .i64 x)) := hoc
          have HB56 : Hid (Below w5.heap.size w5 w6) := hb6
          replace c0 := keep_cell hb6 c0
          clear hb6 HPP hoc H5
          simp only [List.length_map, HPN.out]
          go_wp2_with fail
          refine (HZ.out _ H6.out.2.1).mono ?_
          rintro e w7 ⟨rfl, hb7⟩
          dsimp only
          have H7 : Hid (Below w.heap.size w w7 ∧ TabAt w7 tb ⟨namesOf l, sh⟩ ∧ RStAt w7 (.slice ra i rc) l) := ⟨bel_trans H6.out.1 hb7, H6.out.2.1.keep hb7, H6.out.2.2.keep hb7⟩
          have HB57 : Hid (Below w5.heap.size w5 w7 ∧ Below w6.heap.size w6 w7) := ⟨bel_trans HB56.out hb7, hb7⟩
          clear hb7 HZ H6 HB56 c0
          go_wp2_with fail
          go_loopw [22] (fun v wj => ∃ j : Nat, j ≤ pn ∧ v = .int .i64 (j : Int) ∧ Hid (Below w7.heap.size w7 wj)) (fun v _ => pn - (intOf v).toNat)
          case atStart => exact ⟨0, by omega, rfl, Below.refl _ _⟩
          case round =>
            obtain ⟨j, hj, rfl, HJ⟩ := hrel
            by_cases hjn : j < pn
            · have j0 : (0 : Int) ≤ j := by omega
              have j1 : (j : Int) < pn := by omega
              have hpg := List.getElem?_eq_getElem (l := pls) (i := j) (by rw [HPN.out]; exact hjn)
              obtain ⟨p, hpe⟩ : ∃ f, pls[j]'(by rw [HPN.out]; exact hjn) = f := ⟨_, rfl⟩
              rw [hpe] at hpg
              clear hpe
              obtain ⟨lb, lo, rfl, hcc⟩ := HCL.out (fun e => by rw [e] at hpg; simp at hpg)
              have hb5j := bel_trans HB57.out.1 HJ.out
              have hb6j := bel_trans HB57.out.2 HJ.out
              have hbwj := bel_trans H7.out.1 HJ.out
              have g0 := keep_cell hb5j (hcc j p hpg).1
              have g1 := keep_cell hb5j (hcc j p hpg).2.1
              have g2 := keep_cell hb5j (hcc j p hpg).2.2
              have hog : (pls.map (·.off))[j]? = some p.off := by rw [List.getElem?_map, hpg]; rfl
              obtain ⟨ob, oo, rfl, hoo⟩ := HOC.out (fun e => by rw [e] at hog; simp at hog)
              have g3 := keep_cell hb6j (hoo j p.off hog)
              have hfd : fields[j]? = some ⟨p.name, p.typ⟩ := by rw [← HNM.out, List.getElem?_map, hpg]; rfl
              obtain ⟨fb, fo, rfl, hff⟩ := HFC.out (fun e => by rw [e] at hfd; simp at hfd)
              have t0 := keep_cell hbwj (hff j _ hfd).1
              have t1 := keep_cell hbwj (hff j _ hfd).2
              have c1 := keep_cell hbwj HD1.out
              dsimp only at t0 t1
              obtain ⟨pnm, pty, po⟩ := p
              dsimp only at *
              clear hcc hpg hog hoo hff hfd hb5j hb6j hbwj
              go_wp2_with fail
              go_quiet (fail)
              go_wp2
              go_roundw
              case rel => exact ⟨j + 1, by omega, by simp, by first | exact HJ.out | exact bel_drewN HJ.out _⟩
              case measure => simp [intOf]; omega
            · have HK2 : Hid (Below w.heap.size w wr ∧ TabAt wr tb ⟨namesOf l, sh⟩ ∧ RStAt wr (.slice ra i rc) l) := ⟨bel_trans H7.out.1 HJ.out, H7.out.2.1.keep HJ.out, H7.out.2.2.keep HJ.out⟩
              have hje : j = pn := by omega
              subst hje
              clear H7 HJ
              go_wp2
              refine ⟨?_, ?measure⟩
              (iterate 60 (apply Exists.intro))
              (repeat apply Exists.intro)
              refine ⟨?rel, rfl⟩
              case rel => exact ⟨k + 1, by omega, by simp, HK2.out⟩
              case measure => simp [intOf]; omega
        · have hke : k = i := by omega
          subst hke
          have HSZ : Hid (∀ s w', s.size ≤ 281474976710656 → TabAt w' tb ⟨namesOf l, sh⟩ → Calls Tryd.prog 10 #[.pointer (some ⟨tb, 0, none⟩), .string s] w' (retP (.tuple #[.int .i64 (szF ⟨namesOf l, sh⟩ s).1, .int .i64 (szF ⟨namesOf l, sh⟩ s).2.1, .int .i64 (szF ⟨namesOf l, sh⟩ s).2.2]) w')) := fun s w' hs h => size_any tb ⟨namesOf l, sh⟩ s (by omega) w' h HT.out.1.good
          have HRZ : Hid (∀ s w', s.size ≤ 281474976710656 → RStAt w' (.slice ra k rc) l → Calls Tryd.prog 17 #[.slice ra k rc, .int .i64 (k : Int), .string s] w' (retP (.tuple #[.int .i64 (szF ⟨namesOf l, sh⟩ s).1, .int .i64 (szF ⟨namesOf l, sh⟩ s).2.1, .int .i64 (szF ⟨namesOf l, sh⟩ s).2.2]) w')) := fun s w' hs h => by
            have := rSize_any HPRE.out HST.out.1 HX10.out (by rw [HNL.out]; omega) k (by rw [HT.out.2]; omega) s w' hs h
            rw [List.take_of_length_le (by rw [HT.out.2]; omega)] at this
            exact this
          clear HPRE HX10 HNL HF
          go_wp2_with fail
          go_loopw [23] (fun v wk => ∃ q : Nat, q ≤ m ∧ v = .int .i64 (q : Int) ∧ Hid (Below w.heap.size w wk ∧ TabAt wk tb ⟨namesOf l, sh⟩ ∧ RStAt wk (.slice ra k rc) l)) (fun v _ => m - (intOf v).toNat)
          case atStart => exact ⟨0, by omega, rfl, HK.out⟩
          case round =>
            clear HK
            obtain ⟨q, hq, rfl, HG⟩ := hrel
            by_cases hqm : q < m
            · have q0 : (0 : Int) ≤ q := by omega
              have q1 : (q : Int) < m := by omega
              have hsg := List.getElem?_eq_getElem (l := ask) (i := q) (by rw [HML.out]; exact hqm)
              obtain ⟨s, hse⟩ : ∃ f, ask[q]'(by rw [HML.out]; exact hqm) = f := ⟨_, rfl⟩
              rw [hse] at hsg
              clear hse
              obtain ⟨qb, qo, rfl, hcc⟩ := HQ.out (fun e => by rw [e] at hsg; simp at hsg)
              have HA : Hid (w.cell? ⟨qb, qo + q, none⟩ = some (.string s) ∧ s.size ≤ 281474976710656) := ⟨hcc q s hsg, HST.out.2 s (List.mem_of_getElem? hsg)⟩
              have a0 := keep_cell HG.out.1 HA.out.1
              have hsc := scF_eq ⟨namesOf l, sh⟩ s
              have HZ1 := HSZ.out s
              have HZ2 := HRZ.out s
              have HEL : Hid (∀ w', Calls Tryd.prog 13 #[.string s] w' (retP (.tuple #[.string (elF s).1, .bool (elF s).2]) w')) := fun w' => elem_any s HA.out.2 w'
              have HRL : Hid (∀ w', Calls Tryd.prog 18 #[.string s] w' (retP (.tuple #[.string (elF s).1, .bool (elF s).2]) w')) := fun w' => rElem_any s (by have := HA.out.2; omega) w'
              have HSC : Hid (∀ w', TabAt w' tb ⟨namesOf l, sh⟩ → Calls Tryd.prog 19 #[.pointer (some ⟨tb, 0, none⟩), .string s] w' (retP (.bool (scF ⟨namesOf l, sh⟩ s)) w')) := fun w' h => scalar_any tb ⟨namesOf l, sh⟩ s (by have := HA.out.2; omega) w' h
              have HIN : Hid (∀ w', Calls Tryd.prog 20 #[.string s] w' fun e w'' => e = .returned (.bool (intS s)) ∧ w'' = w') := fun w' => rInt_any s w'
              have HPO : Hid (∀ w', Calls Tryd.prog 21 #[.string s] w' fun e w'' => e = .returned (.bool (starS s)) ∧ w'' = w') := fun w' => rPointer_any s (by have := HA.out.2; omega) w'
              rw [hsc] at HSC
              generalize szF ⟨namesOf l, sh⟩ s = z at *
              generalize elF s = el at *
              obtain ⟨z0, z1, z2⟩ := z
              obtain ⟨el1, el2⟩ := el
              generalize intS s = bi at *
              generalize starS s = bs at *
              have HZ3 : Hid (∀ w', TabAt w' tb ⟨namesOf l, sh⟩ → Calls Tryd.prog 10 #[.pointer (some ⟨tb, 0, none⟩), .string s] w' (retP (.tuple #[.int .i64 z0, .int .i64 z1, .int .i64 z2]) w')) := fun w' h => HZ1 w' HA.out.2 h
              have HZ4 : Hid (∀ w', RStAt w' (.slice ra k rc) l → Calls Tryd.prog 17 #[.slice ra k rc, .int .i64 (k : Int), .string s] w' (retP (.tuple #[.int .i64 z0, .int .i64 z1, .int .i64 z2]) w')) := fun w' h => HZ2 w' HA.out.2 h
              clear HZ1 HZ2 hsc hcc hsg
              dsimp only at *
              go_wp2_with fail
              refine (HZ3.out _ HG.out.2.1).mono ?_
              rintro e w5 ⟨rfl, hb5⟩
              dsimp only
              have H5 : Hid (Below w.heap.size w w5 ∧ TabAt w5 tb ⟨namesOf l, sh⟩ ∧ RStAt w5 (.slice ra k rc) l) := ⟨bel_trans HG.out.1 hb5, HG.out.2.1.keep hb5, HG.out.2.2.keep hb5⟩
              replace a0 := keep_cell hb5 a0
              clear hb5 HG HZ3
              go_wp2_with fail
              refine (HZ4.out _ H5.out.2.2).mono ?_
              rintro e w6 ⟨rfl, hb6⟩
              dsimp only
              have H6 : Hid (Below w.heap.size w w6 ∧ TabAt w6 tb ⟨namesOf l, sh⟩ ∧ RStAt w6 (.slice ra k rc) l) := ⟨bel_trans H5.out.1 hb6, H5.out.2.1.keep hb6, H5.out.2.2.keep hb6⟩
              replace a0 := keep_cell hb6 a0
              clear hb6 H5 HZ4
              go_wp2_with fail
              refine (HEL.out _).mono ?_
              rintro e w7 ⟨rfl, hb7⟩
              dsimp only
              have H7 : Hid (Below w.heap.size w w7 ∧ TabAt w7 tb ⟨namesOf l, sh⟩ ∧ RStAt w7 (.slice ra k rc) l) := ⟨bel_trans H6.out.1 hb7, H6.out.2.1.keep hb7, H6.out.2.2.keep hb7⟩
              replace a0 := keep_cell hb7 a0
              clear hb7 H6 HEL
              go_wp2_with fail
              refine (HRL.out _).mono ?_
              rintro e w8 ⟨rfl, hb8⟩
              dsimp only
              have H8 : Hid (Below w.heap.size w w8 ∧ TabAt w8 tb ⟨namesOf l, sh⟩ ∧ RStAt w8 (.slice ra k rc) l) := ⟨bel_trans H7.out.1 hb8, H7.out.2.1.keep hb8, H7.out.2.2.keep hb8⟩
              replace a0 := keep_cell hb8 a0
              clear hb8 H7 HRL
              go_wp2_with fail
              cases bi
              · cases bs
                · simp only [Bool.false_or, Bool.false_and] at HSC
                  refine wp_region_held_drew (S := (fun w' => w'.cell? ⟨qb, qo + q, none⟩ = some (.string s) ∧ Below w.heap.size w w' ∧ TabAt w' tb ⟨namesOf l, sh⟩ ∧ RStAt w' (.slice ra k rc) l)) (by kernel_rfl) (⟨a0, Below.drew H8.out.1, H8.out.2.1.keep (Below.drew (Below.refl _ _)), H8.out.2.2.keep (Below.drew (Below.refl _ _))⟩) (fun hHeld => ?_)
                  refine wpAnyH_take (i := 0) (oi := ?oiC1x1x0) (v := ?vvC1x1x0) ?hiC1x1x0 (by kernel_rfl) (by kernel_rfl) (by kernel_rfl) ?hqC1x1x0 ?hyC1x1x0 hHeld ?_
                  case hiC1x1x0 => simp only [List.getElem?_toArray, List.getElem?_cons_succ, List.getElem?_cons_zero]; rfl
                  case hqC1x1x0 => exact fun _ _ _ h => h
                  case hyC1x1x0 => (refine Or.inl ⟨by rfl, ?_⟩; intro w' hSw; (try dsimp only at hSw); go_simp; (try (with_reducible rfl)))
                  simp only [Act.put, List.setIfInBounds_toArray, List.set_cons_zero, List.set_cons_succ]
                  refine wpAnyH_take (i := 1) (oi := ?oiC1x2x1) (v := ?vvC1x2x1) ?hiC1x2x1 (by kernel_rfl) (by kernel_rfl) (by kernel_rfl) ?hqC1x2x1 ?hyC1x2x1 hHeld ?_
                  case hiC1x2x1 => simp only [List.getElem?_toArray, List.getElem?_cons_succ, List.getElem?_cons_zero]; rfl
                  case hqC1x2x1 => exact fun _ _ _ h => h
                  case hyC1x2x1 => (refine Or.inl ⟨by rfl, ?_⟩; intro w' hSw; (try dsimp only at hSw); go_simp; (try (with_reducible rfl)))
                  simp only [Act.put, List.setIfInBounds_toArray, List.set_cons_zero, List.set_cons_succ]
                  refine wpAnyH_take (i := 2) (oi := ?oiC1x3x2) (v := ?vvC1x3x2) ?hiC1x3x2 (by kernel_rfl) (by kernel_rfl) (by kernel_rfl) ?hqC1x3x2 ?hyC1x3x2 hHeld ?_
                  case hiC1x3x2 => simp only [List.getElem?_toArray, List.getElem?_cons_succ, List.getElem?_cons_zero]; rfl
                  case hqC1x3x2 => exact fun _ _ _ h => h
                  case hyC1x3x2 => (refine Or.inl ⟨by rfl, ?_⟩; intro w' hSw; (try dsimp only at hSw); go_simp; (try (with_reducible rfl)))
                  simp only [Act.put, List.setIfInBounds_toArray, List.set_cons_zero, List.set_cons_succ]
                  refine wpAnyH_take (i := 3) (oi := ?oiC1x4x3) (v := ?vvC1x4x3) ?hiC1x4x3 (by kernel_rfl) (by kernel_rfl) (by kernel_rfl) ?hqC1x4x3 ?hyC1x4x3 hHeld ?_
                  case hiC1x4x3 => simp only [List.getElem?_toArray, List.getElem?_cons_succ, List.getElem?_cons_zero]; rfl
                  case hqC1x4x3 => exact fun _ _ _ h => h
                  case hyC1x4x3 => (refine Or.inl ⟨by rfl, ?_⟩; intro w' hSw; (try dsimp only at hSw); go_simp; (try (with_reducible rfl)))
                  simp only [Act.put, List.setIfInBounds_toArray, List.set_cons_zero, List.set_cons_succ]
                  refine wpAnyH_take (i := 4) (oi := ?oiC1x5x4) (v := ?vvC1x5x4) ?hiC1x5x4 (by kernel_rfl) (by kernel_rfl) (by kernel_rfl) ?hqC1x5x4 ?hyC1x5x4 hHeld ?_
                  case hiC1x5x4 => simp only [List.getElem?_toArray, List.getElem?_cons_succ, List.getElem?_cons_zero]; rfl
                  case hqC1x5x4 => exact fun _ _ _ h => h
                  case hyC1x5x4 => (refine Or.inl ⟨by rfl, ?_⟩; intro w' hSw; (try dsimp only at hSw); go_simp; (try (with_reducible rfl)))
                  simp only [Act.put, List.setIfInBounds_toArray, List.set_cons_zero, List.set_cons_succ]
                  refine wpAnyH_take (i := 5) (oi := ?oiC1x6x5) (v := ?vvC1x6x5) ?hiC1x6x5 (by kernel_rfl) (by kernel_rfl) (by kernel_rfl) ?hqC1x6x5 ?hyC1x6x5 hHeld ?_
                  case hiC1x6x5 => simp only [List.getElem?_toArray, List.getElem?_cons_succ, List.getElem?_cons_zero]; rfl
                  case hqC1x6x5 => exact fun _ _ _ h => h
                  case hyC1x6x5 => (refine Or.inl ⟨by rfl, ?_⟩; intro w' hSw; (try dsimp only at hSw); go_simp; (try (with_reducible rfl)))
                  simp only [Act.put, List.setIfInBounds_toArray, List.set_cons_zero, List.set_cons_succ]
                  refine wpAnyH_take (i := 6) (oi := ?oiC1x7x6) (v := ?vvC1x7x6) ?hiC1x7x6 (by kernel_rfl) (by kernel_rfl) (by kernel_rfl) ?hqC1x7x6 ?hyC1x7x6 hHeld ?_
                  case hiC1x7x6 => simp only [List.getElem?_toArray, List.getElem?_cons_succ, List.getElem?_cons_zero]; rfl
                  case hqC1x7x6 => exact fun _ _ _ h => h
                  case hyC1x7x6 => (refine Or.inl ⟨by rfl, ?_⟩; intro w' hSw; (try dsimp only at hSw); go_simp; (try (with_reducible rfl)))
                  simp only [Act.put, List.setIfInBounds_toArray, List.set_cons_zero, List.set_cons_succ]
                  refine wpAnyH_take (i := 7) (oi := ?oiC1x8x7) (v := ?vvC1x8x7) ?hiC1x8x7 (by kernel_rfl) (by kernel_rfl) (by kernel_rfl) ?hqC1x8x7 ?hyC1x8x7 hHeld ?_
                  case hiC1x8x7 => simp only [List.getElem?_toArray, List.getElem?_cons_succ, List.getElem?_cons_zero]; rfl
                  case hqC1x8x7 => exact fun _ _ _ h => h
                  case hyC1x8x7 => (refine Or.inl ⟨by rfl, ?_⟩; intro w' hSw; (try dsimp only at hSw); go_simp; (try (with_reducible rfl)))
                  simp only [Act.put, List.setIfInBounds_toArray, List.set_cons_zero, List.set_cons_succ]
                  refine wpAnyH_take (i := 8) (oi := ?oiC1x9x8) (v := ?vvC1x9x8) ?hiC1x9x8 (by kernel_rfl) (by kernel_rfl) (by kernel_rfl) ?hqC1x9x8 ?hyC1x9x8 hHeld ?_
                  case hiC1x9x8 => simp only [List.getElem?_toArray, List.getElem?_cons_succ, List.getElem?_cons_zero]; rfl
                  case hqC1x9x8 => exact fun _ _ _ h => h
                  case hyC1x9x8 => (refine Or.inl ⟨by rfl, ?_⟩; intro w' hSw; (try dsimp only at hSw); go_simp; (try (with_reducible rfl)))
                  simp only [Act.put, List.setIfInBounds_toArray, List.set_cons_zero, List.set_cons_succ]
                  refine wpAnyH_take (i := 9) (oi := ?oiC1x10x9) (v := ?vvC1x10x9) ?hiC1x10x9 (by kernel_rfl) (by kernel_rfl) (by kernel_rfl) ?hqC1x10x9 ?hyC1x10x9 hHeld ?_
                  case hiC1x10x9 => simp only [List.getElem?_toArray, List.getElem?_cons_succ, List.getElem?_cons_zero]; rfl
                  case hqC1x10x9 => exact fun _ _ _ h => h
                  case hyC1x10x9 => (refine Or.inl ⟨by rfl, ?_⟩; intro w' hSw; (try dsimp only at hSw); go_simp; (try (with_reducible rfl)))
                  simp only [Act.put, List.setIfInBounds_toArray, List.set_cons_zero, List.set_cons_succ]
                  refine wpAnyH_take (i := 10) (oi := ?oiC1x11x10) (v := ?vvC1x11x10) ?hiC1x11x10 (by kernel_rfl) (by kernel_rfl) (by kernel_rfl) ?hqC1x11x10 ?hyC1x11x10 hHeld ?_
                  case hiC1x11x10 => simp only [List.getElem?_toArray, List.getElem?_cons_succ, List.getElem?_cons_zero]; rfl
                  case hqC1x11x10 => exact fun _ _ _ h => h
                  case hyC1x11x10 => (refine Or.inl ⟨by rfl, ?_⟩; intro w' hSw; (try dsimp only at hSw); go_simp; (try (with_reducible rfl)))
                  simp only [Act.put, List.setIfInBounds_toArray, List.set_cons_zero, List.set_cons_succ]
                  refine wpAnyH_take (i := 11) (oi := ?oiC1x12x11) (v := ?vvC1x12x11) ?hiC1x12x11 (by kernel_rfl) (by kernel_rfl) (by kernel_rfl) ?hqC1x12x11 ?hyC1x12x11 hHeld ?_
                  case hiC1x12x11 => simp only [List.getElem?_toArray, List.getElem?_cons_succ, List.getElem?_cons_zero]; rfl
                  case hqC1x12x11 => exact fun _ _ _ h => h
                  case hyC1x12x11 => (refine Or.inl ⟨by rfl, ?_⟩; intro w' hSw; (try dsimp only at hSw); go_simp; (try (with_reducible rfl)))
                  simp only [Act.put, List.setIfInBounds_toArray, List.set_cons_zero, List.set_cons_succ]
                  refine wpAnyH_take (i := 12) (oi := ?oiC1x13x12) (v := ?vvC1x13x12) ?hiC1x13x12 (by kernel_rfl) (by kernel_rfl) (by kernel_rfl) ?hqC1x13x12 ?hyC1x13x12 hHeld ?_
                  case hiC1x13x12 => simp only [List.getElem?_toArray, List.getElem?_cons_succ, List.getElem?_cons_zero]; rfl
                  case hqC1x13x12 => exact fun _ _ _ h => h
                  case hyC1x13x12 => (refine Or.inl ⟨by rfl, ?_⟩; intro w' hSw; (try dsimp only at hSw); go_simp; (try (with_reducible rfl)))
                  simp only [Act.put, List.setIfInBounds_toArray, List.set_cons_zero, List.set_cons_succ]
                  refine wpAnyH_take (i := 13) (oi := ?oiC1x14x13) (v := ?vvC1x14x13) ?hiC1x14x13 (by kernel_rfl) (by kernel_rfl) (by kernel_rfl) ?hqC1x14x13 ?hyC1x14x13 hHeld ?_
                  case hiC1x14x13 => simp only [List.getElem?_toArray, List.getElem?_cons_succ, List.getElem?_cons_zero]; rfl
                  case hqC1x14x13 => exact fun _ _ _ h => h
                  case hyC1x14x13 => (refine Or.inl ⟨by rfl, ?_⟩; intro w' hSw; (try dsimp only at hSw); go_simp; (try (with_reducible rfl)))
                  simp only [Act.put, List.setIfInBounds_toArray, List.set_cons_zero, List.set_cons_succ]
                  refine wpAnyH_take (i := 15) (oi := ?oiC1x15x15) (v := ?vvC1x15x15) ?hiC1x15x15 (by kernel_rfl) (by kernel_rfl) (by kernel_rfl) ?hqC1x15x15 ?hyC1x15x15 hHeld ?_
                  case hiC1x15x15 => simp only [List.getElem?_toArray, List.getElem?_cons_succ, List.getElem?_cons_zero]; rfl
                  case hqC1x15x15 => exact fun _ _ _ h => h
                  case hyC1x15x15 => (refine Or.inl ⟨by rfl, ?_⟩; intro w' hSw; (try dsimp only at hSw); go_simp; (try (with_reducible rfl)))
                  simp only [Act.put, List.setIfInBounds_toArray, List.set_cons_zero, List.set_cons_succ]
                  refine wpAnyH_take (i := 16) (oi := ?oiC1x16x16) (v := ?vvC1x16x16) ?hiC1x16x16 (by kernel_rfl) (by kernel_rfl) (by kernel_rfl) ?hqC1x16x16 ?hyC1x16x16 hHeld ?_
                  case hiC1x16x16 => simp only [List.getElem?_toArray, List.getElem?_cons_succ, List.getElem?_cons_zero]; rfl
                  case hqC1x16x16 => exact fun _ _ _ h => h
                  case hyC1x16x16 => (refine Or.inl ⟨by rfl, ?_⟩; intro w' hSw; (try dsimp only at hSw); go_simp; (try (with_reducible rfl)))
                  simp only [Act.put, List.setIfInBounds_toArray, List.set_cons_zero, List.set_cons_succ]
                  refine wpAnyH_take (i := 17) (oi := ?oiC1x17x17) (v := ?vvC1x17x17) ?hiC1x17x17 (by kernel_rfl) (by kernel_rfl) (by kernel_rfl) ?hqC1x17x17 ?hyC1x17x17 hHeld ?_
                  case hiC1x17x17 => simp only [List.getElem?_toArray, List.getElem?_cons_succ, List.getElem?_cons_zero]; rfl
                  case hqC1x17x17 => exact fun _ _ _ h => h
                  case hyC1x17x17 => (refine Or.inl ⟨by rfl, ?_⟩; intro w' hSw; (try dsimp only at hSw); go_simp; (try (with_reducible rfl)))
                  simp only [Act.put, List.setIfInBounds_toArray, List.set_cons_zero, List.set_cons_succ]
                  refine wpAnyH_take (i := 18) (oi := ?oiC1x18x18) (v := ?vvC1x18x18) ?hiC1x18x18 (by kernel_rfl) (by kernel_rfl) (by kernel_rfl) ?hqC1x18x18 ?hyC1x18x18 hHeld ?_
                  case hiC1x18x18 => simp only [List.getElem?_toArray, List.getElem?_cons_succ, List.getElem?_cons_zero]; rfl
                  case hqC1x18x18 => exact fun _ _ _ h => h
                  case hyC1x18x18 => (refine Or.inl ⟨by rfl, ?_⟩; intro w' hSw; (try dsimp only at hSw); go_simp; (try (with_reducible rfl)))
                  simp only [Act.put, List.setIfInBounds_toArray, List.set_cons_zero, List.set_cons_succ]
                  refine wpAnyH_ready (rs := [14]) (by kernel_rfl) (by simp) ?_
                  refine (AllReadyH.cons (o := ?oiC1x19x14) ?hiC1x19x14 (fun K hK => ?gC1x19x14) AllReadyH.nil)
                  case hiC1x19x14 => simp only [List.getElem?_toArray, List.getElem?_cons_succ, List.getElem?_cons_zero]; rfl
                  case gC1x19x14 =>
                    go_simp
                    refine (HSC.out _ hHeld.2.2.1).mono ?_
                    rintro e v2 ⟨rfl, hb9⟩
                    dsimp only
                    refine hK.out _ _ (⟨keep_cell hb9 hHeld.1, bel_trans hHeld.2.1 hb9, hHeld.2.2.1.keep hb9, hHeld.2.2.2.keep hb9⟩) (fun hN => ?_)
                    clear hK K hHeld
                    have hHeld := hN
                    clear hN
                    try simp only [Act.put, List.setIfInBounds_toArray, List.set_cons_zero, List.set_cons_succ]
                    refine wpAnyH_ready (rs := [19]) (by kernel_rfl) (by simp) ?_
                    refine (AllReadyH.cons (o := ?oiC1x20x19) ?hiC1x20x19 (fun K hK => ?gC1x20x19) AllReadyH.nil)
                    case hiC1x20x19 => simp only [List.getElem?_toArray, List.getElem?_cons_succ, List.getElem?_cons_zero]; rfl
                    case gC1x20x19 =>
                      go_simp
                      refine (HIN.out _).mono ?_
                      rintro e v3 ⟨rfl, hw⟩
                      replace hw := hw.symm
                      subst hw
                      dsimp only
                      refine hK.out _ _ (hHeld) (fun hN => ?_)
                      clear hK K hHeld
                      have hHeld := hN
                      clear hN
                      try simp only [Act.put, List.setIfInBounds_toArray, List.set_cons_zero, List.set_cons_succ]
                      refine wpAnyH_take (i := 20) (oi := ?oiC1x21x20) (v := ?vvC1x21x20) ?hiC1x21x20 (by kernel_rfl) (by kernel_rfl) (by kernel_rfl) ?hqC1x21x20 ?hyC1x21x20 hHeld ?_
                      case hiC1x21x20 => simp only [List.getElem?_toArray, List.getElem?_cons_succ, List.getElem?_cons_zero]; rfl
                      case hqC1x21x20 => exact fun _ _ _ h => h
                      case hyC1x21x20 => (refine Or.inl ⟨by rfl, ?_⟩; intro w' hSw; (try dsimp only at hSw); go_simp; (try (with_reducible rfl)))
                      simp only [Act.put, List.setIfInBounds_toArray, List.set_cons_zero, List.set_cons_succ]
                      refine wpAnyH_take (i := 21) (oi := ?oiC1x22x21) (v := ?vvC1x22x21) ?hiC1x22x21 (by kernel_rfl) (by kernel_rfl) (by kernel_rfl) ?hqC1x22x21 ?hyC1x22x21 hHeld ?_
                      case hiC1x22x21 => simp only [List.getElem?_toArray, List.getElem?_cons_succ, List.getElem?_cons_zero]; rfl
                      case hqC1x22x21 => exact fun _ _ _ h => h
                      case hyC1x22x21 => (refine Or.inl ⟨by rfl, ?_⟩; intro w' hSw; (try dsimp only at hSw); go_simp; (try (with_reducible rfl)))
                      simp only [Act.put, List.setIfInBounds_toArray, List.set_cons_zero, List.set_cons_succ]
                      refine wpAnyH_take (i := 22) (oi := ?oiC1x23x22) (v := ?vvC1x23x22) ?hiC1x23x22 (by kernel_rfl) (by kernel_rfl) (by kernel_rfl) ?hqC1x23x22 ?hyC1x23x22 hHeld ?_
                      case hiC1x23x22 => simp only [List.getElem?_toArray, List.getElem?_cons_succ, List.getElem?_cons_zero]; rfl
                      case hqC1x23x22 => exact fun _ _ _ h => h
                      case hyC1x23x22 => (refine Or.inl ⟨by rfl, ?_⟩; intro w' hSw; (try dsimp only at hSw); go_simp; (try (with_reducible rfl)))
                      simp only [Act.put, List.setIfInBounds_toArray, List.set_cons_zero, List.set_cons_succ]
                      refine wpAnyH_take (i := 23) (oi := ?oiC1x24x23) (v := ?vvC1x24x23) ?hiC1x24x23 (by kernel_rfl) (by kernel_rfl) (by kernel_rfl) ?hqC1x24x23 ?hyC1x24x23 hHeld ?_
                      case hiC1x24x23 => simp only [List.getElem?_toArray, List.getElem?_cons_succ, List.getElem?_cons_zero]; rfl
                      case hqC1x24x23 => exact fun _ _ _ h => h
                      case hyC1x24x23 => (refine Or.inl ⟨by rfl, ?_⟩; intro w' hSw; (try dsimp only at hSw); go_simp; (try (with_reducible rfl)))
                      simp only [Act.put, List.setIfInBounds_toArray, List.set_cons_zero, List.set_cons_succ]
                      refine wpAnyH_take (i := 24) (oi := ?oiC1x25x24) (v := ?vvC1x25x24) ?hiC1x25x24 (by kernel_rfl) (by kernel_rfl) (by kernel_rfl) ?hqC1x25x24 ?hyC1x25x24 hHeld ?_
                      case hiC1x25x24 => simp only [List.getElem?_toArray, List.getElem?_cons_succ, List.getElem?_cons_zero]; rfl
                      case hqC1x25x24 => exact fun _ _ _ h => h
                      case hyC1x25x24 => (refine Or.inl ⟨by rfl, ?_⟩; intro w' hSw; (try dsimp only at hSw); go_simp; (try (with_reducible rfl)))
                      simp only [Act.put, List.setIfInBounds_toArray, List.set_cons_zero, List.set_cons_succ]
                      refine wpAnyH_ready (rs := [25]) (by kernel_rfl) (by simp) ?_
                      refine (AllReadyH.cons (o := ?oiC1x26x25) ?hiC1x26x25 (fun K hK => ?gC1x26x25) AllReadyH.nil)
                      case hiC1x26x25 => simp only [List.getElem?_toArray, List.getElem?_cons_succ, List.getElem?_cons_zero]; rfl
                      case gC1x26x25 =>
                        go_simp
                        refine (HPO.out _).mono ?_
                        rintro e v4 ⟨rfl, hw⟩
                        replace hw := hw.symm
                        subst hw
                        dsimp only
                        refine hK.out _ _ (hHeld) (fun hN => ?_)
                        clear hK K hHeld
                        have hHeld := hN
                        clear hN
                        try simp only [Act.put, List.setIfInBounds_toArray, List.set_cons_zero, List.set_cons_succ]
                        refine wpAnyH_take (i := 26) (oi := ?oiC1x27x26) (v := ?vvC1x27x26) ?hiC1x27x26 (by kernel_rfl) (by kernel_rfl) (by kernel_rfl) ?hqC1x27x26 ?hyC1x27x26 hHeld ?_
                        case hiC1x27x26 => simp only [List.getElem?_toArray, List.getElem?_cons_succ, List.getElem?_cons_zero]; rfl
                        case hqC1x27x26 => exact fun _ _ _ h => h
                        case hyC1x27x26 => (refine Or.inl ⟨by rfl, ?_⟩; intro w' hSw; (try dsimp only at hSw); go_simp; (try (with_reducible rfl)))
                        simp only [Act.put, List.setIfInBounds_toArray, List.set_cons_zero, List.set_cons_succ]
                        refine wpAnyH_take (i := 27) (oi := ?oiC1x28x27) (v := undef) ?hiC1x28x27 (by kernel_rfl) (by kernel_rfl) (by kernel_rfl) ?hqC1x28x27 ?hyC1x28x27 hHeld ?_
                        case hiC1x28x27 => simp only [List.getElem?_toArray, List.getElem?_cons_succ, List.getElem?_cons_zero]; rfl
                        case hqC1x28x27 => exact fun _ _ _ h => h
                        case hyC1x28x27 => exact Or.inr ⟨by rfl, rfl⟩
                        simp only [Act.put, List.setIfInBounds_toArray, List.set_cons_zero, List.set_cons_succ]
                        refine wpAnyH_take (i := 28) (oi := ?oiC1x29x28) (v := undef) ?hiC1x29x28 (by kernel_rfl) (by kernel_rfl) (by kernel_rfl) ?hqC1x29x28 ?hyC1x29x28 hHeld ?_
                        case hiC1x29x28 => simp only [List.getElem?_toArray, List.getElem?_cons_succ, List.getElem?_cons_zero]; rfl
                        case hqC1x29x28 => exact fun _ _ _ h => h
                        case hyC1x29x28 => exact Or.inr ⟨by rfl, rfl⟩
                        simp only [Act.put, List.setIfInBounds_toArray, List.set_cons_zero, List.set_cons_succ]
                        refine wpAnyH_take (i := 29) (oi := ?oiC1x30x29) (v := ?vvC1x30x29) ?hiC1x30x29 (by kernel_rfl) (by kernel_rfl) (by kernel_rfl) ?hqC1x30x29 ?hyC1x30x29 hHeld ?_
                        case hiC1x30x29 => simp only [List.getElem?_toArray, List.getElem?_cons_succ, List.getElem?_cons_zero]; rfl
                        case hqC1x30x29 => exact fun _ _ _ h => h
                        case hyC1x30x29 => (refine Or.inl ⟨by rfl, ?_⟩; intro w' hSw; (try dsimp only at hSw); go_simp; (try (with_reducible rfl)))
                        simp only [Act.put, List.setIfInBounds_toArray, List.set_cons_zero, List.set_cons_succ]
                        refine wpAnyH_take (i := 30) (oi := ?oiC1x31x30) (v := ?vvC1x31x30) ?hiC1x31x30 (by kernel_rfl) (by kernel_rfl) (by kernel_rfl) ?hqC1x31x30 ?hyC1x31x30 hHeld ?_
                        case hiC1x31x30 => simp only [List.getElem?_toArray, List.getElem?_cons_succ, List.getElem?_cons_zero]; rfl
                        case hqC1x31x30 => exact fun _ _ _ h => h
                        case hyC1x31x30 => (refine Or.inl ⟨by rfl, ?_⟩; intro w' hSw; (try dsimp only at hSw); go_simp; (try (with_reducible rfl)))
                        simp only [Act.put, List.setIfInBounds_toArray, List.set_cons_zero, List.set_cons_succ]
                        refine wpAnyH_take (i := 31) (oi := ?oiC1x32x31) (v := ?vvC1x32x31) ?hiC1x32x31 (by kernel_rfl) (by kernel_rfl) (by kernel_rfl) ?hqC1x32x31 ?hyC1x32x31 hHeld ?_
                        case hiC1x32x31 => simp only [List.getElem?_toArray, List.getElem?_cons_succ, List.getElem?_cons_zero]; rfl
                        case hqC1x32x31 => exact fun _ _ _ h => h
                        case hyC1x32x31 => (refine Or.inl ⟨by rfl, ?_⟩; intro w' hSw; (try dsimp only at hSw); go_simp; (try (with_reducible rfl)))
                        simp only [Act.put, List.setIfInBounds_toArray, List.set_cons_zero, List.set_cons_succ]
                        refine wpAnyH_take (i := 32) (oi := ?oiC1x33x32) (v := ?vvC1x33x32) ?hiC1x33x32 (by kernel_rfl) (by kernel_rfl) (by kernel_rfl) ?hqC1x33x32 ?hyC1x33x32 hHeld ?_
                        case hiC1x33x32 => simp only [List.getElem?_toArray, List.getElem?_cons_succ, List.getElem?_cons_zero]; rfl
                        case hqC1x33x32 => exact fun _ _ _ h => h
                        case hyC1x33x32 => (refine Or.inl ⟨by rfl, ?_⟩; intro w' hSw; (try dsimp only at hSw); go_simp; (try (with_reducible rfl)))
                        simp only [Act.put, List.setIfInBounds_toArray, List.set_cons_zero, List.set_cons_succ]
                        refine wpAnyH_done (by kernel_rfl) ?_ _
                        have HE : Hid (Below w.heap.size w _ ∧ TabAt _ tb ⟨namesOf l, sh⟩ ∧ RStAt _ (.slice ra k rc) l) := hHeld.2
                        clear hHeld
                        go_wp2
                        refine ⟨?_, ?measure⟩
                        (iterate 60 (apply Exists.intro))
                        (repeat apply Exists.intro)
                        refine ⟨?rel, rfl⟩
                        case rel => exact ⟨q + 1, by omega, by simp, HE.out⟩
                        case measure => simp [intOf]; omega
                · by_cases hz : z2 = 0
                  · subst hz
                    simp only [Bool.false_or, Bool.true_and, beq_self_eq_true] at HSC
                    refine wp_region_held_drew (S := (fun w' => w'.cell? ⟨qb, qo + q, none⟩ = some (.string s) ∧ Below w.heap.size w w' ∧ TabAt w' tb ⟨namesOf l, sh⟩ ∧ RStAt w' (.slice ra k rc) l)) (by kernel_rfl) (⟨a0, Below.drew H8.out.1, H8.out.2.1.keep (Below.drew (Below.refl _ _)), H8.out.2.2.keep (Below.drew (Below.refl _ _))⟩) (fun hHeld => ?_)
                    refine wpAnyH_take (i := 0) (oi := ?oiC2x1x0) (v := ?vvC2x1x0) ?hiC2x1x0 (by kernel_rfl) (by kernel_rfl) (by kernel_rfl) ?hqC2x1x0 ?hyC2x1x0 hHeld ?_
                    case hiC2x1x0 => simp only [List.getElem?_toArray, List.getElem?_cons_succ, List.getElem?_cons_zero]; rfl
                    case hqC2x1x0 => exact fun _ _ _ h => h
                    case hyC2x1x0 => (refine Or.inl ⟨by rfl, ?_⟩; intro w' hSw; (try dsimp only at hSw); go_simp; (try (with_reducible rfl)))
                    simp only [Act.put, List.setIfInBounds_toArray, List.set_cons_zero, List.set_cons_succ]
                    refine wpAnyH_take (i := 1) (oi := ?oiC2x2x1) (v := ?vvC2x2x1) ?hiC2x2x1 (by kernel_rfl) (by kernel_rfl) (by kernel_rfl) ?hqC2x2x1 ?hyC2x2x1 hHeld ?_
                    case hiC2x2x1 => simp only [List.getElem?_toArray, List.getElem?_cons_succ, List.getElem?_cons_zero]; rfl
                    case hqC2x2x1 => exact fun _ _ _ h => h
                    case hyC2x2x1 => (refine Or.inl ⟨by rfl, ?_⟩; intro w' hSw; (try dsimp only at hSw); go_simp; (try (with_reducible rfl)))
                    simp only [Act.put, List.setIfInBounds_toArray, List.set_cons_zero, List.set_cons_succ]
                    refine wpAnyH_take (i := 2) (oi := ?oiC2x3x2) (v := ?vvC2x3x2) ?hiC2x3x2 (by kernel_rfl) (by kernel_rfl) (by kernel_rfl) ?hqC2x3x2 ?hyC2x3x2 hHeld ?_
                    case hiC2x3x2 => simp only [List.getElem?_toArray, List.getElem?_cons_succ, List.getElem?_cons_zero]; rfl
                    case hqC2x3x2 => exact fun _ _ _ h => h
                    case hyC2x3x2 => (refine Or.inl ⟨by rfl, ?_⟩; intro w' hSw; (try dsimp only at hSw); go_simp; (try (with_reducible rfl)))
                    simp only [Act.put, List.setIfInBounds_toArray, List.set_cons_zero, List.set_cons_succ]
                    refine wpAnyH_take (i := 3) (oi := ?oiC2x4x3) (v := ?vvC2x4x3) ?hiC2x4x3 (by kernel_rfl) (by kernel_rfl) (by kernel_rfl) ?hqC2x4x3 ?hyC2x4x3 hHeld ?_
                    case hiC2x4x3 => simp only [List.getElem?_toArray, List.getElem?_cons_succ, List.getElem?_cons_zero]; rfl
                    case hqC2x4x3 => exact fun _ _ _ h => h
                    case hyC2x4x3 => (refine Or.inl ⟨by rfl, ?_⟩; intro w' hSw; (try dsimp only at hSw); go_simp; (try (with_reducible rfl)))
                    simp only [Act.put, List.setIfInBounds_toArray, List.set_cons_zero, List.set_cons_succ]
                    refine wpAnyH_take (i := 4) (oi := ?oiC2x5x4) (v := ?vvC2x5x4) ?hiC2x5x4 (by kernel_rfl) (by kernel_rfl) (by kernel_rfl) ?hqC2x5x4 ?hyC2x5x4 hHeld ?_
                    case hiC2x5x4 => simp only [List.getElem?_toArray, List.getElem?_cons_succ, List.getElem?_cons_zero]; rfl
                    case hqC2x5x4 => exact fun _ _ _ h => h
                    case hyC2x5x4 => (refine Or.inl ⟨by rfl, ?_⟩; intro w' hSw; (try dsimp only at hSw); go_simp; (try (with_reducible rfl)))
                    simp only [Act.put, List.setIfInBounds_toArray, List.set_cons_zero, List.set_cons_succ]
                    refine wpAnyH_take (i := 5) (oi := ?oiC2x6x5) (v := ?vvC2x6x5) ?hiC2x6x5 (by kernel_rfl) (by kernel_rfl) (by kernel_rfl) ?hqC2x6x5 ?hyC2x6x5 hHeld ?_
                    case hiC2x6x5 => simp only [List.getElem?_toArray, List.getElem?_cons_succ, List.getElem?_cons_zero]; rfl
                    case hqC2x6x5 => exact fun _ _ _ h => h
                    case hyC2x6x5 => (refine Or.inl ⟨by rfl, ?_⟩; intro w' hSw; (try dsimp only at hSw); go_simp; (try (with_reducible rfl)))
                    simp only [Act.put, List.setIfInBounds_toArray, List.set_cons_zero, List.set_cons_succ]
                    refine wpAnyH_take (i := 6) (oi := ?oiC2x7x6) (v := ?vvC2x7x6) ?hiC2x7x6 (by kernel_rfl) (by kernel_rfl) (by kernel_rfl) ?hqC2x7x6 ?hyC2x7x6 hHeld ?_
                    case hiC2x7x6 => simp only [List.getElem?_toArray, List.getElem?_cons_succ, List.getElem?_cons_zero]; rfl
                    case hqC2x7x6 => exact fun _ _ _ h => h
                    case hyC2x7x6 => (refine Or.inl ⟨by rfl, ?_⟩; intro w' hSw; (try dsimp only at hSw); go_simp; (try (with_reducible rfl)))
                    simp only [Act.put, List.setIfInBounds_toArray, List.set_cons_zero, List.set_cons_succ]
                    refine wpAnyH_take (i := 7) (oi := ?oiC2x8x7) (v := ?vvC2x8x7) ?hiC2x8x7 (by kernel_rfl) (by kernel_rfl) (by kernel_rfl) ?hqC2x8x7 ?hyC2x8x7 hHeld ?_
                    case hiC2x8x7 => simp only [List.getElem?_toArray, List.getElem?_cons_succ, List.getElem?_cons_zero]; rfl
                    case hqC2x8x7 => exact fun _ _ _ h => h
                    case hyC2x8x7 => (refine Or.inl ⟨by rfl, ?_⟩; intro w' hSw; (try dsimp only at hSw); go_simp; (try (with_reducible rfl)))
                    simp only [Act.put, List.setIfInBounds_toArray, List.set_cons_zero, List.set_cons_succ]
                    refine wpAnyH_take (i := 8) (oi := ?oiC2x9x8) (v := ?vvC2x9x8) ?hiC2x9x8 (by kernel_rfl) (by kernel_rfl) (by kernel_rfl) ?hqC2x9x8 ?hyC2x9x8 hHeld ?_
                    case hiC2x9x8 => simp only [List.getElem?_toArray, List.getElem?_cons_succ, List.getElem?_cons_zero]; rfl
                    case hqC2x9x8 => exact fun _ _ _ h => h
                    case hyC2x9x8 => (refine Or.inl ⟨by rfl, ?_⟩; intro w' hSw; (try dsimp only at hSw); go_simp; (try (with_reducible rfl)))
                    simp only [Act.put, List.setIfInBounds_toArray, List.set_cons_zero, List.set_cons_succ]
                    refine wpAnyH_take (i := 9) (oi := ?oiC2x10x9) (v := ?vvC2x10x9) ?hiC2x10x9 (by kernel_rfl) (by kernel_rfl) (by kernel_rfl) ?hqC2x10x9 ?hyC2x10x9 hHeld ?_
                    case hiC2x10x9 => simp only [List.getElem?_toArray, List.getElem?_cons_succ, List.getElem?_cons_zero]; rfl
                    case hqC2x10x9 => exact fun _ _ _ h => h
                    case hyC2x10x9 => (refine Or.inl ⟨by rfl, ?_⟩; intro w' hSw; (try dsimp only at hSw); go_simp; (try (with_reducible rfl)))
                    simp only [Act.put, List.setIfInBounds_toArray, List.set_cons_zero, List.set_cons_succ]
                    refine wpAnyH_take (i := 10) (oi := ?oiC2x11x10) (v := ?vvC2x11x10) ?hiC2x11x10 (by kernel_rfl) (by kernel_rfl) (by kernel_rfl) ?hqC2x11x10 ?hyC2x11x10 hHeld ?_
                    case hiC2x11x10 => simp only [List.getElem?_toArray, List.getElem?_cons_succ, List.getElem?_cons_zero]; rfl
                    case hqC2x11x10 => exact fun _ _ _ h => h
                    case hyC2x11x10 => (refine Or.inl ⟨by rfl, ?_⟩; intro w' hSw; (try dsimp only at hSw); go_simp; (try (with_reducible rfl)))
                    simp only [Act.put, List.setIfInBounds_toArray, List.set_cons_zero, List.set_cons_succ]
                    refine wpAnyH_take (i := 11) (oi := ?oiC2x12x11) (v := ?vvC2x12x11) ?hiC2x12x11 (by kernel_rfl) (by kernel_rfl) (by kernel_rfl) ?hqC2x12x11 ?hyC2x12x11 hHeld ?_
                    case hiC2x12x11 => simp only [List.getElem?_toArray, List.getElem?_cons_succ, List.getElem?_cons_zero]; rfl
                    case hqC2x12x11 => exact fun _ _ _ h => h
                    case hyC2x12x11 => (refine Or.inl ⟨by rfl, ?_⟩; intro w' hSw; (try dsimp only at hSw); go_simp; (try (with_reducible rfl)))
                    simp only [Act.put, List.setIfInBounds_toArray, List.set_cons_zero, List.set_cons_succ]
                    refine wpAnyH_take (i := 12) (oi := ?oiC2x13x12) (v := ?vvC2x13x12) ?hiC2x13x12 (by kernel_rfl) (by kernel_rfl) (by kernel_rfl) ?hqC2x13x12 ?hyC2x13x12 hHeld ?_
                    case hiC2x13x12 => simp only [List.getElem?_toArray, List.getElem?_cons_succ, List.getElem?_cons_zero]; rfl
                    case hqC2x13x12 => exact fun _ _ _ h => h
                    case hyC2x13x12 => (refine Or.inl ⟨by rfl, ?_⟩; intro w' hSw; (try dsimp only at hSw); go_simp; (try (with_reducible rfl)))
                    simp only [Act.put, List.setIfInBounds_toArray, List.set_cons_zero, List.set_cons_succ]
                    refine wpAnyH_take (i := 13) (oi := ?oiC2x14x13) (v := ?vvC2x14x13) ?hiC2x14x13 (by kernel_rfl) (by kernel_rfl) (by kernel_rfl) ?hqC2x14x13 ?hyC2x14x13 hHeld ?_
                    case hiC2x14x13 => simp only [List.getElem?_toArray, List.getElem?_cons_succ, List.getElem?_cons_zero]; rfl
                    case hqC2x14x13 => exact fun _ _ _ h => h
                    case hyC2x14x13 => (refine Or.inl ⟨by rfl, ?_⟩; intro w' hSw; (try dsimp only at hSw); go_simp; (try (with_reducible rfl)))
                    simp only [Act.put, List.setIfInBounds_toArray, List.set_cons_zero, List.set_cons_succ]
                    refine wpAnyH_take (i := 15) (oi := ?oiC2x15x15) (v := ?vvC2x15x15) ?hiC2x15x15 (by kernel_rfl) (by kernel_rfl) (by kernel_rfl) ?hqC2x15x15 ?hyC2x15x15 hHeld ?_
                    case hiC2x15x15 => simp only [List.getElem?_toArray, List.getElem?_cons_succ, List.getElem?_cons_zero]; rfl
                    case hqC2x15x15 => exact fun _ _ _ h => h
                    case hyC2x15x15 => (refine Or.inl ⟨by rfl, ?_⟩; intro w' hSw; (try dsimp only at hSw); go_simp; (try (with_reducible rfl)))
                    simp only [Act.put, List.setIfInBounds_toArray, List.set_cons_zero, List.set_cons_succ]
                    refine wpAnyH_take (i := 16) (oi := ?oiC2x16x16) (v := ?vvC2x16x16) ?hiC2x16x16 (by kernel_rfl) (by kernel_rfl) (by kernel_rfl) ?hqC2x16x16 ?hyC2x16x16 hHeld ?_
                    case hiC2x16x16 => simp only [List.getElem?_toArray, List.getElem?_cons_succ, List.getElem?_cons_zero]; rfl
                    case hqC2x16x16 => exact fun _ _ _ h => h
                    case hyC2x16x16 => (refine Or.inl ⟨by rfl, ?_⟩; intro w' hSw; (try dsimp only at hSw); go_simp; (try (with_reducible rfl)))
                    simp only [Act.put, List.setIfInBounds_toArray, List.set_cons_zero, List.set_cons_succ]
                    refine wpAnyH_take (i := 17) (oi := ?oiC2x17x17) (v := ?vvC2x17x17) ?hiC2x17x17 (by kernel_rfl) (by kernel_rfl) (by kernel_rfl) ?hqC2x17x17 ?hyC2x17x17 hHeld ?_
                    case hiC2x17x17 => simp only [List.getElem?_toArray, List.getElem?_cons_succ, List.getElem?_cons_zero]; rfl
                    case hqC2x17x17 => exact fun _ _ _ h => h
                    case hyC2x17x17 => (refine Or.inl ⟨by rfl, ?_⟩; intro w' hSw; (try dsimp only at hSw); go_simp; (try (with_reducible rfl)))
                    simp only [Act.put, List.setIfInBounds_toArray, List.set_cons_zero, List.set_cons_succ]
                    refine wpAnyH_take (i := 18) (oi := ?oiC2x18x18) (v := ?vvC2x18x18) ?hiC2x18x18 (by kernel_rfl) (by kernel_rfl) (by kernel_rfl) ?hqC2x18x18 ?hyC2x18x18 hHeld ?_
                    case hiC2x18x18 => simp only [List.getElem?_toArray, List.getElem?_cons_succ, List.getElem?_cons_zero]; rfl
                    case hqC2x18x18 => exact fun _ _ _ h => h
                    case hyC2x18x18 => (refine Or.inl ⟨by rfl, ?_⟩; intro w' hSw; (try dsimp only at hSw); go_simp; (try (with_reducible rfl)))
                    simp only [Act.put, List.setIfInBounds_toArray, List.set_cons_zero, List.set_cons_succ]
                    refine wpAnyH_ready (rs := [14]) (by kernel_rfl) (by simp) ?_
                    refine (AllReadyH.cons (o := ?oiC2x19x14) ?hiC2x19x14 (fun K hK => ?gC2x19x14) AllReadyH.nil)
                    case hiC2x19x14 => simp only [List.getElem?_toArray, List.getElem?_cons_succ, List.getElem?_cons_zero]; rfl
                    case gC2x19x14 =>
                      go_simp
                      refine (HSC.out _ hHeld.2.2.1).mono ?_
                      rintro e v2 ⟨rfl, hb9⟩
                      dsimp only
                      refine hK.out _ _ (⟨keep_cell hb9 hHeld.1, bel_trans hHeld.2.1 hb9, hHeld.2.2.1.keep hb9, hHeld.2.2.2.keep hb9⟩) (fun hN => ?_)
                      clear hK K hHeld
                      have hHeld := hN
                      clear hN
                      try simp only [Act.put, List.setIfInBounds_toArray, List.set_cons_zero, List.set_cons_succ]
                      refine wpAnyH_ready (rs := [19]) (by kernel_rfl) (by simp) ?_
                      refine (AllReadyH.cons (o := ?oiC2x20x19) ?hiC2x20x19 (fun K hK => ?gC2x20x19) AllReadyH.nil)
                      case hiC2x20x19 => simp only [List.getElem?_toArray, List.getElem?_cons_succ, List.getElem?_cons_zero]; rfl
                      case gC2x20x19 =>
                        go_simp
                        refine (HIN.out _).mono ?_
                        rintro e v3 ⟨rfl, hw⟩
                        replace hw := hw.symm
                        subst hw
                        dsimp only
                        refine hK.out _ _ (hHeld) (fun hN => ?_)
                        clear hK K hHeld
                        have hHeld := hN
                        clear hN
                        try simp only [Act.put, List.setIfInBounds_toArray, List.set_cons_zero, List.set_cons_succ]
                        refine wpAnyH_take (i := 20) (oi := ?oiC2x21x20) (v := ?vvC2x21x20) ?hiC2x21x20 (by kernel_rfl) (by kernel_rfl) (by kernel_rfl) ?hqC2x21x20 ?hyC2x21x20 hHeld ?_
                        case hiC2x21x20 => simp only [List.getElem?_toArray, List.getElem?_cons_succ, List.getElem?_cons_zero]; rfl
                        case hqC2x21x20 => exact fun _ _ _ h => h
                        case hyC2x21x20 => (refine Or.inl ⟨by rfl, ?_⟩; intro w' hSw; (try dsimp only at hSw); go_simp; (try (with_reducible rfl)))
                        simp only [Act.put, List.setIfInBounds_toArray, List.set_cons_zero, List.set_cons_succ]
                        refine wpAnyH_take (i := 21) (oi := ?oiC2x22x21) (v := ?vvC2x22x21) ?hiC2x22x21 (by kernel_rfl) (by kernel_rfl) (by kernel_rfl) ?hqC2x22x21 ?hyC2x22x21 hHeld ?_
                        case hiC2x22x21 => simp only [List.getElem?_toArray, List.getElem?_cons_succ, List.getElem?_cons_zero]; rfl
                        case hqC2x22x21 => exact fun _ _ _ h => h
                        case hyC2x22x21 => (refine Or.inl ⟨by rfl, ?_⟩; intro w' hSw; (try dsimp only at hSw); go_simp; (try (with_reducible rfl)))
                        simp only [Act.put, List.setIfInBounds_toArray, List.set_cons_zero, List.set_cons_succ]
                        refine wpAnyH_take (i := 22) (oi := ?oiC2x23x22) (v := ?vvC2x23x22) ?hiC2x23x22 (by kernel_rfl) (by kernel_rfl) (by kernel_rfl) ?hqC2x23x22 ?hyC2x23x22 hHeld ?_
                        case hiC2x23x22 => simp only [List.getElem?_toArray, List.getElem?_cons_succ, List.getElem?_cons_zero]; rfl
                        case hqC2x23x22 => exact fun _ _ _ h => h
                        case hyC2x23x22 => (refine Or.inl ⟨by rfl, ?_⟩; intro w' hSw; (try dsimp only at hSw); go_simp; (try (with_reducible rfl)))
                        simp only [Act.put, List.setIfInBounds_toArray, List.set_cons_zero, List.set_cons_succ]
                        refine wpAnyH_take (i := 23) (oi := ?oiC2x24x23) (v := ?vvC2x24x23) ?hiC2x24x23 (by kernel_rfl) (by kernel_rfl) (by kernel_rfl) ?hqC2x24x23 ?hyC2x24x23 hHeld ?_
                        case hiC2x24x23 => simp only [List.getElem?_toArray, List.getElem?_cons_succ, List.getElem?_cons_zero]; rfl
                        case hqC2x24x23 => exact fun _ _ _ h => h
                        case hyC2x24x23 => (refine Or.inl ⟨by rfl, ?_⟩; intro w' hSw; (try dsimp only at hSw); go_simp; (try (with_reducible rfl)))
                        simp only [Act.put, List.setIfInBounds_toArray, List.set_cons_zero, List.set_cons_succ]
                        refine wpAnyH_take (i := 24) (oi := ?oiC2x25x24) (v := ?vvC2x25x24) ?hiC2x25x24 (by kernel_rfl) (by kernel_rfl) (by kernel_rfl) ?hqC2x25x24 ?hyC2x25x24 hHeld ?_
                        case hiC2x25x24 => simp only [List.getElem?_toArray, List.getElem?_cons_succ, List.getElem?_cons_zero]; rfl
                        case hqC2x25x24 => exact fun _ _ _ h => h
                        case hyC2x25x24 => (refine Or.inl ⟨by rfl, ?_⟩; intro w' hSw; (try dsimp only at hSw); go_simp; (try (with_reducible rfl)))
                        simp only [Act.put, List.setIfInBounds_toArray, List.set_cons_zero, List.set_cons_succ]
                        refine wpAnyH_ready (rs := [25]) (by kernel_rfl) (by simp) ?_
                        refine (AllReadyH.cons (o := ?oiC2x26x25) ?hiC2x26x25 (fun K hK => ?gC2x26x25) AllReadyH.nil)
                        case hiC2x26x25 => simp only [List.getElem?_toArray, List.getElem?_cons_succ, List.getElem?_cons_zero]; rfl
                        case gC2x26x25 =>
                          go_simp
                          refine (HPO.out _).mono ?_
                          rintro e v4 ⟨rfl, hw⟩
                          replace hw := hw.symm
                          subst hw
                          dsimp only
                          refine hK.out _ _ (hHeld) (fun hN => ?_)
                          clear hK K hHeld
                          have hHeld := hN
                          clear hN
                          try simp only [Act.put, List.setIfInBounds_toArray, List.set_cons_zero, List.set_cons_succ]
                          refine wpAnyH_take (i := 26) (oi := ?oiC2x27x26) (v := ?vvC2x27x26) ?hiC2x27x26 (by kernel_rfl) (by kernel_rfl) (by kernel_rfl) ?hqC2x27x26 ?hyC2x27x26 hHeld ?_
                          case hiC2x27x26 => simp only [List.getElem?_toArray, List.getElem?_cons_succ, List.getElem?_cons_zero]; rfl
                          case hqC2x27x26 => exact fun _ _ _ h => h
                          case hyC2x27x26 => (refine Or.inl ⟨by rfl, ?_⟩; intro w' hSw; (try dsimp only at hSw); go_simp; (try (with_reducible rfl)))
                          simp only [Act.put, List.setIfInBounds_toArray, List.set_cons_zero, List.set_cons_succ]
                          refine wpAnyH_take (i := 27) (oi := ?oiC2x28x27) (v := ?vvC2x28x27) ?hiC2x28x27 (by kernel_rfl) (by kernel_rfl) (by kernel_rfl) ?hqC2x28x27 ?hyC2x28x27 hHeld ?_
                          case hiC2x28x27 => simp only [List.getElem?_toArray, List.getElem?_cons_succ, List.getElem?_cons_zero]; rfl
                          case hqC2x28x27 => exact fun _ _ _ h => h
                          case hyC2x28x27 => (refine Or.inl ⟨by rfl, ?_⟩; intro w' hSw; (try dsimp only at hSw); go_simp; (try (with_reducible rfl)))
                          simp only [Act.put, List.setIfInBounds_toArray, List.set_cons_zero, List.set_cons_succ]
                          refine wpAnyH_take (i := 28) (oi := ?oiC2x29x28) (v := ?vvC2x29x28) ?hiC2x29x28 (by kernel_rfl) (by kernel_rfl) (by kernel_rfl) ?hqC2x29x28 ?hyC2x29x28 hHeld ?_
                          case hiC2x29x28 => simp only [List.getElem?_toArray, List.getElem?_cons_succ, List.getElem?_cons_zero]; rfl
                          case hqC2x29x28 => exact fun _ _ _ h => h
                          case hyC2x29x28 => (refine Or.inl ⟨by rfl, ?_⟩; intro w' hSw; (try dsimp only at hSw); go_simp; (try (with_reducible rfl)))
                          simp only [Act.put, List.setIfInBounds_toArray, List.set_cons_zero, List.set_cons_succ]
                          refine wpAnyH_take (i := 29) (oi := ?oiC2x30x29) (v := ?vvC2x30x29) ?hiC2x30x29 (by kernel_rfl) (by kernel_rfl) (by kernel_rfl) ?hqC2x30x29 ?hyC2x30x29 hHeld ?_
                          case hiC2x30x29 => simp only [List.getElem?_toArray, List.getElem?_cons_succ, List.getElem?_cons_zero]; rfl
                          case hqC2x30x29 => exact fun _ _ _ h => h
                          case hyC2x30x29 => (refine Or.inl ⟨by rfl, ?_⟩; intro w' hSw; (try dsimp only at hSw); go_simp; (try (with_reducible rfl)))
                          simp only [Act.put, List.setIfInBounds_toArray, List.set_cons_zero, List.set_cons_succ]
                          refine wpAnyH_take (i := 30) (oi := ?oiC2x31x30) (v := ?vvC2x31x30) ?hiC2x31x30 (by kernel_rfl) (by kernel_rfl) (by kernel_rfl) ?hqC2x31x30 ?hyC2x31x30 hHeld ?_
                          case hiC2x31x30 => simp only [List.getElem?_toArray, List.getElem?_cons_succ, List.getElem?_cons_zero]; rfl
                          case hqC2x31x30 => exact fun _ _ _ h => h
                          case hyC2x31x30 => (refine Or.inl ⟨by rfl, ?_⟩; intro w' hSw; (try dsimp only at hSw); go_simp; (try (with_reducible rfl)))
                          simp only [Act.put, List.setIfInBounds_toArray, List.set_cons_zero, List.set_cons_succ]
                          refine wpAnyH_take (i := 31) (oi := ?oiC2x32x31) (v := ?vvC2x32x31) ?hiC2x32x31 (by kernel_rfl) (by kernel_rfl) (by kernel_rfl) ?hqC2x32x31 ?hyC2x32x31 hHeld ?_
                          case hiC2x32x31 => simp only [List.getElem?_toArray, List.getElem?_cons_succ, List.getElem?_cons_zero]; rfl
                          case hqC2x32x31 => exact fun _ _ _ h => h
                          case hyC2x32x31 => (refine Or.inl ⟨by rfl, ?_⟩; intro w' hSw; (try dsimp only at hSw); go_simp; (try (with_reducible rfl)))
                          simp only [Act.put, List.setIfInBounds_toArray, List.set_cons_zero, List.set_cons_succ]
                          refine wpAnyH_take (i := 32) (oi := ?oiC2x33x32) (v := ?vvC2x33x32) ?hiC2x33x32 (by kernel_rfl) (by kernel_rfl) (by kernel_rfl) ?hqC2x33x32 ?hyC2x33x32 hHeld ?_
                          case hiC2x33x32 => simp only [List.getElem?_toArray, List.getElem?_cons_succ, List.getElem?_cons_zero]; rfl
                          case hqC2x33x32 => exact fun _ _ _ h => h
                          case hyC2x33x32 => (refine Or.inl ⟨by rfl, ?_⟩; intro w' hSw; (try dsimp only at hSw); go_simp; (try (with_reducible rfl)))
                          simp only [Act.put, List.setIfInBounds_toArray, List.set_cons_zero, List.set_cons_succ]
                          refine wpAnyH_done (by kernel_rfl) ?_ _
                          have HE : Hid (Below w.heap.size w _ ∧ TabAt _ tb ⟨namesOf l, sh⟩ ∧ RStAt _ (.slice ra k rc) l) := hHeld.2
                          clear hHeld
                          go_wp2
                          refine ⟨?_, ?measure⟩
                          (iterate 60 (apply Exists.intro))
                          (repeat apply Exists.intro)
                          refine ⟨?rel, rfl⟩
                          case rel => exact ⟨q + 1, by omega, by simp, HE.out⟩
                          case measure => simp [intOf]; omega
                  · have hz2 : (z2 == 0) = false := by simpa using hz
                    simp only [Bool.false_or, Bool.true_and, hz2] at HSC
                    refine wp_region_held_drew (S := (fun w' => w'.cell? ⟨qb, qo + q, none⟩ = some (.string s) ∧ Below w.heap.size w w' ∧ TabAt w' tb ⟨namesOf l, sh⟩ ∧ RStAt w' (.slice ra k rc) l)) (by kernel_rfl) (⟨a0, Below.drew H8.out.1, H8.out.2.1.keep (Below.drew (Below.refl _ _)), H8.out.2.2.keep (Below.drew (Below.refl _ _))⟩) (fun hHeld => ?_)
                    refine wpAnyH_take (i := 0) (oi := ?oiC3x1x0) (v := ?vvC3x1x0) ?hiC3x1x0 (by kernel_rfl) (by kernel_rfl) (by kernel_rfl) ?hqC3x1x0 ?hyC3x1x0 hHeld ?_
                    case hiC3x1x0 => simp only [List.getElem?_toArray, List.getElem?_cons_succ, List.getElem?_cons_zero]; rfl
                    case hqC3x1x0 => exact fun _ _ _ h => h
                    case hyC3x1x0 => (refine Or.inl ⟨by rfl, ?_⟩; intro w' hSw; (try dsimp only at hSw); go_simp; (try (with_reducible rfl)))
                    simp only [Act.put, List.setIfInBounds_toArray, List.set_cons_zero, List.set_cons_succ]
                    refine wpAnyH_take (i := 1) (oi := ?oiC3x2x1) (v := ?vvC3x2x1) ?hiC3x2x1 (by kernel_rfl) (by kernel_rfl) (by kernel_rfl) ?hqC3x2x1 ?hyC3x2x1 hHeld ?_
                    case hiC3x2x1 => simp only [List.getElem?_toArray, List.getElem?_cons_succ, List.getElem?_cons_zero]; rfl
                    case hqC3x2x1 => exact fun _ _ _ h => h
                    case hyC3x2x1 => (refine Or.inl ⟨by rfl, ?_⟩; intro w' hSw; (try dsimp only at hSw); go_simp; (try (with_reducible rfl)))
                    simp only [Act.put, List.setIfInBounds_toArray, List.set_cons_zero, List.set_cons_succ]
                    refine wpAnyH_take (i := 2) (oi := ?oiC3x3x2) (v := ?vvC3x3x2) ?hiC3x3x2 (by kernel_rfl) (by kernel_rfl) (by kernel_rfl) ?hqC3x3x2 ?hyC3x3x2 hHeld ?_
                    case hiC3x3x2 => simp only [List.getElem?_toArray, List.getElem?_cons_succ, List.getElem?_cons_zero]; rfl
                    case hqC3x3x2 => exact fun _ _ _ h => h
                    case hyC3x3x2 => (refine Or.inl ⟨by rfl, ?_⟩; intro w' hSw; (try dsimp only at hSw); go_simp; (try (with_reducible rfl)))
                    simp only [Act.put, List.setIfInBounds_toArray, List.set_cons_zero, List.set_cons_succ]
                    refine wpAnyH_take (i := 3) (oi := ?oiC3x4x3) (v := ?vvC3x4x3) ?hiC3x4x3 (by kernel_rfl) (by kernel_rfl) (by kernel_rfl) ?hqC3x4x3 ?hyC3x4x3 hHeld ?_
                    case hiC3x4x3 => simp only [List.getElem?_toArray, List.getElem?_cons_succ, List.getElem?_cons_zero]; rfl
                    case hqC3x4x3 => exact fun _ _ _ h => h
                    case hyC3x4x3 => (refine Or.inl ⟨by rfl, ?_⟩; intro w' hSw; (try dsimp only at hSw); go_simp; (try (with_reducible rfl)))
                    simp only [Act.put, List.setIfInBounds_toArray, List.set_cons_zero, List.set_cons_succ]
                    refine wpAnyH_take (i := 4) (oi := ?oiC3x5x4) (v := ?vvC3x5x4) ?hiC3x5x4 (by kernel_rfl) (by kernel_rfl) (by kernel_rfl) ?hqC3x5x4 ?hyC3x5x4 hHeld ?_
                    case hiC3x5x4 => simp only [List.getElem?_toArray, List.getElem?_cons_succ, List.getElem?_cons_zero]; rfl
                    case hqC3x5x4 => exact fun _ _ _ h => h
                    case hyC3x5x4 => (refine Or.inl ⟨by rfl, ?_⟩; intro w' hSw; (try dsimp only at hSw); go_simp; (try (with_reducible rfl)))
                    simp only [Act.put, List.setIfInBounds_toArray, List.set_cons_zero, List.set_cons_succ]
                    refine wpAnyH_take (i := 5) (oi := ?oiC3x6x5) (v := ?vvC3x6x5) ?hiC3x6x5 (by kernel_rfl) (by kernel_rfl) (by kernel_rfl) ?hqC3x6x5 ?hyC3x6x5 hHeld ?_
                    case hiC3x6x5 => simp only [List.getElem?_toArray, List.getElem?_cons_succ, List.getElem?_cons_zero]; rfl
                    case hqC3x6x5 => exact fun _ _ _ h => h
                    case hyC3x6x5 => (refine Or.inl ⟨by rfl, ?_⟩; intro w' hSw; (try dsimp only at hSw); go_simp; (try (with_reducible rfl)))
                    simp only [Act.put, List.setIfInBounds_toArray, List.set_cons_zero, List.set_cons_succ]
                    refine wpAnyH_take (i := 6) (oi := ?oiC3x7x6) (v := ?vvC3x7x6) ?hiC3x7x6 (by kernel_rfl) (by kernel_rfl) (by kernel_rfl) ?hqC3x7x6 ?hyC3x7x6 hHeld ?_
                    case hiC3x7x6 => simp only [List.getElem?_toArray, List.getElem?_cons_succ, List.getElem?_cons_zero]; rfl
                    case hqC3x7x6 => exact fun _ _ _ h => h
                    case hyC3x7x6 => (refine Or.inl ⟨by rfl, ?_⟩; intro w' hSw; (try dsimp only at hSw); go_simp; (try (with_reducible rfl)))
                    simp only [Act.put, List.setIfInBounds_toArray, List.set_cons_zero, List.set_cons_succ]
                    refine wpAnyH_take (i := 7) (oi := ?oiC3x8x7) (v := ?vvC3x8x7) ?hiC3x8x7 (by kernel_rfl) (by kernel_rfl) (by kernel_rfl) ?hqC3x8x7 ?hyC3x8x7 hHeld ?_
                    case hiC3x8x7 => simp only [List.getElem?_toArray, List.getElem?_cons_succ, List.getElem?_cons_zero]; rfl
                    case hqC3x8x7 => exact fun _ _ _ h => h
                    case hyC3x8x7 => (refine Or.inl ⟨by rfl, ?_⟩; intro w' hSw; (try dsimp only at hSw); go_simp; (try (with_reducible rfl)))
                    simp only [Act.put, List.setIfInBounds_toArray, List.set_cons_zero, List.set_cons_succ]
                    refine wpAnyH_take (i := 8) (oi := ?oiC3x9x8) (v := ?vvC3x9x8) ?hiC3x9x8 (by kernel_rfl) (by kernel_rfl) (by kernel_rfl) ?hqC3x9x8 ?hyC3x9x8 hHeld ?_
                    case hiC3x9x8 => simp only [List.getElem?_toArray, List.getElem?_cons_succ, List.getElem?_cons_zero]; rfl
                    case hqC3x9x8 => exact fun _ _ _ h => h
                    case hyC3x9x8 => (refine Or.inl ⟨by rfl, ?_⟩; intro w' hSw; (try dsimp only at hSw); go_simp; (try (with_reducible rfl)))
                    simp only [Act.put, List.setIfInBounds_toArray, List.set_cons_zero, List.set_cons_succ]
                    refine wpAnyH_take (i := 9) (oi := ?oiC3x10x9) (v := ?vvC3x10x9) ?hiC3x10x9 (by kernel_rfl) (by kernel_rfl) (by kernel_rfl) ?hqC3x10x9 ?hyC3x10x9 hHeld ?_
                    case hiC3x10x9 => simp only [List.getElem?_toArray, List.getElem?_cons_succ, List.getElem?_cons_zero]; rfl
                    case hqC3x10x9 => exact fun _ _ _ h => h
                    case hyC3x10x9 => (refine Or.inl ⟨by rfl, ?_⟩; intro w' hSw; (try dsimp only at hSw); go_simp; (try (with_reducible rfl)))
                    simp only [Act.put, List.setIfInBounds_toArray, List.set_cons_zero, List.set_cons_succ]
                    refine wpAnyH_take (i := 10) (oi := ?oiC3x11x10) (v := ?vvC3x11x10) ?hiC3x11x10 (by kernel_rfl) (by kernel_rfl) (by kernel_rfl) ?hqC3x11x10 ?hyC3x11x10 hHeld ?_
                    case hiC3x11x10 => simp only [List.getElem?_toArray, List.getElem?_cons_succ, List.getElem?_cons_zero]; rfl
                    case hqC3x11x10 => exact fun _ _ _ h => h
                    case hyC3x11x10 => (refine Or.inl ⟨by rfl, ?_⟩; intro w' hSw; (try dsimp only at hSw); go_simp; (try (with_reducible rfl)))
                    simp only [Act.put, List.setIfInBounds_toArray, List.set_cons_zero, List.set_cons_succ]
                    refine wpAnyH_take (i := 11) (oi := ?oiC3x12x11) (v := ?vvC3x12x11) ?hiC3x12x11 (by kernel_rfl) (by kernel_rfl) (by kernel_rfl) ?hqC3x12x11 ?hyC3x12x11 hHeld ?_
                    case hiC3x12x11 => simp only [List.getElem?_toArray, List.getElem?_cons_succ, List.getElem?_cons_zero]; rfl
                    case hqC3x12x11 => exact fun _ _ _ h => h
                    case hyC3x12x11 => (refine Or.inl ⟨by rfl, ?_⟩; intro w' hSw; (try dsimp only at hSw); go_simp; (try (with_reducible rfl)))
                    simp only [Act.put, List.setIfInBounds_toArray, List.set_cons_zero, List.set_cons_succ]
                    refine wpAnyH_take (i := 12) (oi := ?oiC3x13x12) (v := ?vvC3x13x12) ?hiC3x13x12 (by kernel_rfl) (by kernel_rfl) (by kernel_rfl) ?hqC3x13x12 ?hyC3x13x12 hHeld ?_
                    case hiC3x13x12 => simp only [List.getElem?_toArray, List.getElem?_cons_succ, List.getElem?_cons_zero]; rfl
                    case hqC3x13x12 => exact fun _ _ _ h => h
                    case hyC3x13x12 => (refine Or.inl ⟨by rfl, ?_⟩; intro w' hSw; (try dsimp only at hSw); go_simp; (try (with_reducible rfl)))
                    simp only [Act.put, List.setIfInBounds_toArray, List.set_cons_zero, List.set_cons_succ]
                    refine wpAnyH_take (i := 13) (oi := ?oiC3x14x13) (v := ?vvC3x14x13) ?hiC3x14x13 (by kernel_rfl) (by kernel_rfl) (by kernel_rfl) ?hqC3x14x13 ?hyC3x14x13 hHeld ?_
                    case hiC3x14x13 => simp only [List.getElem?_toArray, List.getElem?_cons_succ, List.getElem?_cons_zero]; rfl
                    case hqC3x14x13 => exact fun _ _ _ h => h
                    case hyC3x14x13 => (refine Or.inl ⟨by rfl, ?_⟩; intro w' hSw; (try dsimp only at hSw); go_simp; (try (with_reducible rfl)))
                    simp only [Act.put, List.setIfInBounds_toArray, List.set_cons_zero, List.set_cons_succ]
                    refine wpAnyH_take (i := 15) (oi := ?oiC3x15x15) (v := ?vvC3x15x15) ?hiC3x15x15 (by kernel_rfl) (by kernel_rfl) (by kernel_rfl) ?hqC3x15x15 ?hyC3x15x15 hHeld ?_
                    case hiC3x15x15 => simp only [List.getElem?_toArray, List.getElem?_cons_succ, List.getElem?_cons_zero]; rfl
                    case hqC3x15x15 => exact fun _ _ _ h => h
                    case hyC3x15x15 => (refine Or.inl ⟨by rfl, ?_⟩; intro w' hSw; (try dsimp only at hSw); go_simp; (try (with_reducible rfl)))
                    simp only [Act.put, List.setIfInBounds_toArray, List.set_cons_zero, List.set_cons_succ]
                    refine wpAnyH_take (i := 16) (oi := ?oiC3x16x16) (v := ?vvC3x16x16) ?hiC3x16x16 (by kernel_rfl) (by kernel_rfl) (by kernel_rfl) ?hqC3x16x16 ?hyC3x16x16 hHeld ?_
                    case hiC3x16x16 => simp only [List.getElem?_toArray, List.getElem?_cons_succ, List.getElem?_cons_zero]; rfl
                    case hqC3x16x16 => exact fun _ _ _ h => h
                    case hyC3x16x16 => (refine Or.inl ⟨by rfl, ?_⟩; intro w' hSw; (try dsimp only at hSw); go_simp; (try (with_reducible rfl)))
                    simp only [Act.put, List.setIfInBounds_toArray, List.set_cons_zero, List.set_cons_succ]
                    refine wpAnyH_take (i := 17) (oi := ?oiC3x17x17) (v := ?vvC3x17x17) ?hiC3x17x17 (by kernel_rfl) (by kernel_rfl) (by kernel_rfl) ?hqC3x17x17 ?hyC3x17x17 hHeld ?_
                    case hiC3x17x17 => simp only [List.getElem?_toArray, List.getElem?_cons_succ, List.getElem?_cons_zero]; rfl
                    case hqC3x17x17 => exact fun _ _ _ h => h
                    case hyC3x17x17 => (refine Or.inl ⟨by rfl, ?_⟩; intro w' hSw; (try dsimp only at hSw); go_simp; (try (with_reducible rfl)))
                    simp only [Act.put, List.setIfInBounds_toArray, List.set_cons_zero, List.set_cons_succ]
                    refine wpAnyH_take (i := 18) (oi := ?oiC3x18x18) (v := ?vvC3x18x18) ?hiC3x18x18 (by kernel_rfl) (by kernel_rfl) (by kernel_rfl) ?hqC3x18x18 ?hyC3x18x18 hHeld ?_
                    case hiC3x18x18 => simp only [List.getElem?_toArray, List.getElem?_cons_succ, List.getElem?_cons_zero]; rfl
                    case hqC3x18x18 => exact fun _ _ _ h => h
                    case hyC3x18x18 => (refine Or.inl ⟨by rfl, ?_⟩; intro w' hSw; (try dsimp only at hSw); go_simp; (try (with_reducible rfl)))
                    simp only [Act.put, List.setIfInBounds_toArray, List.set_cons_zero, List.set_cons_succ]
                    refine wpAnyH_ready (rs := [14]) (by kernel_rfl) (by simp) ?_
                    refine (AllReadyH.cons (o := ?oiC3x19x14) ?hiC3x19x14 (fun K hK => ?gC3x19x14) AllReadyH.nil)
                    case hiC3x19x14 => simp only [List.getElem?_toArray, List.getElem?_cons_succ, List.getElem?_cons_zero]; rfl
                    case gC3x19x14 =>
                      go_simp
                      refine (HSC.out _ hHeld.2.2.1).mono ?_
                      rintro e v2 ⟨rfl, hb9⟩
                      dsimp only
                      refine hK.out _ _ (⟨keep_cell hb9 hHeld.1, bel_trans hHeld.2.1 hb9, hHeld.2.2.1.keep hb9, hHeld.2.2.2.keep hb9⟩) (fun hN => ?_)
                      clear hK K hHeld
                      have hHeld := hN
                      clear hN
                      try simp only [Act.put, List.setIfInBounds_toArray, List.set_cons_zero, List.set_cons_succ]
                      refine wpAnyH_ready (rs := [19]) (by kernel_rfl) (by simp) ?_
                      refine (AllReadyH.cons (o := ?oiC3x20x19) ?hiC3x20x19 (fun K hK => ?gC3x20x19) AllReadyH.nil)
                      case hiC3x20x19 => simp only [List.getElem?_toArray, List.getElem?_cons_succ, List.getElem?_cons_zero]; rfl
                      case gC3x20x19 =>
                        go_simp
                        refine (HIN.out _).mono ?_
                        rintro e v3 ⟨rfl, hw⟩
                        replace hw := hw.symm
                        subst hw
                        dsimp only
                        refine hK.out _ _ (hHeld) (fun hN => ?_)
                        clear hK K hHeld
                        have hHeld := hN
                        clear hN
                        try simp only [Act.put, List.setIfInBounds_toArray, List.set_cons_zero, List.set_cons_succ]
                        refine wpAnyH_take (i := 20) (oi := ?oiC3x21x20) (v := ?vvC3x21x20) ?hiC3x21x20 (by kernel_rfl) (by kernel_rfl) (by kernel_rfl) ?hqC3x21x20 ?hyC3x21x20 hHeld ?_
                        case hiC3x21x20 => simp only [List.getElem?_toArray, List.getElem?_cons_succ, List.getElem?_cons_zero]; rfl
                        case hqC3x21x20 => exact fun _ _ _ h => h
                        case hyC3x21x20 => (refine Or.inl ⟨by rfl, ?_⟩; intro w' hSw; (try dsimp only at hSw); go_simp; (try (with_reducible rfl)))
                        simp only [Act.put, List.setIfInBounds_toArray, List.set_cons_zero, List.set_cons_succ]
                        refine wpAnyH_take (i := 21) (oi := ?oiC3x22x21) (v := ?vvC3x22x21) ?hiC3x22x21 (by kernel_rfl) (by kernel_rfl) (by kernel_rfl) ?hqC3x22x21 ?hyC3x22x21 hHeld ?_
                        case hiC3x22x21 => simp only [List.getElem?_toArray, List.getElem?_cons_succ, List.getElem?_cons_zero]; rfl
                        case hqC3x22x21 => exact fun _ _ _ h => h
                        case hyC3x22x21 => (refine Or.inl ⟨by rfl, ?_⟩; intro w' hSw; (try dsimp only at hSw); go_simp; (try (with_reducible rfl)))
                        simp only [Act.put, List.setIfInBounds_toArray, List.set_cons_zero, List.set_cons_succ]
                        refine wpAnyH_take (i := 22) (oi := ?oiC3x23x22) (v := ?vvC3x23x22) ?hiC3x23x22 (by kernel_rfl) (by kernel_rfl) (by kernel_rfl) ?hqC3x23x22 ?hyC3x23x22 hHeld ?_
                        case hiC3x23x22 => simp only [List.getElem?_toArray, List.getElem?_cons_succ, List.getElem?_cons_zero]; rfl
                        case hqC3x23x22 => exact fun _ _ _ h => h
                        case hyC3x23x22 => (refine Or.inl ⟨by rfl, ?_⟩; intro w' hSw; (try dsimp only at hSw); go_simp; (try (with_reducible rfl)))
                        simp only [Act.put, List.setIfInBounds_toArray, List.set_cons_zero, List.set_cons_succ]
                        refine wpAnyH_take (i := 23) (oi := ?oiC3x24x23) (v := ?vvC3x24x23) ?hiC3x24x23 (by kernel_rfl) (by kernel_rfl) (by kernel_rfl) ?hqC3x24x23 ?hyC3x24x23 hHeld ?_
                        case hiC3x24x23 => simp only [List.getElem?_toArray, List.getElem?_cons_succ, List.getElem?_cons_zero]; rfl
                        case hqC3x24x23 => exact fun _ _ _ h => h
                        case hyC3x24x23 => (refine Or.inl ⟨by rfl, ?_⟩; intro w' hSw; (try dsimp only at hSw); go_simp; (try (with_reducible rfl)))
                        simp only [Act.put, List.setIfInBounds_toArray, List.set_cons_zero, List.set_cons_succ]
                        refine wpAnyH_take (i := 24) (oi := ?oiC3x25x24) (v := ?vvC3x25x24) ?hiC3x25x24 (by kernel_rfl) (by kernel_rfl) (by kernel_rfl) ?hqC3x25x24 ?hyC3x25x24 hHeld ?_
                        case hiC3x25x24 => simp only [List.getElem?_toArray, List.getElem?_cons_succ, List.getElem?_cons_zero]; rfl
                        case hqC3x25x24 => exact fun _ _ _ h => h
                        case hyC3x25x24 => (refine Or.inl ⟨by rfl, ?_⟩; intro w' hSw; (try dsimp only at hSw); go_simp; (try (with_reducible rfl)))
                        simp only [Act.put, List.setIfInBounds_toArray, List.set_cons_zero, List.set_cons_succ]
                        refine wpAnyH_ready (rs := [25]) (by kernel_rfl) (by simp) ?_
                        refine (AllReadyH.cons (o := ?oiC3x26x25) ?hiC3x26x25 (fun K hK => ?gC3x26x25) AllReadyH.nil)
                        case hiC3x26x25 => simp only [List.getElem?_toArray, List.getElem?_cons_succ, List.getElem?_cons_zero]; rfl
                        case gC3x26x25 =>
                          go_simp
                          refine (HPO.out _).mono ?_
                          rintro e v4 ⟨rfl, hw⟩
                          replace hw := hw.symm
                          subst hw
                          dsimp only
                          refine hK.out _ _ (hHeld) (fun hN => ?_)
                          clear hK K hHeld
                          have hHeld := hN
                          clear hN
                          try simp only [Act.put, List.setIfInBounds_toArray, List.set_cons_zero, List.set_cons_succ]
                          refine wpAnyH_take (i := 26) (oi := ?oiC3x27x26) (v := ?vvC3x27x26) ?hiC3x27x26 (by kernel_rfl) (by kernel_rfl) (by kernel_rfl) ?hqC3x27x26 ?hyC3x27x26 hHeld ?_
                          case hiC3x27x26 => simp only [List.getElem?_toArray, List.getElem?_cons_succ, List.getElem?_cons_zero]; rfl
                          case hqC3x27x26 => exact fun _ _ _ h => h
                          case hyC3x27x26 => (refine Or.inl ⟨by rfl, ?_⟩; intro w' hSw; (try dsimp only at hSw); go_simp; (try (with_reducible rfl)))
                          simp only [Act.put, List.setIfInBounds_toArray, List.set_cons_zero, List.set_cons_succ]
                          refine wpAnyH_take (i := 27) (oi := ?oiC3x28x27) (v := ?vvC3x28x27) ?hiC3x28x27 (by kernel_rfl) (by kernel_rfl) (by kernel_rfl) ?hqC3x28x27 ?hyC3x28x27 hHeld ?_
                          case hiC3x28x27 => simp only [List.getElem?_toArray, List.getElem?_cons_succ, List.getElem?_cons_zero]; rfl
                          case hqC3x28x27 => exact fun _ _ _ h => h
                          case hyC3x28x27 => (refine Or.inl ⟨by rfl, ?_⟩; intro w' hSw; (try dsimp only at hSw); go_simp; (try (with_reducible rfl)))
                          simp only [Act.put, List.setIfInBounds_toArray, List.set_cons_zero, List.set_cons_succ]
                          refine wpAnyH_take (i := 28) (oi := ?oiC3x29x28) (v := ?vvC3x29x28) ?hiC3x29x28 (by kernel_rfl) (by kernel_rfl) (by kernel_rfl) ?hqC3x29x28 ?hyC3x29x28 hHeld ?_
                          case hiC3x29x28 => simp only [List.getElem?_toArray, List.getElem?_cons_succ, List.getElem?_cons_zero]; rfl
                          case hqC3x29x28 => exact fun _ _ _ h => h
                          case hyC3x29x28 => (refine Or.inl ⟨by rfl, ?_⟩; intro w' hSw; (try dsimp only at hSw); go_simp; (try (with_reducible rfl)))
                          simp only [Act.put, List.setIfInBounds_toArray, List.set_cons_zero, List.set_cons_succ]
                          refine wpAnyH_take (i := 29) (oi := ?oiC3x30x29) (v := ?vvC3x30x29) ?hiC3x30x29 (by kernel_rfl) (by kernel_rfl) (by kernel_rfl) ?hqC3x30x29 ?hyC3x30x29 hHeld ?_
                          case hiC3x30x29 => simp only [List.getElem?_toArray, List.getElem?_cons_succ, List.getElem?_cons_zero]; rfl
                          case hqC3x30x29 => exact fun _ _ _ h => h
                          case hyC3x30x29 => (refine Or.inl ⟨by rfl, ?_⟩; intro w' hSw; (try dsimp only at hSw); go_simp; (try (with_reducible rfl)))
                          simp only [Act.put, List.setIfInBounds_toArray, List.set_cons_zero, List.set_cons_succ]
                          refine wpAnyH_take (i := 30) (oi := ?oiC3x31x30) (v := ?vvC3x31x30) ?hiC3x31x30 (by kernel_rfl) (by kernel_rfl) (by kernel_rfl) ?hqC3x31x30 ?hyC3x31x30 hHeld ?_
                          case hiC3x31x30 => simp only [List.getElem?_toArray, List.getElem?_cons_succ, List.getElem?_cons_zero]; rfl
                          case hqC3x31x30 => exact fun _ _ _ h => h
                          case hyC3x31x30 => (refine Or.inl ⟨by rfl, ?_⟩; intro w' hSw; (try dsimp only at hSw); go_simp; (try (with_reducible rfl)))
                          simp only [Act.put, List.setIfInBounds_toArray, List.set_cons_zero, List.set_cons_succ]
                          refine wpAnyH_take (i := 31) (oi := ?oiC3x32x31) (v := ?vvC3x32x31) ?hiC3x32x31 (by kernel_rfl) (by kernel_rfl) (by kernel_rfl) ?hqC3x32x31 ?hyC3x32x31 hHeld ?_
                          case hiC3x32x31 => simp only [List.getElem?_toArray, List.getElem?_cons_succ, List.getElem?_cons_zero]; rfl
                          case hqC3x32x31 => exact fun _ _ _ h => h
                          case hyC3x32x31 => (refine Or.inl ⟨by rfl, ?_⟩; intro w' hSw; (try dsimp only at hSw); go_simp; (try (with_reducible rfl)))
                          simp only [Act.put, List.setIfInBounds_toArray, List.set_cons_zero, List.set_cons_succ]
                          refine wpAnyH_take (i := 32) (oi := ?oiC3x33x32) (v := ?vvC3x33x32) ?hiC3x33x32 (by kernel_rfl) (by kernel_rfl) (by kernel_rfl) ?hqC3x33x32 ?hyC3x33x32 hHeld ?_
                          case hiC3x33x32 => simp only [List.getElem?_toArray, List.getElem?_cons_succ, List.getElem?_cons_zero]; rfl
                          case hqC3x33x32 => exact fun _ _ _ h => h
                          case hyC3x33x32 => (refine Or.inl ⟨by rfl, ?_⟩; intro w' hSw; (try dsimp only at hSw); go_simp; (try (with_reducible rfl)))
                          simp only [Act.put, List.setIfInBounds_toArray, List.set_cons_zero, List.set_cons_succ]
                          refine wpAnyH_done (by kernel_rfl) ?_ _
                          have HE : Hid (Below w.heap.size w _ ∧ TabAt _ tb ⟨namesOf l, sh⟩ ∧ RStAt _ (.slice ra k rc) l) := hHeld.2
                          clear hHeld
                          go_wp2
                          refine ⟨?_, ?measure⟩
                          (iterate 60 (apply Exists.intro))
                          (repeat apply Exists.intro)
                          refine ⟨?rel, rfl⟩
                          case rel => exact ⟨q + 1, by omega, by simp, HE.out⟩
                          case measure => simp [intOf]; omega
              · simp only [Bool.true_or] at HSC
                refine wp_region_held_drew (S := (fun w' => w'.cell? ⟨qb, qo + q, none⟩ = some (.string s) ∧ Below w.heap.size w w' ∧ TabAt w' tb ⟨namesOf l, sh⟩ ∧ RStAt w' (.slice ra k rc) l)) (by kernel_rfl) (⟨a0, Below.drew H8.out.1, H8.out.2.1.keep (Below.drew (Below.refl _ _)), H8.out.2.2.keep (Below.drew (Below.refl _ _))⟩) (fun hHeld => ?_)
                refine wpAnyH_take (i := 0) (oi := ?oiC4x1x0) (v := ?vvC4x1x0) ?hiC4x1x0 (by kernel_rfl) (by kernel_rfl) (by kernel_rfl) ?hqC4x1x0 ?hyC4x1x0 hHeld ?_
                case hiC4x1x0 => simp only [List.getElem?_toArray, List.getElem?_cons_succ, List.getElem?_cons_zero]; rfl
                case hqC4x1x0 => exact fun _ _ _ h => h
                case hyC4x1x0 => (refine Or.inl ⟨by rfl, ?_⟩; intro w' hSw; (try dsimp only at hSw); go_simp; (try (with_reducible rfl)))
                simp only [Act.put, List.setIfInBounds_toArray, List.set_cons_zero, List.set_cons_succ]
                refine wpAnyH_take (i := 1) (oi := ?oiC4x2x1) (v := ?vvC4x2x1) ?hiC4x2x1 (by kernel_rfl) (by kernel_rfl) (by kernel_rfl) ?hqC4x2x1 ?hyC4x2x1 hHeld ?_
                case hiC4x2x1 => simp only [List.getElem?_toArray, List.getElem?_cons_succ, List.getElem?_cons_zero]; rfl
                case hqC4x2x1 => exact fun _ _ _ h => h
                case hyC4x2x1 => (refine Or.inl ⟨by rfl, ?_⟩; intro w' hSw; (try dsimp only at hSw); go_simp; (try (with_reducible rfl)))
                simp only [Act.put, List.setIfInBounds_toArray, List.set_cons_zero, List.set_cons_succ]
                refine wpAnyH_take (i := 2) (oi := ?oiC4x3x2) (v := ?vvC4x3x2) ?hiC4x3x2 (by kernel_rfl) (by kernel_rfl) (by kernel_rfl) ?hqC4x3x2 ?hyC4x3x2 hHeld ?_
                case hiC4x3x2 => simp only [List.getElem?_toArray, List.getElem?_cons_succ, List.getElem?_cons_zero]; rfl
                case hqC4x3x2 => exact fun _ _ _ h => h
                case hyC4x3x2 => (refine Or.inl ⟨by rfl, ?_⟩; intro w' hSw; (try dsimp only at hSw); go_simp; (try (with_reducible rfl)))
                simp only [Act.put, List.setIfInBounds_toArray, List.set_cons_zero, List.set_cons_succ]
                refine wpAnyH_take (i := 3) (oi := ?oiC4x4x3) (v := ?vvC4x4x3) ?hiC4x4x3 (by kernel_rfl) (by kernel_rfl) (by kernel_rfl) ?hqC4x4x3 ?hyC4x4x3 hHeld ?_
                case hiC4x4x3 => simp only [List.getElem?_toArray, List.getElem?_cons_succ, List.getElem?_cons_zero]; rfl
                case hqC4x4x3 => exact fun _ _ _ h => h
                case hyC4x4x3 => (refine Or.inl ⟨by rfl, ?_⟩; intro w' hSw; (try dsimp only at hSw); go_simp; (try (with_reducible rfl)))
                simp only [Act.put, List.setIfInBounds_toArray, List.set_cons_zero, List.set_cons_succ]
                refine wpAnyH_take (i := 4) (oi := ?oiC4x5x4) (v := ?vvC4x5x4) ?hiC4x5x4 (by kernel_rfl) (by kernel_rfl) (by kernel_rfl) ?hqC4x5x4 ?hyC4x5x4 hHeld ?_
                case hiC4x5x4 => simp only [List.getElem?_toArray, List.getElem?_cons_succ, List.getElem?_cons_zero]; rfl
                case hqC4x5x4 => exact fun _ _ _ h => h
                case hyC4x5x4 => (refine Or.inl ⟨by rfl, ?_⟩; intro w' hSw; (try dsimp only at hSw); go_simp; (try (with_reducible rfl)))
                simp only [Act.put, List.setIfInBounds_toArray, List.set_cons_zero, List.set_cons_succ]
                refine wpAnyH_take (i := 5) (oi := ?oiC4x6x5) (v := ?vvC4x6x5) ?hiC4x6x5 (by kernel_rfl) (by kernel_rfl) (by kernel_rfl) ?hqC4x6x5 ?hyC4x6x5 hHeld ?_
                case hiC4x6x5 => simp only [List.getElem?_toArray, List.getElem?_cons_succ, List.getElem?_cons_zero]; rfl
                case hqC4x6x5 => exact fun _ _ _ h => h
                case hyC4x6x5 => (refine Or.inl ⟨by rfl, ?_⟩; intro w' hSw; (try dsimp only at hSw); go_simp; (try (with_reducible rfl)))
                simp only [Act.put, List.setIfInBounds_toArray, List.set_cons_zero, List.set_cons_succ]
                refine wpAnyH_take (i := 6) (oi := ?oiC4x7x6) (v := ?vvC4x7x6) ?hiC4x7x6 (by kernel_rfl) (by kernel_rfl) (by kernel_rfl) ?hqC4x7x6 ?hyC4x7x6 hHeld ?_
                case hiC4x7x6 => simp only [List.getElem?_toArray, List.getElem?_cons_succ, List.getElem?_cons_zero]; rfl
                case hqC4x7x6 => exact fun _ _ _ h => h
                case hyC4x7x6 => (refine Or.inl ⟨by rfl, ?_⟩; intro w' hSw; (try dsimp only at hSw); go_simp; (try (with_reducible rfl)))
                simp only [Act.put, List.setIfInBounds_toArray, List.set_cons_zero, List.set_cons_succ]
                refine wpAnyH_take (i := 7) (oi := ?oiC4x8x7) (v := ?vvC4x8x7) ?hiC4x8x7 (by kernel_rfl) (by kernel_rfl) (by kernel_rfl) ?hqC4x8x7 ?hyC4x8x7 hHeld ?_
                case hiC4x8x7 => simp only [List.getElem?_toArray, List.getElem?_cons_succ, List.getElem?_cons_zero]; rfl
                case hqC4x8x7 => exact fun _ _ _ h => h
                case hyC4x8x7 => (refine Or.inl ⟨by rfl, ?_⟩; intro w' hSw; (try dsimp only at hSw); go_simp; (try (with_reducible rfl)))
                simp only [Act.put, List.setIfInBounds_toArray, List.set_cons_zero, List.set_cons_succ]
                refine wpAnyH_take (i := 8) (oi := ?oiC4x9x8) (v := ?vvC4x9x8) ?hiC4x9x8 (by kernel_rfl) (by kernel_rfl) (by kernel_rfl) ?hqC4x9x8 ?hyC4x9x8 hHeld ?_
                case hiC4x9x8 => simp only [List.getElem?_toArray, List.getElem?_cons_succ, List.getElem?_cons_zero]; rfl
                case hqC4x9x8 => exact fun _ _ _ h => h
                case hyC4x9x8 => (refine Or.inl ⟨by rfl, ?_⟩; intro w' hSw; (try dsimp only at hSw); go_simp; (try (with_reducible rfl)))
                simp only [Act.put, List.setIfInBounds_toArray, List.set_cons_zero, List.set_cons_succ]
                refine wpAnyH_take (i := 9) (oi := ?oiC4x10x9) (v := ?vvC4x10x9) ?hiC4x10x9 (by kernel_rfl) (by kernel_rfl) (by kernel_rfl) ?hqC4x10x9 ?hyC4x10x9 hHeld ?_
                case hiC4x10x9 => simp only [List.getElem?_toArray, List.getElem?_cons_succ, List.getElem?_cons_zero]; rfl
                case hqC4x10x9 => exact fun _ _ _ h => h
                case hyC4x10x9 => (refine Or.inl ⟨by rfl, ?_⟩; intro w' hSw; (try dsimp only at hSw); go_simp; (try (with_reducible rfl)))
                simp only [Act.put, List.setIfInBounds_toArray, List.set_cons_zero, List.set_cons_succ]
                refine wpAnyH_take (i := 10) (oi := ?oiC4x11x10) (v := ?vvC4x11x10) ?hiC4x11x10 (by kernel_rfl) (by kernel_rfl) (by kernel_rfl) ?hqC4x11x10 ?hyC4x11x10 hHeld ?_
                case hiC4x11x10 => simp only [List.getElem?_toArray, List.getElem?_cons_succ, List.getElem?_cons_zero]; rfl
                case hqC4x11x10 => exact fun _ _ _ h => h
                case hyC4x11x10 => (refine Or.inl ⟨by rfl, ?_⟩; intro w' hSw; (try dsimp only at hSw); go_simp; (try (with_reducible rfl)))
                simp only [Act.put, List.setIfInBounds_toArray, List.set_cons_zero, List.set_cons_succ]
                refine wpAnyH_take (i := 11) (oi := ?oiC4x12x11) (v := ?vvC4x12x11) ?hiC4x12x11 (by kernel_rfl) (by kernel_rfl) (by kernel_rfl) ?hqC4x12x11 ?hyC4x12x11 hHeld ?_
                case hiC4x12x11 => simp only [List.getElem?_toArray, List.getElem?_cons_succ, List.getElem?_cons_zero]; rfl
                case hqC4x12x11 => exact fun _ _ _ h => h
                case hyC4x12x11 => (refine Or.inl ⟨by rfl, ?_⟩; intro w' hSw; (try dsimp only at hSw); go_simp; (try (with_reducible rfl)))
                simp only [Act.put, List.setIfInBounds_toArray, List.set_cons_zero, List.set_cons_succ]
                refine wpAnyH_take (i := 12) (oi := ?oiC4x13x12) (v := ?vvC4x13x12) ?hiC4x13x12 (by kernel_rfl) (by kernel_rfl) (by kernel_rfl) ?hqC4x13x12 ?hyC4x13x12 hHeld ?_
                case hiC4x13x12 => simp only [List.getElem?_toArray, List.getElem?_cons_succ, List.getElem?_cons_zero]; rfl
                case hqC4x13x12 => exact fun _ _ _ h => h
                case hyC4x13x12 => (refine Or.inl ⟨by rfl, ?_⟩; intro w' hSw; (try dsimp only at hSw); go_simp; (try (with_reducible rfl)))
                simp only [Act.put, List.setIfInBounds_toArray, List.set_cons_zero, List.set_cons_succ]
                refine wpAnyH_take (i := 13) (oi := ?oiC4x14x13) (v := ?vvC4x14x13) ?hiC4x14x13 (by kernel_rfl) (by kernel_rfl) (by kernel_rfl) ?hqC4x14x13 ?hyC4x14x13 hHeld ?_
                case hiC4x14x13 => simp only [List.getElem?_toArray, List.getElem?_cons_succ, List.getElem?_cons_zero]; rfl
                case hqC4x14x13 => exact fun _ _ _ h => h
                case hyC4x14x13 => (refine Or.inl ⟨by rfl, ?_⟩; intro w' hSw; (try dsimp only at hSw); go_simp; (try (with_reducible rfl)))
                simp only [Act.put, List.setIfInBounds_toArray, List.set_cons_zero, List.set_cons_succ]
                refine wpAnyH_take (i := 15) (oi := ?oiC4x15x15) (v := ?vvC4x15x15) ?hiC4x15x15 (by kernel_rfl) (by kernel_rfl) (by kernel_rfl) ?hqC4x15x15 ?hyC4x15x15 hHeld ?_
                case hiC4x15x15 => simp only [List.getElem?_toArray, List.getElem?_cons_succ, List.getElem?_cons_zero]; rfl
                case hqC4x15x15 => exact fun _ _ _ h => h
                case hyC4x15x15 => (refine Or.inl ⟨by rfl, ?_⟩; intro w' hSw; (try dsimp only at hSw); go_simp; (try (with_reducible rfl)))
                simp only [Act.put, List.setIfInBounds_toArray, List.set_cons_zero, List.set_cons_succ]
                refine wpAnyH_take (i := 16) (oi := ?oiC4x16x16) (v := ?vvC4x16x16) ?hiC4x16x16 (by kernel_rfl) (by kernel_rfl) (by kernel_rfl) ?hqC4x16x16 ?hyC4x16x16 hHeld ?_
                case hiC4x16x16 => simp only [List.getElem?_toArray, List.getElem?_cons_succ, List.getElem?_cons_zero]; rfl
                case hqC4x16x16 => exact fun _ _ _ h => h
                case hyC4x16x16 => (refine Or.inl ⟨by rfl, ?_⟩; intro w' hSw; (try dsimp only at hSw); go_simp; (try (with_reducible rfl)))
                simp only [Act.put, List.setIfInBounds_toArray, List.set_cons_zero, List.set_cons_succ]
                refine wpAnyH_take (i := 17) (oi := ?oiC4x17x17) (v := ?vvC4x17x17) ?hiC4x17x17 (by kernel_rfl) (by kernel_rfl) (by kernel_rfl) ?hqC4x17x17 ?hyC4x17x17 hHeld ?_
                case hiC4x17x17 => simp only [List.getElem?_toArray, List.getElem?_cons_succ, List.getElem?_cons_zero]; rfl
                case hqC4x17x17 => exact fun _ _ _ h => h
                case hyC4x17x17 => (refine Or.inl ⟨by rfl, ?_⟩; intro w' hSw; (try dsimp only at hSw); go_simp; (try (with_reducible rfl)))
                simp only [Act.put, List.setIfInBounds_toArray, List.set_cons_zero, List.set_cons_succ]
                refine wpAnyH_take (i := 18) (oi := ?oiC4x18x18) (v := ?vvC4x18x18) ?hiC4x18x18 (by kernel_rfl) (by kernel_rfl) (by kernel_rfl) ?hqC4x18x18 ?hyC4x18x18 hHeld ?_
                case hiC4x18x18 => simp only [List.getElem?_toArray, List.getElem?_cons_succ, List.getElem?_cons_zero]; rfl
                case hqC4x18x18 => exact fun _ _ _ h => h
                case hyC4x18x18 => (refine Or.inl ⟨by rfl, ?_⟩; intro w' hSw; (try dsimp only at hSw); go_simp; (try (with_reducible rfl)))
                simp only [Act.put, List.setIfInBounds_toArray, List.set_cons_zero, List.set_cons_succ]
                refine wpAnyH_ready (rs := [14]) (by kernel_rfl) (by simp) ?_
                refine (AllReadyH.cons (o := ?oiC4x19x14) ?hiC4x19x14 (fun K hK => ?gC4x19x14) AllReadyH.nil)
                case hiC4x19x14 => simp only [List.getElem?_toArray, List.getElem?_cons_succ, List.getElem?_cons_zero]; rfl
                case gC4x19x14 =>
                  go_simp
                  refine (HSC.out _ hHeld.2.2.1).mono ?_
                  rintro e v2 ⟨rfl, hb9⟩
                  dsimp only
                  refine hK.out _ _ (⟨keep_cell hb9 hHeld.1, bel_trans hHeld.2.1 hb9, hHeld.2.2.1.keep hb9, hHeld.2.2.2.keep hb9⟩) (fun hN => ?_)
                  clear hK K hHeld
                  have hHeld := hN
                  clear hN
                  try simp only [Act.put, List.setIfInBounds_toArray, List.set_cons_zero, List.set_cons_succ]
                  refine wpAnyH_ready (rs := [19]) (by kernel_rfl) (by simp) ?_
                  refine (AllReadyH.cons (o := ?oiC4x20x19) ?hiC4x20x19 (fun K hK => ?gC4x20x19) AllReadyH.nil)
                  case hiC4x20x19 => simp only [List.getElem?_toArray, List.getElem?_cons_succ, List.getElem?_cons_zero]; rfl
                  case gC4x20x19 =>
                    go_simp
                    refine (HIN.out _).mono ?_
                    rintro e v3 ⟨rfl, hw⟩
                    replace hw := hw.symm
                    subst hw
                    dsimp only
                    refine hK.out _ _ (hHeld) (fun hN => ?_)
                    clear hK K hHeld
                    have hHeld := hN
                    clear hN
                    try simp only [Act.put, List.setIfInBounds_toArray, List.set_cons_zero, List.set_cons_succ]
                    refine wpAnyH_take (i := 20) (oi := ?oiC4x21x20) (v := ?vvC4x21x20) ?hiC4x21x20 (by kernel_rfl) (by kernel_rfl) (by kernel_rfl) ?hqC4x21x20 ?hyC4x21x20 hHeld ?_
                    case hiC4x21x20 => simp only [List.getElem?_toArray, List.getElem?_cons_succ, List.getElem?_cons_zero]; rfl
                    case hqC4x21x20 => exact fun _ _ _ h => h
                    case hyC4x21x20 => (refine Or.inl ⟨by rfl, ?_⟩; intro w' hSw; (try dsimp only at hSw); go_simp; (try (with_reducible rfl)))
                    simp only [Act.put, List.setIfInBounds_toArray, List.set_cons_zero, List.set_cons_succ]
                    refine wpAnyH_take (i := 21) (oi := ?oiC4x22x21) (v := undef) ?hiC4x22x21 (by kernel_rfl) (by kernel_rfl) (by kernel_rfl) ?hqC4x22x21 ?hyC4x22x21 hHeld ?_
                    case hiC4x22x21 => simp only [List.getElem?_toArray, List.getElem?_cons_succ, List.getElem?_cons_zero]; rfl
                    case hqC4x22x21 => exact fun _ _ _ h => h
                    case hyC4x22x21 => exact Or.inr ⟨by rfl, rfl⟩
                    simp only [Act.put, List.setIfInBounds_toArray, List.set_cons_zero, List.set_cons_succ]
                    refine wpAnyH_take (i := 22) (oi := ?oiC4x23x22) (v := undef) ?hiC4x23x22 (by kernel_rfl) (by kernel_rfl) (by kernel_rfl) ?hqC4x23x22 ?hyC4x23x22 hHeld ?_
                    case hiC4x23x22 => simp only [List.getElem?_toArray, List.getElem?_cons_succ, List.getElem?_cons_zero]; rfl
                    case hqC4x23x22 => exact fun _ _ _ h => h
                    case hyC4x23x22 => exact Or.inr ⟨by rfl, rfl⟩
                    simp only [Act.put, List.setIfInBounds_toArray, List.set_cons_zero, List.set_cons_succ]
                    refine wpAnyH_take (i := 23) (oi := ?oiC4x24x23) (v := undef) ?hiC4x24x23 (by kernel_rfl) (by kernel_rfl) (by kernel_rfl) ?hqC4x24x23 ?hyC4x24x23 hHeld ?_
                    case hiC4x24x23 => simp only [List.getElem?_toArray, List.getElem?_cons_succ, List.getElem?_cons_zero]; rfl
                    case hqC4x24x23 => exact fun _ _ _ h => h
                    case hyC4x24x23 => exact Or.inr ⟨by rfl, rfl⟩
                    simp only [Act.put, List.setIfInBounds_toArray, List.set_cons_zero, List.set_cons_succ]
                    refine wpAnyH_take (i := 24) (oi := ?oiC4x25x24) (v := undef) ?hiC4x25x24 (by kernel_rfl) (by kernel_rfl) (by kernel_rfl) ?hqC4x25x24 ?hyC4x25x24 hHeld ?_
                    case hiC4x25x24 => simp only [List.getElem?_toArray, List.getElem?_cons_succ, List.getElem?_cons_zero]; rfl
                    case hqC4x25x24 => exact fun _ _ _ h => h
                    case hyC4x25x24 => exact Or.inr ⟨by rfl, rfl⟩
                    simp only [Act.put, List.setIfInBounds_toArray, List.set_cons_zero, List.set_cons_succ]
                    refine wpAnyH_ready (rs := [25]) (by kernel_rfl) (by simp) ?_
                    refine (AllReadyH.cons (o := ?oiC4x26x25) ?hiC4x26x25 (fun K hK => ?gC4x26x25) AllReadyH.nil)
                    case hiC4x26x25 => simp only [List.getElem?_toArray, List.getElem?_cons_succ, List.getElem?_cons_zero]; rfl
                    case gC4x26x25 =>
                      go_simp
                      refine hK.out _ _ hHeld (fun hN => ?_)
                      clear hK K hHeld
                      have hHeld := hN
                      clear hN
                      try simp only [Act.put, List.setIfInBounds_toArray, List.set_cons_zero, List.set_cons_succ]
                      refine wpAnyH_take (i := 26) (oi := ?oiC4x27x26) (v := undef) ?hiC4x27x26 (by kernel_rfl) (by kernel_rfl) (by kernel_rfl) ?hqC4x27x26 ?hyC4x27x26 hHeld ?_
                      case hiC4x27x26 => simp only [List.getElem?_toArray, List.getElem?_cons_succ, List.getElem?_cons_zero]; rfl
                      case hqC4x27x26 => exact fun _ _ _ h => h
                      case hyC4x27x26 => exact Or.inr ⟨by rfl, rfl⟩
                      simp only [Act.put, List.setIfInBounds_toArray, List.set_cons_zero, List.set_cons_succ]
                      refine wpAnyH_take (i := 27) (oi := ?oiC4x28x27) (v := undef) ?hiC4x28x27 (by kernel_rfl) (by kernel_rfl) (by kernel_rfl) ?hqC4x28x27 ?hyC4x28x27 hHeld ?_
                      case hiC4x28x27 => simp only [List.getElem?_toArray, List.getElem?_cons_succ, List.getElem?_cons_zero]; rfl
                      case hqC4x28x27 => exact fun _ _ _ h => h
                      case hyC4x28x27 => exact Or.inr ⟨by rfl, rfl⟩
                      simp only [Act.put, List.setIfInBounds_toArray, List.set_cons_zero, List.set_cons_succ]
                      refine wpAnyH_take (i := 28) (oi := ?oiC4x29x28) (v := undef) ?hiC4x29x28 (by kernel_rfl) (by kernel_rfl) (by kernel_rfl) ?hqC4x29x28 ?hyC4x29x28 hHeld ?_
                      case hiC4x29x28 => simp only [List.getElem?_toArray, List.getElem?_cons_succ, List.getElem?_cons_zero]; rfl
                      case hqC4x29x28 => exact fun _ _ _ h => h
                      case hyC4x29x28 => exact Or.inr ⟨by rfl, rfl⟩
                      simp only [Act.put, List.setIfInBounds_toArray, List.set_cons_zero, List.set_cons_succ]
                      refine wpAnyH_take (i := 29) (oi := ?oiC4x30x29) (v := undef) ?hiC4x30x29 (by kernel_rfl) (by kernel_rfl) (by kernel_rfl) ?hqC4x30x29 ?hyC4x30x29 hHeld ?_
                      case hiC4x30x29 => simp only [List.getElem?_toArray, List.getElem?_cons_succ, List.getElem?_cons_zero]; rfl
                      case hqC4x30x29 => exact fun _ _ _ h => h
                      case hyC4x30x29 => exact Or.inr ⟨by rfl, rfl⟩
                      simp only [Act.put, List.setIfInBounds_toArray, List.set_cons_zero, List.set_cons_succ]
                      refine wpAnyH_take (i := 30) (oi := ?oiC4x31x30) (v := ?vvC4x31x30) ?hiC4x31x30 (by kernel_rfl) (by kernel_rfl) (by kernel_rfl) ?hqC4x31x30 ?hyC4x31x30 hHeld ?_
                      case hiC4x31x30 => simp only [List.getElem?_toArray, List.getElem?_cons_succ, List.getElem?_cons_zero]; rfl
                      case hqC4x31x30 => exact fun _ _ _ h => h
                      case hyC4x31x30 => (refine Or.inl ⟨by rfl, ?_⟩; intro w' hSw; (try dsimp only at hSw); go_simp; (try (with_reducible rfl)))
                      simp only [Act.put, List.setIfInBounds_toArray, List.set_cons_zero, List.set_cons_succ]
                      refine wpAnyH_take (i := 31) (oi := ?oiC4x32x31) (v := ?vvC4x32x31) ?hiC4x32x31 (by kernel_rfl) (by kernel_rfl) (by kernel_rfl) ?hqC4x32x31 ?hyC4x32x31 hHeld ?_
                      case hiC4x32x31 => simp only [List.getElem?_toArray, List.getElem?_cons_succ, List.getElem?_cons_zero]; rfl
                      case hqC4x32x31 => exact fun _ _ _ h => h
                      case hyC4x32x31 => (refine Or.inl ⟨by rfl, ?_⟩; intro w' hSw; (try dsimp only at hSw); go_simp; (try (with_reducible rfl)))
                      simp only [Act.put, List.setIfInBounds_toArray, List.set_cons_zero, List.set_cons_succ]
                      refine wpAnyH_take (i := 32) (oi := ?oiC4x33x32) (v := ?vvC4x33x32) ?hiC4x33x32 (by kernel_rfl) (by kernel_rfl) (by kernel_rfl) ?hqC4x33x32 ?hyC4x33x32 hHeld ?_
                      case hiC4x33x32 => simp only [List.getElem?_toArray, List.getElem?_cons_succ, List.getElem?_cons_zero]; rfl
                      case hqC4x33x32 => exact fun _ _ _ h => h
                      case hyC4x33x32 => (refine Or.inl ⟨by rfl, ?_⟩; intro w' hSw; (try dsimp only at hSw); go_simp; (try (with_reducible rfl)))
                      simp only [Act.put, List.setIfInBounds_toArray, List.set_cons_zero, List.set_cons_succ]
                      refine wpAnyH_done (by kernel_rfl) ?_ _
                      have HE : Hid (Below w.heap.size w _ ∧ TabAt _ tb ⟨namesOf l, sh⟩ ∧ RStAt _ (.slice ra k rc) l) := hHeld.2
                      clear hHeld
                      go_wp2
                      refine ⟨?_, ?measure⟩
                      (iterate 60 (apply Exists.intro))
                      (repeat apply Exists.intro)
                      refine ⟨?rel, rfl⟩
                      case rel => exact ⟨q + 1, by omega, by simp, HE.out⟩
                      case measure => simp [intOf]; omega
            · have hqe : q = m := by omega
              subst hqe
              go_wp2
              go_ret
              exact ⟨rfl, HG.out.1⟩
end Go.Proofs.YtpedfnfangaelaaDoor

