/- TypesPlaces: the walk. -/
import Derived.Test.YtpedfnfangaelaaDoorYMath
namespace Go.Proofs.YtpedfnfangaelaaDoor
open Go.ChangeShapes Go.WideShapes Go.ChangeAt Go.RowKit Go.Joins Go.Deep
set_option linter.unusedSimpArgs false
set_option linter.unusedVariables false

theorem PlcOk.le {T : Tab} (h : GoodT T) : ∀ {l : List Pl} {e e' : Int}, PlcOk T e l e' → 0 ≤ e → e ≤ e'
  | [], e, e', hp, _ => by simp only [PlcOk] at hp; omega
  | p :: l, e, e', hp, h0 => by
    have hz := szF_ok h hp.1
    have hu := upI_range h0 hz.2.2.1
    have := PlcOk.le h hp.2.2 (by rw [hp.2.1]; omega)
    rw [hp.2.1] at this
    omega
theorem drop_pl {l : List Pl} {i : Nat} {f : Pl} (h : l[i]? = some f) : l.drop i = f :: l.drop (i + 1) := by
  obtain ⟨hi, rfl⟩ := List.getElem?_eq_some_iff.1 h
  exact List.drop_eq_getElem_cons hi
set_option maxRecDepth 100000 in
set_option maxHeartbeats 8000000 in
theorem typesPlaces_walk (v : Value) (l : List St) (w : World) (hl : StAt w v l) (hs : StS l) : Calls Tryd.prog 6 #[v] w (retP (.bool true) w) := by
  have HNW : Hid (∀ w', Below w.heap.size w w' → Calls Tryd.prog 8 #[v] w' (retN l (newF l) w')) := fun w' hb => new_any v l w' (hl.keep hb) hs
  have HST : Hid (StAt w v l ∧ StS l) := ⟨hl, hs⟩
  obtain ⟨sa, sc, rfl, hll, hlc⟩ := hl
  have HF : Hid (l ≠ [] → ∃ b off : Nat, sa = some ⟨b, off, none⟩ ∧ ∀ (i : Nat) (x : St), l[i]? = some x → w.cell? ⟨b, off + i * 2, none⟩ = some (.string x.name) ∧ ∃ fv, w.cell? ⟨b, off + i * 2 + 1, none⟩ = some fv ∧ FdAt w fv x.fields) := hlc
  clear hlc hs
  obtain ⟨n, hn⟩ : ∃ n, l.length = n := ⟨_, rfl⟩
  have HNL : Hid (l.length = n) := hn
  rw [hn] at hll HNW ⊢
  clear hn
  obtain ⟨R, hR⟩ : ∃ R, newF l = R := ⟨_, rfl⟩
  rw [hR] at HNW
  obtain ⟨err, rk, sh⟩ := R
  have HR : Hid (newF l = (err, rk, sh)) := hR
  clear hR
  by_cases he : err = 0
  · subst he
    have HOK := newF_ok HR.out
    have HT : Hid (TabOk l ⟨namesOf l, sh⟩ ∧ sh.length = n) := ⟨HOK.1, HOK.2.trans HNL.out⟩
    clear HOK HR
    by_cases h50 : n ≤ 50
    · have q50 : decide ((50 : Int) < (n : Int)) = false := by simp; omega
      go_enter Tryd.func6, Tryd.ntmps6
      go_wp2_with fail
      refine (awake_any _).mono ?_
      rintro e w1 ⟨rfl, hb1⟩
      dsimp only
      go_wp2_with fail
      refine (HNW.out _ hb1).mono ?_
      intro e w2 h2
      obtain ⟨hbn, -, h3⟩ := h2
      obtain ⟨tb, he, htb, hgt⟩ := h3 rfl
      subst he
      dsimp only
      have H2 : Hid (TabAt w2 tb ⟨namesOf l, sh⟩ ∧ Below w.heap.size w w2) := ⟨htb, bel_trans hb1 hbn⟩
      clear h3 htb hgt hbn hb1 HNW
      go_wp2_with fail
      go_loopw [6] (fun v wr => ∃ i : Nat, i ≤ n ∧ v = .int .i64 (i : Int) ∧ Hid (TabAt wr tb ⟨namesOf l, sh⟩ ∧ Below w.heap.size w wr)) (fun v _ => n - (intOf v).toNat)
      case atStart => exact ⟨0, by omega, rfl, H2⟩
      case round =>
        clear H2
        obtain ⟨i, hi, rfl, HI⟩ := hrel
        by_cases hin : i < n
        · have i0 : (0 : Int) ≤ i := by omega
          have i1 : (i : Int) < n := by omega
          have hfg := List.getElem?_eq_getElem (l := l) (i := i) (by rw [HNL.out]; exact hin)
          obtain ⟨x, hfe⟩ : ∃ f, l[i]'(by rw [HNL.out]; exact hin) = f := ⟨_, rfl⟩
          rw [hfe] at hfg
          clear hfe
          have hyg := List.getElem?_eq_getElem (l := sh) (i := i) (by rw [HT.out.2]; exact hin)
          obtain ⟨y, hye⟩ : ∃ f, sh[i]'(by rw [HT.out.2]; exact hin) = f := ⟨_, rfl⟩
          rw [hye] at hyg
          clear hye
          obtain ⟨sb, off, rfl, hc⟩ := HF.out (fun e => by rw [e] at hfg; simp at hfg)
          obtain ⟨d0, fv, d1, fa, fc, rfl, -⟩ := hc i x hfg
          have c0 := keep_cell HI.out.2 d0
          have c1 := keep_cell HI.out.2 d1
          have hst := HST.out.2 x (List.mem_of_getElem? hfg)
          have hEach := HT.out.1.each i x y hfg hyg
          have hsz := HT.out.1.size hfg hyg
          have hsh := HT.out.1.shape hfg hyg
          have hnl : x.name.size ≤ 40 := by
            have := hEach.1
            simp only [nameS, Bool.and_eq_true, decide_eq_true_eq] at this
            exact this.2.1
          have HZ : Hid (∀ w', TabAt w' tb ⟨namesOf l, sh⟩ → Calls Tryd.prog 10 #[.pointer (some ⟨tb, 0, none⟩), .string (⟨#[115, 116, 114, 117, 99, 116, 32]⟩ ++ x.name)] w' (retP (.tuple #[.int .i64 y.size, .int .i64 y.align, .int .i64 0]) w')) := fun w' h => by
            have e7 : (sPre ++ x.name).size = 7 + x.name.size := by rw [ByteArray.size_append]; rfl
            have := size_any tb ⟨namesOf l, sh⟩ (sPre ++ x.name) (by rw [e7]; omega) w' h HT.out.1.good
            rw [hsz] at this
            exact this
          have HLY : Hid (∀ w', TabAt w' tb ⟨namesOf l, sh⟩ → Calls Tryd.prog 11 #[.pointer (some ⟨tb, 0, none⟩), .string x.name] w' (retLy y.places true w')) := fun w' h => by
            have := layout_any tb ⟨namesOf l, sh⟩ x.name (by unfold maxLen; omega) w' h (by rw [hsh]; intro _; exact ⟨hEach.2.2.len.2, hEach.2.2.len.1⟩)
            rw [hsh] at this
            exact this
          have HY : Hid (ShOk ⟨namesOf l, sh⟩ y x.fields ∧ StS l ∧ FdS x.fields) := ⟨hEach.2.2, HST.out.2, hst.2⟩
          have hpl : y.places.length = x.fields.length := by
            have := congrArg List.length hEach.2.2.names
            simpa using this
          have hcat : ¬ 9223372036854775807 < (⟨#[115, 116, 114, 117, 99, 116, 32]⟩ : ByteArray).size + x.name.size := by
            have : (⟨#[115, 116, 114, 117, 99, 116, 32]⟩ : ByteArray).size = 7 := rfl
            omega
          rw [← hpl] at c1
          clear hc hfg hyg d0 d1 hst hEach hsz hsh hpl
          obtain ⟨nm, fields⟩ := x
          obtain ⟨pls, ysz, yal⟩ := y
          dsimp only at *
          obtain ⟨pn, hpn⟩ : ∃ pn, pls.length = pn := ⟨_, rfl⟩
          have HPN : Hid (pls.length = pn) := hpn
          rw [hpn] at c1
          clear hpn
          have hp65 : (pn : Int) ≤ 65536 := by have := HY.out.1.len.1; dsimp only at this; rw [HPN.out] at this; omega
          have hal := HY.out.1.al
          have hyz := HY.out.1.sz
          obtain ⟨E, hE1, hE0, hE2, hE3, hE4⟩ := HY.out.1.plc
          dsimp only at hal hyz hE1 hE2 hE3 hE4
          have a1 : 1 ≤ yal := by rcases hal with h | h | h <;> omega
          have a8 : yal ≤ 8 := by rcases hal with h | h | h <;> omega
          have HP0 : Hid (PlcOk ⟨namesOf l, sh⟩ 0 (pls.drop 0) E) := by show PlcOk _ _ _ _; simpa using hE1
          have ane : ¬ yal = 0 := by omega
          have q1 : decide (yal < 1) = false := by simp; omega
          have q2 : (ysz.tmod yal != 0) = false := by simp [hE4]
          have q2' : (ysz.tmod yal == 0) = true := by simp [hE4]
          have q3 : decide (ysz < 1) = false := by simp; omega
          have q4 : decide (65536 < ysz) = false := by simp; omega
          have HYY : Hid (1 ≤ ysz ∧ ysz ≤ 65536 ∧ Al yal ∧ 1 ≤ yal ∧ yal ≤ 8) := ⟨hyz.1, hyz.2, hal, a1, a8⟩
          have HEE : Hid (0 ≤ E ∧ E ≤ ysz ∧ ysz - E < yal) := ⟨hE0, hE2, hE3⟩
          clear hE1 hE4 hal hyz a1 a8 hE0 hE2 hE3
          go_wp2_with fail
          refine (HZ.out _ HI.out.1).mono ?_
          rintro e w3 ⟨rfl, hb3⟩
          dsimp only
          have H3 : Hid (TabAt w3 tb ⟨namesOf l, sh⟩ ∧ Below w.heap.size w w3) := ⟨HI.out.1.keep hb3, bel_trans HI.out.2 hb3⟩
          replace c0 := keep_cell hb3 c0
          replace c1 := keep_cell hb3 c1
          clear hb3 HI HZ
          go_wp2_with fail
          refine (HLY.out _ H3.out.1).mono ?_
          rintro e w4 ⟨lv, rfl, ⟨la, lc, rfl, -, -, hcell⟩, hb4⟩
          have H4 : Hid (TabAt w4 tb ⟨namesOf l, sh⟩ ∧ Below w.heap.size w w4) := ⟨H3.out.1.keep hb4, bel_trans H3.out.2 hb4⟩
          have HCL : Hid (PlL w4 la pls) := hcell
          replace c1 := keep_cell hb4 c1
          clear hb4 H3 HLY hcell c0
          rw [HPN.out]
          simp only [if_true]
          go_wp2_with fail
          go_loopw [12, 13] (fun v12 v13 wr => ∃ (k : Nat) (e : Int), k ≤ pn ∧ v12 = .int .i64 e ∧ v13 = .int .i64 (k : Int) ∧ Hid (TabAt wr tb ⟨namesOf l, sh⟩ ∧ Below w.heap.size w wr ∧ Below w4.heap.size w4 wr ∧ 0 ≤ e ∧ PlcOk ⟨namesOf l, sh⟩ e (pls.drop k) E)) (fun _ v13 _ => pn - (intOf v13).toNat)
          case atStart => exact ⟨0, 0, by omega, rfl, rfl, H4.out.1, H4.out.2, Below.refl _ _, by omega, HP0.out⟩
          case round =>
            clear H4 HP0
            obtain ⟨k, e, hk, rfl, rfl, HK⟩ := hrel
            by_cases hkn : k < pn
            · have k0 : (0 : Int) ≤ k := by omega
              have k1 : (k : Int) < pn := by omega
              have hpg := List.getElem?_eq_getElem (l := pls) (i := k) (by rw [HPN.out]; exact hkn)
              obtain ⟨p, hpe⟩ : ∃ f, pls[k]'(by rw [HPN.out]; exact hkn) = f := ⟨_, rfl⟩
              rw [hpe] at hpg
              clear hpe
              obtain ⟨lb, lo, rfl, hcc⟩ := HCL.out (fun e => by rw [e] at hpg; simp at hpg)
              have g1 := keep_cell HK.out.2.2.1 (hcc k p hpg).2.1
              have g2 := keep_cell HK.out.2.2.1 (hcc k p hpg).2.2
              have hpm := List.mem_of_getElem? hpg
              have hpo := HY.out.1.each p hpm
              have htz : p.typ.size ≤ 281474976710656 := by
                have hmm : (⟨p.name, p.typ⟩ : Fd) ∈ fields := by
                  have := HY.out.1.names
                  rw [← this]
                  exact List.mem_map.2 ⟨p, hpm, rfl⟩
                exact (HY.out.2.2 _ hmm).2
              have hplc := HK.out.2.2.2.2
              rw [drop_pl hpg] at hplc
              have hz := szF_ok HT.out.1.good hpo.1
              have hu := upI_range HK.out.2.2.2.1 hz.2.2.1
              have hnx : p.off + (szF ⟨namesOf l, sh⟩ p.typ).1 ≤ E := hplc.2.2.le HT.out.1.good (by rw [hplc.2.1]; have := HK.out.2.2.2.1; omega)
              have hdv := upI_dvd e hpo.2.1
              rw [← hplc.2.1] at hu hdv
              have hd2 := hpo.2.1.dvd HYY.out.2.2.1 hpo.2.2
              have HZ : Hid (∀ w', TabAt w' tb ⟨namesOf l, sh⟩ → Calls Tryd.prog 10 #[.pointer (some ⟨tb, 0, none⟩), .string p.typ] w' (retP (.tuple #[.int .i64 (szF ⟨namesOf l, sh⟩ p.typ).1, .int .i64 (szF ⟨namesOf l, sh⟩ p.typ).2.1, .int .i64 0]) w')) := fun w' h => by
                have := size_any tb ⟨namesOf l, sh⟩ p.typ (by omega) w' h HT.out.1.good
                rw [hpo.1] at this
                exact this
              have HNX : Hid (0 ≤ p.off + (szF ⟨namesOf l, sh⟩ p.typ).1 ∧ PlcOk ⟨namesOf l, sh⟩ (p.off + (szF ⟨namesOf l, sh⟩ p.typ).1) (pls.drop (k + 1)) E) := ⟨by have := HK.out.2.2.2.1; omega, hplc.2.2⟩
              have he0 := HK.out.2.2.2.1
              have hE2 := HEE.out
              have hY2 := HYY.out
              clear hplc hpo hcc hpm htz hpg
              generalize szF ⟨namesOf l, sh⟩ p.typ = z at *
              obtain ⟨z0, z1, z2⟩ := z
              obtain ⟨pnm, pty, po⟩ := p
              dsimp only at *
              have zne : ¬ z1 = 0 := by omega
              have r1 : decide (po < e) = false := by simp; omega
              have r2 : (po.tmod z1 != 0) = false := by simp [hdv]
              have r2' : (po.tmod z1 == 0) = true := by simp [hdv]
              have r3 : decide (z1 ≤ po - e) = false := by simp; omega
              have r4 : (yal.tmod z1 != 0) = false := by simp [hd2]
              have r4' : (yal.tmod z1 == 0) = true := by simp [hd2]
              have w1 : wrap64 (po - e) = po - e := by unfold wrap64; omega
              have w2 : wrap64 (po + z0) = po + z0 := by unfold wrap64; omega
              have HW2 : Hid (wrap64 (po + z0) = po + z0) := w2
              clear hu hdv hd2 hnx he0 hE2 hY2 hz w2
              go_wp2_with fail
              refine (HZ.out _ HK.out.1).mono ?_
              rintro e w5 ⟨rfl, hb5⟩
              dsimp only
              have HK2 : Hid (TabAt w5 tb ⟨namesOf l, sh⟩ ∧ Below w.heap.size w w5 ∧ Below w4.heap.size w4 w5) := ⟨HK.out.1.keep hb5, bel_trans HK.out.2.1 hb5, bel_trans HK.out.2.2.1 hb5⟩
              replace g2 := keep_cell hb5 g2
              clear hb5 HK g1 HZ
              go_wp2
              go_roundw
              case rel => exact ⟨k + 1, po + z0, by omega, by first | rfl | rw [HW2.out], by simp, HK2.out.1, HK2.out.2.1, HK2.out.2.2, HNX.out.1, HNX.out.2⟩
              case measure => simp [intOf]; omega
            · have hke : k = pn := by omega
              subst hke
              have hEe : e = E := by
                have := HK.out.2.2.2.2
                rw [List.drop_of_length_le (by rw [HPN.out]; omega)] at this
                exact this
              subst hEe
              have hE2 := HEE.out
              have hY2 := HYY.out
              have r1 : decide (ysz < e) = false := by simp; omega
              have w1 : wrap64 (ysz - e) = ysz - e := by unfold wrap64; omega
              have r2 : decide (yal ≤ ysz - e) = false := by simp; omega
              have HK2 : Hid (TabAt wr tb ⟨namesOf l, sh⟩ ∧ Below w.heap.size w wr) := ⟨HK.out.1, HK.out.2.1⟩
              clear HK hE2 hY2
              go_wp2
              go_roundw
              case rel => exact ⟨i + 1, by omega, by simp, HK2⟩
              case measure => simp [intOf]; omega
        · have hie : i = n := by omega
          subst hie
          go_wp2
          go_ret
          exact ⟨rfl, HI.out.2⟩
    · have q50 : decide ((50 : Int) < (n : Int)) = true := by simp; omega
      go_enter Tryd.func6, Tryd.ntmps6
      go_wp2_with fail
      refine (awake_any _).mono ?_
      rintro e w1 ⟨rfl, hb1⟩
      dsimp only
      go_wp2_with fail
      refine (HNW.out _ hb1).mono ?_
      intro e w2 h2
      obtain ⟨hbn, -, h3⟩ := h2
      obtain ⟨tb, he, htb, hgt⟩ := h3 rfl
      subst he
      have H2 : Hid (Below w.heap.size w w2) := bel_trans hb1 hbn
      clear h3 htb hgt hbn hb1 HNW
      go_wp2
      go_ret
      exact ⟨rfl, H2.out⟩
  · have q1 : (err != 0) = true := by simpa using he
    have q2 : (err == 0) = false := by simpa using he
    go_enter Tryd.func6, Tryd.ntmps6
    go_wp2_with fail
    refine (awake_any _).mono ?_
    rintro e w1 ⟨rfl, hb1⟩
    dsimp only
    go_wp2_with fail
    refine (HNW.out _ hb1).mono ?_
    intro e w2 h2
    obtain ⟨hbn, h3, -⟩ := h2
    have he2 := h3 he
    subst he2
    dsimp only
    have H2 : Hid (Below w.heap.size w w2) := bel_trans hb1 hbn
    clear h3 hbn hb1 HNW he
    go_wp2
    go_ret
    exact ⟨rfl, H2.out⟩
end Go.Proofs.YtpedfnfangaelaaDoor

