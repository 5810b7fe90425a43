/- The document's own graphs over locations: its Good, whole. -/
import Derived.Test.YthieicjnenlpfaaGreatDoorLgRf
namespace Go.Proofs.YthieicjnenlpfaaGreatDoor
open Go.ChangeShapes Go.WideShapes Go.ChangeAt Go.RowKit
set_option linter.unusedSimpArgs false
set_option linter.unusedVariables false

def dvF (f : Fn) : Bool := !decide (f.regs < 16) && (firstF f.params && f.code.all lokF)
theorem lok_bad {x : Ins} (h : badL x = true) : lokF x = false := by unfold lokF; rw [h]; simp
theorem lok_res {x : Ins} {i : Nat} {y : Int} (hy : (usesF x.op x.a x.b x.args ++ [writesF x.op x.d])[i]? = some y) (h : resB y = true) : lokF x = false := by
  unfold lokF
  rw [List.all_eq_false.2 ⟨y, List.mem_of_getElem? hy, by simp [h]⟩]
  rfl
theorem lok_ok {x : Ins} (h : ∀ (i : Nat) y, (usesF x.op x.a x.b x.args ++ [writesF x.op x.d])[i]? = some y → resB y = false) (hb : badL x = false) : lokF x = true := by
  unfold lokF
  rw [hb, List.all_eq_true.2 fun y hy => ?_]
  · rfl
  · obtain ⟨i, hi⟩ := List.getElem?_of_mem hy
    rw [h i y hi]; rfl
theorem resstep {l : List Int} {i : Nat} {x : Int} (hget : l[i]? = some x) (hf : resB x = false) (h : ∀ (j : Nat) y, j < i → l[j]? = some y → resB y = false) : ∀ (j : Nat) y, j < i + 1 → l[j]? = some y → resB y = false := fun j y hj hy => by
  by_cases e : j = i
  · subst e; rw [hget] at hy; cases hy; exact hf
  · exact h j y (by omega) hy
set_option maxRecDepth 100000 in
set_option maxHeartbeats 80000000 in
theorem rgoodLtl_walk (ga fa : Option Addr) (ng gcap nf fcap fb fo : Nat) (main : Int) (funcs : List Fn) (g r : Bool) (w : World) (hf : nf * 88 ≤ 140737488355328) (HNF : Hid (nf = funcs.length)) (HFA : Hid (0 < nf → fa = some ⟨fb, fo, none⟩)) (HFC : Hid (∀ (i : Nat) x, funcs[i]? = some x → FnAt w fb (fo + i * 6) x))
    (HG : Hid (∀ W, Below w.heap.size w W → Calls Tryz.prog 17 #[.agg #[.slice ga ng gcap, .slice fa nf fcap, .int .i64 main]] W (retP (.bool g) W)))
    (HLN : Hid (g = true → ∀ f ∈ funcs, ∀ x ∈ f.code, (usesF x.op x.a x.b x.args).length ≤ 6000)) (HE : Hid (r = (g && funcs.all dvF))) :
    Calls Tryz.prog 9 #[.agg #[.slice ga ng gcap, .slice fa nf fcap, .int .i64 main]] w (retP (.bool r) w) := by
  have hfm : (nf : Int) ≤ 9223372036854775807 := by omega
  cases g with
  | false =>
    have er : r = false := by rw [HE.out]; rfl
    subst er
    go_enter Tryz.func9, Tryz.ntmps9
    go_wp2_with (go_at_call 17; refine (HG.out _ (by repeat (first | with_reducible exact Below.refl _ _ | with_reducible refine bel_alloc ?_ _ | with_reducible refine bel_set ?_ (by first | exact Nat.le_refl _ | (simp; done) | (simp; omega)) _ | with_reducible refine Below.drew ?_ | refine bel_trans ?_ (by assumption)))).mono ?_; rintro e w1 ⟨rfl, hb1⟩; have HB1 : Hid (Below w.heap.size w w1) := hid (bel_trans (by repeat (first | with_reducible exact Below.refl _ _ | with_reducible refine bel_alloc ?_ _ | with_reducible refine bel_set ?_ (by first | exact Nat.le_refl _ | (simp; done) | (simp; omega)) _ | with_reducible refine Below.drew ?_ | refine bel_trans ?_ (by assumption))) hb1); clear hb1)
    go_ret
    exact ⟨rfl, HB1.out⟩
  | true =>
    have HE2 : Hid (r = funcs.all dvF) := by show _ = _; rw [HE.out]; rfl
    have HB3 : Hid (∀ (i : Nat) x, funcs[i]? = some x → dvF x = false → r = false) := fun i x h1 h2 => by rw [HE2.out]; exact List.all_eq_false.2 ⟨x, List.mem_of_getElem? h1, by simp [h2]⟩
    have HL2 := hid (HLN.out rfl)
    clear HLN HE
    go_enter Tryz.func9, Tryz.ntmps9
    go_wp2_with (go_at_call 17; refine (HG.out _ (by repeat (first | with_reducible exact Below.refl _ _ | with_reducible refine bel_alloc ?_ _ | with_reducible refine bel_set ?_ (by first | exact Nat.le_refl _ | (simp; done) | (simp; omega)) _ | with_reducible refine Below.drew ?_ | refine bel_trans ?_ (by assumption)))).mono ?_; rintro e w1 ⟨rfl, hb1⟩; have HB1 : Hid (Below (w.alloc (.cells #[.slice ga ng gcap, .slice fa nf fcap, .int .i64 main] 25 (0, 0))).heap.size (w.alloc (.cells #[.slice ga ng gcap, .slice fa nf fcap, .int .i64 main] 25 (0, 0))) w1) := hid hb1; obtain ⟨p0, p1, p2⟩ := pg_box hb1; clear hb1)
    go_loopw [3] (fun vv wz => ∃ i : Nat, i ≤ nf ∧ vv = .int .i64 i ∧ Hid (∀ (j : Nat) x, j < i → funcs[j]? = some x → dvF x = true) ∧ Hid (Below (w.alloc (.cells #[.slice ga ng gcap, .slice fa nf fcap, .int .i64 main] 25 (0, 0))).heap.size (w.alloc (.cells #[.slice ga ng gcap, .slice fa nf fcap, .int .i64 main] 25 (0, 0))) wz)) (fun vv _ => nf - (intOf vv).toNat)
    case atStart => exact ⟨0, by omega, rfl, fun j x hj => by omega, HB1⟩
    case round =>
      obtain ⟨i, hi, rfl, HI, HBz⟩ := hrel
      rename World => wz
      clear p0 p1 p2
      obtain ⟨p0, p1, p2⟩ := pg_box HBz.out
      by_cases hin : i < nf
      · obtain rfl := HFA.out (by omega)
        have j0 : (0 : Int) ≤ i := by omega
        have j1 : (i : Int) < nf := by omega
        have hget := List.getElem?_eq_getElem (l := funcs) (show i < funcs.length by rw [← HNF.out]; exact hin)
        generalize funcs[i]'(by rw [← HNF.out]; exact hin) = f at hget
        have HGF : Hid (funcs[i]? = some f) := hget
        obtain ⟨pv, cv, hp, hc, hnm, f0, f1, f2, f3, f4, f5⟩ := (((HFC.out i f hget).keep (bel_alloc (Below.refl _ _) _)).keep HBz.out)
        obtain ⟨ca, ccap, cb, co, rfl, hcl, hca, hcc⟩ := hc.parts
        obtain ⟨pa, ppcap, rfl, hppl⟩ := len_parts hp
        have HBF : Hid (dvF f = false → r = false) := fun h => HB3.out i f HGF.out h
        have HI2 : Hid (dvF f = true → ∀ (j : Nat) y, j < i + 1 → funcs[j]? = some y → dvF y = true) := fun h => fnstep HGF.out h HI.out
        have HLF := hid (HL2.out f (List.mem_of_getElem? hget))
        have HPV := hid hp
        have HCA := hid hca
        have HCC := hid hcc
        clear hget hp hc hca hcc HI hnm
        obtain ⟨name, params, regs, frame, entry, code⟩ := f
        simp only [] at f0 f1 f2 f3 f4 f5 hcl hppl
        obtain ⟨npp, hnpp⟩ : ∃ m, m = params.length := ⟨_, rfl⟩
        have HNPP := hid hnpp
        rw [← hnpp] at hppl f1
        have HPV2 : Hid (∀ W, Below wz.heap.size wz W → Calls Tryz.prog 18 #[.slice pa npp ppcap] W (retP (.bool (firstF params)) W)) := fun W hW => by rw [HNPP.out]; exact rfirst_any (HPV.out.keep hW)
        clear hnpp HPV
        obtain ⟨nc, hnc⟩ : ∃ m, m = code.length := ⟨_, rfl⟩
        have HNC := hid hnc
        have HCA2 : Hid (0 < nc → ca = some ⟨cb, co, none⟩) := fun h => HCA.out (by rw [HNC.out] at h; exact h)
        rw [← hnc] at hcl f5
        have hcm : (nc : Int) ≤ 9223372036854775807 := by omega
        clear hnc HCA
        go_upto_region 6 with fail
        go_cut [4] from 12 to 99 (fun sv w' => ∃ B, sv = .pointer (some ⟨B, 0, none⟩) ∧ w'.cell? ⟨B, 0, none⟩ = some (.string name) ∧ w'.cell? ⟨B, 1, none⟩ = some (.slice pa npp ppcap) ∧ w'.cell? ⟨B, 2, none⟩ = some (.int .i64 regs) ∧ w'.cell? ⟨B, 3, none⟩ = some (.int .i64 frame) ∧ w'.cell? ⟨B, 4, none⟩ = some (.int .i64 entry) ∧ w'.cell? ⟨B, 5, none⟩ = some (.slice ca nc ccap) ∧ Hid (Below wz.heap.size wz w'))
        case first =>
          go_wp2
          go_meet
          case rel => exact ⟨_, rfl, by simp, by simp, by simp, by simp, by simp, by simp, hid (by repeat (first | with_reducible exact Below.refl _ _ | with_reducible refine bel_alloc ?_ _ | with_reducible refine bel_set ?_ (by first | exact Nat.le_refl _ | (simp; done) | (simp; omega)) _ | with_reducible refine Below.drew ?_ | refine bel_trans ?_ (by assumption)))⟩
        case rest =>
          obtain ⟨B, rfl, b0, b1, b2, b3, b4, b5, HBB⟩ := hcut
          rename World => wq
          have HBq := hid (bel_trans HBz.out HBB.out)
          clear p0 p1 p2 f0 f1 f2 f3 f4 f5
          obtain ⟨p0, p1, p2⟩ := pg_box HBq.out
          cases q16 : decide (regs < 16) with
          | true =>
            have er : r = false := HBF.out (by simp only [dvF, q16]; rfl)
            subst er
            go_wp2
            go_ret
            exact ⟨rfl, bel_trans (bel_alloc (Below.refl _ _) _) HBq.out⟩
          | false =>
            have HPF : Hid (∀ W, Below wq.heap.size wq W → Calls Tryz.prog 18 #[.slice pa npp ppcap] W (retP (.bool (firstF params)) W)) := fun W hW => HPV2.out W (bel_trans HBB.out hW)
            cases hfp : firstF params with
            | false =>
              rw [hfp] at HPF
              have er : r = false := HBF.out (by simp only [dvF, q16, hfp]; rfl)
              subst er
              go_wp2_with (go_at_call 18; refine (HPF.out _ (Below.refl _ _)).mono ?_; rintro e wx ⟨rfl, hbx⟩; have HBx := hid (bel_trans HBq.out hbx); clear hbx)
              go_ret
              exact ⟨rfl, bel_trans (bel_alloc (Below.refl _ _) _) HBx.out⟩
            | true =>
              rw [hfp] at HPF
              have HDV : Hid (dvF ⟨name, params, regs, frame, entry, code⟩ = code.all lokF) := by show _ = _; simp only [dvF, q16, hfp]; rfl
              have HBJ : Hid (∀ (j : Nat) x, code[j]? = some x → lokF x = false → r = false) := fun j x h1 h2 => HBF.out (by
                rw [HDV.out]; exact List.all_eq_false.2 ⟨x, List.mem_of_getElem? h1, by simp [h2]⟩)
              have HI3 : Hid ((∀ (j : Nat) x, j < nc → code[j]? = some x → lokF x = true) → ∀ (j : Nat) y, j < i + 1 → funcs[j]? = some y → dvF y = true) := fun h => HI2.out (by
                rw [HDV.out]
                refine List.all_eq_true.2 fun x hx => ?_
                obtain ⟨j, hj⟩ := List.getElem?_of_mem hx
                exact h j x (by rw [HNC.out]; exact (List.getElem?_eq_some_iff.1 hj).1) hj)
              clear HI2 HBF HDV
              go_wp2_with (go_at_call 18; refine (HPF.out _ (Below.refl _ _)).mono ?_; rintro e wx ⟨rfl, hbx⟩; have HBx := hid (bel_trans HBq.out hbx); have HBqx := hid (bel_trans HBB.out hbx); replace b5 := keep_cell hbx b5; clear p0 p1 p2 b0 b1 b2 b3 b4; obtain ⟨p0, p1, p2⟩ := pg_box HBx.out; clear hbx)
              go_loopw [5] (fun vv wy => ∃ j : Nat, j ≤ nc ∧ vv = .int .i64 j ∧ Hid (∀ (k : Nat) x, k < j → code[k]? = some x → lokF x = true) ∧ Hid (Below wx.heap.size wx wy)) (fun vv _ => nc - (intOf vv).toNat)
              case atStart => exact ⟨0, by omega, rfl, fun j x hj => by omega, Below.refl _ _⟩
              case round =>
                obtain ⟨j, hj, rfl, HJ, HByx⟩ := hrel
                rename World => wy
                have HBy := hid (bel_trans HBx.out HByx.out)
                replace b5 := keep_cell HByx.out b5
                clear p0 p1 p2
                obtain ⟨p0, p1, p2⟩ := pg_box HBy.out
                by_cases hjn : j < nc
                · obtain rfl := HCA2.out (by omega)
                  have k0 : (0 : Int) ≤ j := by omega
                  have k1 : (j : Int) < nc := by omega
                  have hget := List.getElem?_eq_getElem (l := code) (show j < code.length by rw [← HNC.out]; exact hjn)
                  generalize code[j]'(by rw [← HNC.out]; exact hjn) = x at hget
                  have HLX := hid (HLF.out x (List.mem_of_getElem? hget))
                  obtain ⟨av, hav, c0, c1, c2, c3, c4, c5, c6, c7, c8⟩ := ((HCC.out j x hget).keep (bel_trans HBqx.out HByx.out))
                  have HAV0 := hav
                  obtain ⟨aa, acap, rfl, hal⟩ := len_parts hav
                  have HGJ := hid hget
                  have HAV := hid HAV0
                  clear hget hav HAV0
                  obtain ⟨op, sub, a, b, d, k, args, s, t⟩ := x
                  simp only [] at c0 c1 c2 c3 c4 c5 c6 c7 c8 hal
                  obtain ⟨na, hna⟩ : ∃ m, m = args.length := ⟨_, rfl⟩
                  have HNA := hid hna
                  replace HAV : Hid (IL wy (.slice aa na acap) args) := by show IL _ _ _; rw [hna]; exact HAV.out
                  rw [← hna] at hal c6
                  clear hna
                  go_upto_region 12 with fail
                  go_cut [6] from 33 to 99 (fun sv w' => ∃ D, sv = .pointer (some ⟨D, 0, none⟩) ∧ (w'.cell? ⟨D, 0, none⟩ = some (.int .i64 op) ∧ w'.cell? ⟨D, 1, none⟩ = some (.int .i64 sub) ∧ w'.cell? ⟨D, 2, none⟩ = some (.int .i64 a) ∧ w'.cell? ⟨D, 3, none⟩ = some (.int .i64 b) ∧ w'.cell? ⟨D, 4, none⟩ = some (.int .i64 d) ∧ w'.cell? ⟨D, 5, none⟩ = some (.int .i64 k) ∧ w'.cell? ⟨D, 6, none⟩ = some (.slice aa na acap) ∧ w'.cell? ⟨D, 7, none⟩ = some (.int .i64 s) ∧ w'.cell? ⟨D, 8, none⟩ = some (.int .i64 t)) ∧ Hid (Below wy.heap.size wy w'))
                  case first =>
                    go_wp2
                    go_meet
                    case rel => exact ⟨_, rfl, ⟨by simp, by simp, by simp, by simp, by simp, by simp, by simp, by simp, by simp⟩, hid (by repeat (first | with_reducible exact Below.refl _ _ | with_reducible refine bel_alloc ?_ _ | with_reducible refine bel_set ?_ (by first | exact Nat.le_refl _ | (simp; done) | (simp; omega)) _ | with_reducible refine Below.drew ?_ | refine bel_trans ?_ (by assumption)))⟩
                  case rest =>
                    obtain ⟨D, rfl, HD, HBD⟩ := hcut
                    rename World => wd
                    have HAV2 := hid (HAV.out.keep HBD.out)
                    clear p0 p1 p2 c0 c1 c2 c3 c4 c5 c6 c7 c8 HAV
                    go_upto_region 13 with fail
                    refine wp_calmL ?_
                    refine lg_r13 D op sub a b d k aa na acap s t args _ _ _ _ _ _ _ _ _ _ _ _ _ _ _ _ _ _ _ _ _ _ _ _ _ _ _ _ _ _ _ _ _ _ _ _ _ _ _ _ _ _ _ _ _ _ _ _ _ _ _ _ _ _ _ _ _ _ _ _ _ _ _ _ _ _ _ _ _ _ _ _ _ _ _ _ _ _ _ _ _ _ _ _ _ _ _ _ _ _ _ _ _ _ _ _ _ _ _ _ wd HD HAV2 HLX ?_
                    intro y45 y46 y47 y48 y49 y50 ua ucap we hown HF
                    obtain ⟨⟨d0, d1, d2, d3, d4, d5, d6, d7, d8⟩, hvE, hbE⟩ := HF
                    have HVE := hid hvE
                    have HBE := hid (bel_trans HBD.out hbE)
                    have HByE := hid (bel_trans HByx.out HBE.out)
                    have HBe := hid (bel_trans HBy.out HBE.out)
                    replace b5 := keep_cell HBE.out b5
                    have hll : (usesF op a b args ++ [writesF op d]).length = (usesF op a b args).length + 1 := by simp
                    have hil := IL.own (l := usesF op a b args ++ [writesF op d]) (by rw [hll]; exact hown) (by have := HLX.out; simp only [] at this; rw [hll]; omega)
                    obtain ⟨va, vcap, vb, vo, e1, hvl, hva, hvc⟩ := hil.parts
                    rw [hll] at e1 hvl hva
                    cases e1
                    obtain ⟨nl, hnl⟩ : ∃ m, m = (usesF op a b args).length + 1 := ⟨_, rfl⟩
                    rw [← hnl] at hvl hva ⊢
                    obtain rfl := hva (by omega)
                    have HNL : Hid (nl = (usesF op a b args ++ [writesF op d]).length) := by show _ = _; rw [hll]; exact hnl
                    have HVC := hid hvc
                    have hlm : (nl : Int) ≤ 9223372036854775807 := by omega
                    have hlm0 : 0 < nl := by omega
                    have HBR : Hid (∀ (m : Nat) y, (usesF op a b args ++ [writesF op d])[m]? = some y → resB y = true → r = false) := fun m y h1 h2 => HBJ.out j _ HGJ.out (lok_res h1 h2)
                    clear hvc hva hown hil hvE hbE HBD HD HAV2 hll hnl HLX
                    obtain ⟨p0, p1, p2⟩ := pg_box HBe.out
                    go_wp2
                    go_loopw [8] (fun vv wv => ∃ m : Nat, m ≤ nl ∧ vv = .int .i64 m ∧ Hid (∀ (k : Nat) y, k < m → (usesF op a b args ++ [writesF op d])[k]? = some y → resB y = false) ∧ wv = we) (fun vv _ => nl - (intOf vv).toNat)
                    case atStart => exact ⟨0, by omega, rfl, fun j x hj => by omega, rfl⟩
                    case round =>
                      obtain ⟨m, hm, rfl, HM, rfl⟩ := hrel
                      rename World => we
                      by_cases hmn : m < nl
                      · have l0 : (0 : Int) ≤ m := by omega
                        have l1 : (m : Int) < nl := by omega
                        have hget := List.getElem?_eq_getElem (l := usesF op a b args ++ [writesF op d]) (show m < (usesF op a b args ++ [writesF op d]).length by rw [← HNL.out]; exact hmn)
                        generalize (usesF op a b args ++ [writesF op d])[m]'(by rw [← HNL.out]; exact hmn) = y at hget
                        have cy := HVC.out m y hget
                        have HGY := hid hget
                        clear hget
                        cases h4 : (y == 4) with
                        | true =>
                          have er := HBR.out m y HGY.out (by simp [resB, h4])
                          subst er
                          go_wp2
                          go_ret
                          exact ⟨rfl, bel_trans (bel_alloc (Below.refl _ _) _) HBe.out⟩
                        | false =>
                          cases h10 : (y == 10) with
                          | true =>
                            have er := HBR.out m y HGY.out (by simp [resB, h10])
                            subst er
                            go_wp2
                            go_ret
                            exact ⟨rfl, bel_trans (bel_alloc (Below.refl _ _) _) HBe.out⟩
                          | false =>
                            cases h11 : (y == 11) with
                            | true =>
                              have er := HBR.out m y HGY.out (by simp [resB, h11])
                              subst er
                              go_wp2
                              go_ret
                              exact ⟨rfl, bel_trans (bel_alloc (Below.refl _ _) _) HBe.out⟩
                            | false =>
                              have HM2 := hid (resstep HGY.out (by simp [resB, h4, h10, h11]) HM.out)
                              go_wp2
                              go_roundw
                              case rel => exact ⟨m + 1, by omega, by simp, HM2, trivial⟩
                              case measure => simp [intOf]; omega
                      · obtain rfl : nl = m := by omega
                        have HALL : Hid (∀ (k : Nat) y, (usesF op a b args ++ [writesF op d])[k]? = some y → resB y = false) := fun k y hk => HM.out k y (by rw [HNL.out]; exact (List.getElem?_eq_some_iff.1 hk).1) hk
                        have HOK0 : Hid (badL ⟨op, sub, a, b, d, k, args, s, t⟩ = false → lokF ⟨op, sub, a, b, d, k, args, s, t⟩ = true) := fun h => lok_ok HALL.out h
                        clear HM hm hmn HBR
                        have HRF : Hid (Calls Tryz.prog 18 #[.slice aa na acap] we (retP (.bool (firstF args)) we)) := rfirst_any HVE.out
                        by_cases o10 : op = 10
                        · subst o10
                          cases qd : (d != 0) with
                          | true =>
                            have qd2 : decide (d = 0) = false := by simpa using qd
                            have er : r = false := HBJ.out j _ HGJ.out (by refine lok_bad ?_; simp only [badL, qd]; rfl)
                            subst er
                            go_wp2_with fail
                            go_ret
                            exact ⟨rfl, bel_trans (bel_alloc (Below.refl _ _) _) HBe.out⟩
                          | false =>
                            have qd2 : decide (d = 0) = true := by simpa using qd
                            cases ff : firstF args with
                            | false =>
                              rw [ff] at HRF
                              have er : r = false := HBJ.out j _ HGJ.out (by refine lok_bad ?_; simp only [badL, ff]; simp)
                              subst er
                              go_wp2_with (go_at_call 18; refine HRF.out.mono ?_; rintro e wf ⟨rfl, hbf⟩; have HBF := hid (bel_trans HBe.out hbf); clear hbf)
                              go_ret
                              exact ⟨rfl, bel_trans (bel_alloc (Below.refl _ _) _) HBF.out⟩
                            | true =>
                              rw [ff] at HRF
                              have HOK := hid (HOK0.out (by simp only [badL, qd, ff]; rfl))
                              go_wp2_with (go_at_call 18; refine HRF.out.mono ?_; rintro e wf ⟨rfl, hbf⟩; have HBF := hid (bel_trans HByE.out hbf); replace d0 := keep_cell hbf d0; replace d2 := keep_cell hbf d2; replace b5 := keep_cell hbf b5; replace p0 := keep_cell hbf p0; replace p1 := keep_cell hbf p1; replace p2 := keep_cell hbf p2; clear hbf)
                              go_roundw
                              case rel => exact ⟨j + 1, by omega, by simp, hid (insstep HGJ.out HOK.out HJ.out), HBF⟩
                              case measure => simp [intOf]; omega
                        · have q10 : (op == 10) = false := by simpa using o10
                          clear o10
                          by_cases o12 : op = 12
                          · subst o12
                            cases qa : (a != 0) with
                            | true =>
                              have qa2 : decide (a = 0) = false := by simpa using qa
                              have er : r = false := HBJ.out j _ HGJ.out (by refine lok_bad ?_; simp only [badL, qa]; rfl)
                              subst er
                              go_wp2_with fail
                              go_ret
                              exact ⟨rfl, bel_trans (bel_alloc (Below.refl _ _) _) HBe.out⟩
                            | false =>
                              have qa2 : decide (a = 0) = true := by simpa using qa
                              have HOK := hid (HOK0.out (by simp only [badL, qa]; rfl))
                              go_wp2_with fail
                              go_roundw
                              case rel => exact ⟨j + 1, by omega, by simp, hid (insstep HGJ.out HOK.out HJ.out), HByE⟩
                              case measure => simp [intOf]; omega
                          · have q12 : (op == 12) = false := by simpa using o12
                            clear o12
                            have HOK := hid (HOK0.out (by simp only [badL, q10, q12]; rfl))
                            go_wp2_with fail
                            go_roundw
                            case rel => exact ⟨j + 1, by omega, by simp, hid (insstep HGJ.out HOK.out HJ.out), HByE⟩
                            case measure => simp [intOf]; omega
                · obtain rfl : nc = j := by omega
                  have HI4 := hid (HI3.out HJ.out)
                  go_wp2
                  go_roundw
                  case rel => exact ⟨i + 1, by omega, by simp, HI4, HBy⟩
                  case measure => simp [intOf]; omega
      · obtain rfl : nf = i := by omega
        have er : r = true := by
          rw [HE2.out]
          refine List.all_eq_true.2 fun x hx => ?_
          obtain ⟨j, hj⟩ := List.getElem?_of_mem hx
          exact HI.out j x (by rw [HNF.out]; exact (List.getElem?_eq_some_iff.1 hj).1) hj
        subst er
        go_wp2
        go_ret
        exact ⟨rfl, bel_trans (bel_alloc (Below.refl _ _) _) HBz.out⟩
end Go.Proofs.YthieicjnenlpfaaGreatDoor

