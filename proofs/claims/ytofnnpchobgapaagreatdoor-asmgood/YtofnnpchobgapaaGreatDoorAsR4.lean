/- The document's own machine code: THE DOCUMENT's Good, its walk. -/
import Derived.Test.YtofnnpchobgapaaGreatDoorAsR3
import Derived.Deep.DeepCutAuto
import Derived.Deep.CutRange
namespace Go.Proofs.YtofnnpchobgapaaGreatDoor
open Go.ChangeShapes Go.WideShapes Go.ChangeAt Go.RowKit
set_option linter.unusedSimpArgs false
set_option linter.unusedVariables false

set_option maxRecDepth 100000 in
set_option maxHeartbeats 40000000 in
theorem rgood_walk (ga fa : Option Addr) (ng gc nf fc gb go fb fo : Nat) (main params : Int) (globals : List Int) (funcs : List AFn) (r : Bool) (w : World) (hng : ng * 8 ≤ 140737488355328) (hnf : nf * 40 ≤ 140737488355328) (HNG : Hid (ng = globals.length)) (HNF : Hid (nf = funcs.length))
    (HGA : Hid (0 < ng → ga = some ⟨gb, go, none⟩)) (HFA : Hid (0 < nf → fa = some ⟨fb, fo, none⟩)) (HGC : Hid (∀ (i : Nat) x, globals[i]? = some x → w.cell? ⟨gb, go + i, none⟩ = some (.int .i64 x))) (HFC : Hid (∀ (i : Nat) f, funcs[i]? = some f → AFnAt w fb (fo + i * 2) f))
    (HH : Hid (rheadB main params ng nf = true)) (HE : Hid (r = (globals.all rszB && funcs.all (fun f => rcodeA globals nf f.code)))) :
    Calls Tryz.prog 9 #[.agg #[.slice ga ng gc, .slice fa nf fc, .int .i64 main, .int .i64 params]] w (retP (.bool r) w) := by
  have hgm : (ng : Int) ≤ 9223372036854775807 := by omega
  have hfm : (nf : Int) ≤ 9223372036854775807 := by omega
  have HBG : Hid (∀ (i : Nat) x, globals[i]? = some x → rszB x = false → r = false) := fun i x h1 h2 => by rw [HE.out, aall_bad h1 h2]; rfl
  have HBF : Hid (∀ (i : Nat) f, funcs[i]? = some f → rcodeA globals nf f.code = false → r = false) := fun i f h1 h2 => by rw [HE.out, aall_bad (f := fun f : AFn => rcodeA globals nf f.code) h1 h2, Bool.and_false]
  obtain ⟨q0, q1, q2, q3, q4, q5⟩ : decide (200 < (ng : Int)) = false ∧ decide (100 < (nf : Int)) = false ∧ decide (main < 0) = false ∧ decide ((nf : Int) ≤ main) = false ∧ decide (params < 0) = false ∧ decide (6 < params) = false := by
    have h := HH.out
    simp only [rheadB, Bool.not_eq_true', Bool.or_eq_false_iff] at h
    exact h
  have qn0 : decide (200 < ng) = false := by simp at q0 ⊢; omega
  have qn1 : decide (100 < nf) = false := by simp at q1 ⊢; omega
  clear HH
  go_enter Tryz.func9, Tryz.ntmps9
  go_wp2
  clear q0 q1 q2 q3 q4 q5 qn0 qn1
  go_loopw [3] (fun vv wz => ∃ i : Nat, i ≤ ng ∧ vv = .int .i64 i ∧ Hid (∀ (j : Nat) x, j < i → globals[j]? = some x → rszB x = true) ∧ wz = (w.alloc (.cells #[.slice ga ng gc, .slice fa nf fc, .int .i64 main, .int .i64 params] 25 (0, 0)))) (fun vv _ => ng - (intOf vv).toNat)
  case atStart => exact ⟨0, by omega, rfl, fun j x hj => by omega, rfl⟩
  case round =>
    obtain ⟨i, hi, rfl, HI, rfl⟩ := hrel
    by_cases hin : i < ng
    · obtain rfl := HGA.out (by omega)
      have j0 : (0 : Int) ≤ i := by omega
      have j1 : (i : Int) < ng := by omega
      have hget := List.getElem?_eq_getElem (l := globals) (show i < globals.length by rw [← HNG.out]; exact hin)
      generalize globals[i]'(by rw [← HNG.out]; exact hin) = y at hget
      have cx := keep_alloc (HGC.out i y hget) (.cells #[.slice (some ⟨gb, go, none⟩) ng gc, .slice fa nf fc, .int .i64 main, .int .i64 params] 25 (0, 0))
      have HG := hid hget
      clear hget
      by_cases h0 : y < 0
      · have q0 : decide (y < 0) = true := by simpa using h0
        have er := HBG.out i y HG.out (by simp [rszB, h0])
        subst er
        clear h0
        go_wp2
        go_ret
        exact ⟨rfl, (by repeat (first | with_reducible exact Below.refl _ _ | with_reducible refine bel_alloc ?_ _ | with_reducible refine bel_set ?_ (by first | exact Nat.le_refl _ | (simp; done) | (simp; omega)) _ | with_reducible refine Below.drew ?_ | refine bel_trans ?_ (by assumption)))⟩
      · have q0 : decide (y < 0) = false := by simpa using h0
        clear h0
        by_cases h1 : 65536 < y
        · have q1 : decide (65536 < y) = true := by simpa using h1
          have er := HBG.out i y HG.out (by simp [rszB, h1])
          subst er
          clear h1
          go_wp2
          go_ret
          exact ⟨rfl, (by repeat (first | with_reducible exact Below.refl _ _ | with_reducible refine bel_alloc ?_ _ | with_reducible refine bel_set ?_ (by first | exact Nat.le_refl _ | (simp; done) | (simp; omega)) _ | with_reducible refine Below.drew ?_ | refine bel_trans ?_ (by assumption)))⟩
        · have q1 : decide (65536 < y) = false := by simpa using h1
          clear h1
          have HI2 := hid (aall_step (f := rszB) HG.out (by simp only [rszB, q0, q1]; rfl) HI.out)
          go_wp2
          go_roundw
          case rel => exact ⟨i + 1, by omega, by simp, HI2, trivial⟩
          case measure => simp [intOf]; omega
    · obtain rfl : ng = i := by omega
      have HE1 : Hid (r = funcs.all (fun f => rcodeA globals nf f.code)) := by show _ = _; rw [HE.out, aall_good HNG.out HI.out, Bool.true_and]
      clear HI HBG hin hi
      go_wp2
      go_loopw [4] (fun vv wz => ∃ i : Nat, i ≤ nf ∧ vv = .int .i64 i ∧ Hid (∀ (j : Nat) f, j < i → funcs[j]? = some f → rcodeA globals nf f.code = true) ∧ Hid (Below (w.alloc (.cells #[.slice ga ng gc, .slice fa nf fc, .int .i64 main, .int .i64 params] 25 (0, 0))).heap.size (w.alloc (.cells #[.slice ga ng gc, .slice fa nf fc, .int .i64 main, .int .i64 params] 25 (0, 0))) wz)) (fun vv _ => nf - (intOf vv).toNat)
      case atStart => exact ⟨0, by omega, rfl, fun j x hj => by omega, Below.refl _ _⟩
      case round =>
        obtain ⟨i, hi, rfl, HI, HBz⟩ := hrel
        rename World => wz
        have p0 := keep_cell (p := ⟨w.heap.size, 0, none⟩) HBz.out (v := .slice ga ng gc) (by simp)
        have p1 := keep_cell (p := ⟨w.heap.size, 1, none⟩) HBz.out (v := .slice fa nf fc) (by simp)
        by_cases hin : i < nf
        · obtain rfl := HFA.out (by omega)
          have j0 : (0 : Int) ≤ i := by omega
          have j1 : (i : Int) < nf := by omega
          have hget := List.getElem?_eq_getElem (l := funcs) (show i < funcs.length by rw [← HNF.out]; exact hin)
          generalize funcs[i]'(by rw [← HNF.out]; exact hin) = f at hget
          have HGI := hid hget
          have HBX : Hid (Below w.heap.size w wz) := (bel_trans (bel_alloc (Below.refl _ _) _) HBz.out)
          obtain ⟨cv, hcd, hnm, d0, d1⟩ := (HFC.out i f hget).keep HBX.out
          obtain ⟨ca, cap, cb, co, rfl, hl, hca, hcc⟩ := hcd.parts
          have HCA := hid hca
          have HCC := hid hcc
          have HFV : Hid (∀ W, Below wz.heap.size wz W → AFnV W (.agg #[.string f.name, .slice ca f.code.length cap]) f) := fun W hW => ⟨_, rfl, hcd.keep hW, hnm⟩
          clear hget hcd hca hcc hnm
          obtain ⟨name, code⟩ := f
          dsimp only at *
          obtain ⟨n, hn⟩ : ∃ n, code.length = n := ⟨_, rfl⟩
          have HN : Hid (n = code.length) := hn.symm
          rw [hn] at hl d1 HCA HFV
          clear hn
          have hnm : (n : Int) ≤ 9223372036854775807 := by omega
          have HBC : Hid (∀ (j : Nat) x, code[j]? = some x → oneA globals nf code j x = false → r = false) := fun j x h1 h2 => HBF.out i _ HGI.out (rcode_bad h1 h2)
          go_wp2
          go_loopw [6, 7] (fun vs vv wy => ∃ j : Nat, j ≤ n ∧ vv = .int .i64 j ∧ vs = .bool (smA code j) ∧ Hid (upA globals nf code j) ∧ Hid (Below (wz.alloc (.cells #[.string name, .slice ca n cap] 44 (0, 0))).heap.size (wz.alloc (.cells #[.string name, .slice ca n cap] 44 (0, 0))) wy)) (fun vs vv _ => n - (intOf vv).toNat)
          case atStart => exact ⟨0, by omega, rfl, rfl, fun j x hj => by omega, Below.refl _ _⟩
          case round =>
            obtain ⟨j, hj, rfl, rfl, HJ, HBy⟩ := hrel
            rename World => wy
            have HBY : Hid (Below wz.heap.size wz wy) := bel_trans (bel_alloc (Below.refl _ _) _) HBy.out
            replace p0 := keep_cell HBY.out p0
            replace p1 := keep_cell HBY.out p1
            have g0 := keep_cell (p := ⟨wz.heap.size, 0, none⟩) HBy.out (v := .string name) (by simp)
            have g1 := keep_cell (p := ⟨wz.heap.size, 1, none⟩) HBy.out (v := .slice ca n cap) (by simp)
            clear d0 d1
            by_cases hjn : j < n
            · obtain rfl := HCA.out (by omega)
              have m0 : (0 : Int) ≤ j := by omega
              have m1 : (j : Int) < n := by omega
              have hget := List.getElem?_eq_getElem (l := code) (show j < code.length by rw [← HN.out]; exact hjn)
              generalize code[j]'(by rw [← HN.out]; exact hjn) = x at hget
              have HGJ := hid hget
              obtain ⟨e0, e1, e2, e3, e4, e5, e6⟩ := (HCC.out j x hget).keep HBY.out
              have HSM := hid (smA_step hget)
              have HRT : Hid (∀ W, Calls Tryz.prog 18 #[.agg #[.int .i64 x.op, .int .i64 x.r, .int .i64 x.m, .int .i64 x.sub, .int .i64 x.cc, .int .i64 x.l, .int .i64 x.k]] W (retP (.bool (rightA x)) W)) := fun W => aright_any x W
              have HPL : Hid (∀ W, Below wz.heap.size wz W → Calls Tryz.prog 19 #[.agg #[.string name, .slice (some ⟨cb, co, none⟩) n cap], .int .i64 x.l] W (retP (.int .i64 (placeA x.l code 0)) W)) := fun W hW => aplaceF_any x.l (HFV.out W hW)
              have HBJ : Hid (oneA globals nf code j x = false → r = false) := fun h => HBC.out j x hget h
              have HOJ : Hid (oneA globals nf code j x = true → upA globals nf code (j + 1)) := fun h => upA_step hget h HJ.out
              clear hget HJ HBC
              obtain ⟨op, r0, m, sub, cc, l, k⟩ := x
              dsimp only at *
              obtain ⟨pl, hpl⟩ : ∃ pl, placeA l code 0 = pl := ⟨_, rfl⟩
              obtain ⟨rt, hrt⟩ : ∃ rt, rightA ⟨op, r0, m, sub, cc, l, k⟩ = rt := ⟨_, rfl⟩
              have HPE := hid hpl
              have HRE := hid hrt
              rw [hpl] at HPL
              rw [hrt] at HRT
              clear hpl hrt
              obtain ⟨c1, hc1⟩ : ∃ c, ((op == 20 && pl != (j : Int)) || ((op == 18 || op == 19) && decide (pl < 0))) = c := ⟨_, rfl⟩
              obtain ⟨c2, hc2⟩ : ∃ c, (op == 21 && (decide (sub < 0) || decide ((nf : Int) ≤ sub))) = c := ⟨_, rfl⟩
              obtain ⟨c3, hc3⟩ : ∃ c, (op == 6 && (decide (sub < 0) || (decide ((ng : Int) ≤ sub) || (decide (k < 0) || decide (glA globals sub < k))))) = c := ⟨_, rfl⟩
              have HOA : Hid (oneA globals nf code j ⟨op, r0, m, sub, cc, l, k⟩ = (rt && (!c1 && (!c2 && !c3)))) := by
                show _ = _
                rw [← hc1, ← hc2, ← hc3]
                simp only [oneA, jumpA, HPE.out, HRE.out, ← HNG.out]
              have HC1 := hid hc1
              have HC2 := hid hc2
              have HC3 := hid hc3
              have HBK : Hid ((rt && (!c1 && (!c2 && !c3))) = false → r = false) := fun h => HBJ.out (by rw [HOA.out]; exact h)
              have HOK : Hid ((rt && (!c1 && (!c2 && !c3))) = true → upA globals nf code (j + 1)) := fun h => HOJ.out (by rw [HOA.out]; exact h)
              clear hc1 hc2 hc3 HOA HBJ HOJ HPE HRE
              obtain ⟨s2, hs2⟩ : ∃ s2, smA code (j + 1) = s2 := ⟨_, rfl⟩
              have HS2 := hid hs2
              rw [hs2] at HSM
              clear hs2
              generalize smA code j = s at *
              go_upto_region 17 with fail
              go_cut [6] (fun sv w' => sv = .bool s2 ∧ w' = (wy.alloc (.cells #[.int .i64 op, .int .i64 r0, .int .i64 m, .int .i64 sub, .int .i64 cc, .int .i64 l, .int .i64 k] 46 (0, 0))))
              case first =>
                cases s with
                | true =>
                  have es : s2 = true := by rw [HSM.out]; rfl
                  go_wp2
                  go_meet
                  case rel => exact ⟨by rw [es], rfl⟩
                | false =>
                  have es : s2 = (op != 20) := by rw [HSM.out]; rfl
                  go_wp2
                  go_meet
                  case rel => exact ⟨by rw [es], rfl⟩
              case rest =>
                obtain ⟨rfl, rfl⟩ := hcut
                clear HSM
                cases rt with
                | false =>
                  have er := HBK.out rfl
                  subst er
                  go_wp2_with (first | (go_at_call 18; refine (HRT.out _).mono ?_; rintro e w3 ⟨rfl, hb3⟩; have HB3 : Hid (Below wy.heap.size wy w3) := hid (bel_trans (bel_alloc (Below.refl _ _) _) hb3); replace p0 := keep_cell HB3.out p0; replace p1 := keep_cell HB3.out p1; replace g0 := keep_cell HB3.out g0; replace g1 := keep_cell HB3.out g1; have c0 := keep_cell hb3 (p := ⟨wy.heap.size, 0, none⟩) (v := .int .i64 op) (by simp); have c1' := keep_cell hb3 (p := ⟨wy.heap.size, 1, none⟩) (v := .int .i64 r0) (by simp); have c2' := keep_cell hb3 (p := ⟨wy.heap.size, 2, none⟩) (v := .int .i64 m) (by simp); have c3' := keep_cell hb3 (p := ⟨wy.heap.size, 3, none⟩) (v := .int .i64 sub) (by simp); have c4 := keep_cell hb3 (p := ⟨wy.heap.size, 4, none⟩) (v := .int .i64 cc) (by simp); have c5 := keep_cell hb3 (p := ⟨wy.heap.size, 5, none⟩) (v := .int .i64 l) (by simp); have c6 := keep_cell hb3 (p := ⟨wy.heap.size, 6, none⟩) (v := .int .i64 k) (by simp); clear hb3))
                  go_ret
                  exact ⟨rfl, bel_trans HBX.out (bel_trans HBY.out HB3.out)⟩
                | true =>
                  go_upto_region 20 with (first | (go_at_call 18; refine (HRT.out _).mono ?_; rintro e w3 ⟨rfl, hb3⟩; have HB3 : Hid (Below wy.heap.size wy w3) := hid (bel_trans (bel_alloc (Below.refl _ _) _) hb3); replace p0 := keep_cell HB3.out p0; replace p1 := keep_cell HB3.out p1; replace g0 := keep_cell HB3.out g0; replace g1 := keep_cell HB3.out g1; have c0 := keep_cell hb3 (p := ⟨wy.heap.size, 0, none⟩) (v := .int .i64 op) (by simp); have c1' := keep_cell hb3 (p := ⟨wy.heap.size, 1, none⟩) (v := .int .i64 r0) (by simp); have c2' := keep_cell hb3 (p := ⟨wy.heap.size, 2, none⟩) (v := .int .i64 m) (by simp); have c3' := keep_cell hb3 (p := ⟨wy.heap.size, 3, none⟩) (v := .int .i64 sub) (by simp); have c4 := keep_cell hb3 (p := ⟨wy.heap.size, 4, none⟩) (v := .int .i64 cc) (by simp); have c5 := keep_cell hb3 (p := ⟨wy.heap.size, 5, none⟩) (v := .int .i64 l) (by simp); have c6 := keep_cell hb3 (p := ⟨wy.heap.size, 6, none⟩) (v := .int .i64 k) (by simp); clear hb3))
                  go_cut [123] (fun sv w' => sv = .bool c1 ∧ Hid (Below wy.heap.size wy w' ∧ w'.cell? ⟨wy.heap.size, 0, none⟩ = some (.int .i64 op) ∧ w'.cell? ⟨wy.heap.size, 1, none⟩ = some (.int .i64 r0) ∧ w'.cell? ⟨wy.heap.size, 2, none⟩ = some (.int .i64 m) ∧ w'.cell? ⟨wy.heap.size, 3, none⟩ = some (.int .i64 sub) ∧ w'.cell? ⟨wy.heap.size, 4, none⟩ = some (.int .i64 cc) ∧ w'.cell? ⟨wy.heap.size, 5, none⟩ = some (.int .i64 l) ∧ w'.cell? ⟨wy.heap.size, 6, none⟩ = some (.int .i64 k) ∧ w'.cell? ⟨w.heap.size, 0, none⟩ = some (.slice ga ng gc) ∧ w'.cell? ⟨w.heap.size, 1, none⟩ = some (.slice (some ⟨fb, fo, none⟩) nf fc)))
                  case first =>
                    by_cases h20 : op = 20
                    · subst h20
                      have e1 : c1 = (pl != (j : Int)) := by rw [← HC1.out]; simp
                      cases qp : (pl != (j : Int)) with
                      | true =>
                        go_wp2_with (first | (go_at_call 19; refine (HPL.out _ (bel_trans HBY.out HB3.out)).mono ?_; rintro e w4 ⟨rfl, hb4⟩; replace HB3 := hid (bel_trans HB3.out hb4); replace p0 := keep_cell hb4 p0; replace p1 := keep_cell hb4 p1; replace g0 := keep_cell hb4 g0; replace g1 := keep_cell hb4 g1; replace c0 := keep_cell hb4 c0; replace c1' := keep_cell hb4 c1'; replace c2' := keep_cell hb4 c2'; replace c3' := keep_cell hb4 c3'; replace c4 := keep_cell hb4 c4; replace c5 := keep_cell hb4 c5; replace c6 := keep_cell hb4 c6; clear hb4))
                        go_meet
                        case rel => exact ⟨by rw [e1, qp], HB3.out, c0, c1', c2', c3', c4, c5, c6, p0, p1⟩
                      | false =>
                        go_wp2_with (first | (go_at_call 19; refine (HPL.out _ (bel_trans HBY.out HB3.out)).mono ?_; rintro e w4 ⟨rfl, hb4⟩; replace HB3 := hid (bel_trans HB3.out hb4); replace p0 := keep_cell hb4 p0; replace p1 := keep_cell hb4 p1; replace g0 := keep_cell hb4 g0; replace g1 := keep_cell hb4 g1; replace c0 := keep_cell hb4 c0; replace c1' := keep_cell hb4 c1'; replace c2' := keep_cell hb4 c2'; replace c3' := keep_cell hb4 c3'; replace c4 := keep_cell hb4 c4; replace c5 := keep_cell hb4 c5; replace c6 := keep_cell hb4 c6; clear hb4))
                        go_meet
                        case rel => exact ⟨by rw [e1, qp], HB3.out, c0, c1', c2', c3', c4, c5, c6, p0, p1⟩
                    have e20 : (op == 20) = false := by simpa using h20
                    by_cases h18 : op = 18
                    · subst h18
                      have e1 : c1 = decide (pl < 0) := by rw [← HC1.out]; simp
                      go_wp2_with (first | (go_at_call 19; refine (HPL.out _ (bel_trans HBY.out HB3.out)).mono ?_; rintro e w4 ⟨rfl, hb4⟩; replace HB3 := hid (bel_trans HB3.out hb4); replace p0 := keep_cell hb4 p0; replace p1 := keep_cell hb4 p1; replace g0 := keep_cell hb4 g0; replace g1 := keep_cell hb4 g1; replace c0 := keep_cell hb4 c0; replace c1' := keep_cell hb4 c1'; replace c2' := keep_cell hb4 c2'; replace c3' := keep_cell hb4 c3'; replace c4 := keep_cell hb4 c4; replace c5 := keep_cell hb4 c5; replace c6 := keep_cell hb4 c6; clear hb4))
                      go_meet
                      case rel => exact ⟨by rw [e1], HB3.out, c0, c1', c2', c3', c4, c5, c6, p0, p1⟩
                    have e18 : (op == 18) = false := by simpa using h18
                    by_cases h19 : op = 19
                    · subst h19
                      have e1 : c1 = decide (pl < 0) := by rw [← HC1.out]; simp
                      go_wp2_with (first | (go_at_call 19; refine (HPL.out _ (bel_trans HBY.out HB3.out)).mono ?_; rintro e w4 ⟨rfl, hb4⟩; replace HB3 := hid (bel_trans HB3.out hb4); replace p0 := keep_cell hb4 p0; replace p1 := keep_cell hb4 p1; replace g0 := keep_cell hb4 g0; replace g1 := keep_cell hb4 g1; replace c0 := keep_cell hb4 c0; replace c1' := keep_cell hb4 c1'; replace c2' := keep_cell hb4 c2'; replace c3' := keep_cell hb4 c3'; replace c4 := keep_cell hb4 c4; replace c5 := keep_cell hb4 c5; replace c6 := keep_cell hb4 c6; clear hb4))
                      go_meet
                      case rel => exact ⟨by rw [e1], HB3.out, c0, c1', c2', c3', c4, c5, c6, p0, p1⟩
                    have e19 : (op == 19) = false := by simpa using h19
                    have e1 : c1 = false := by rw [← HC1.out]; simp [e20, e18, e19]
                    clear h20 h18 h19
                    go_wp2
                    go_meet
                    case rel => exact ⟨by rw [e1], HB3.out, c0, c1', c2', c3', c4, c5, c6, p0, p1⟩
                  case rest =>
                    obtain ⟨rfl, HB4⟩ := hcut
                    clear HC1 HPL HB3 p0 p1 g0 g1 c0 c1' c2' c3' c4 c5 c6 e0 e1 e2 e3 e4 e5 e6
                    obtain ⟨_, c0, c1', c2', c3', c4, c5, c6, p0, p1⟩ := HB4.out
                    cases c1 with
                    | true =>
                      have er := HBK.out rfl
                      subst er
                      go_wp2
                      go_ret
                      exact ⟨rfl, bel_trans HBX.out (bel_trans HBY.out HB4.out.1)⟩
                    | false =>
                      go_upto_region 22 with fail
                      go_cut [139] (fun sv w' => sv = .bool c2 ∧ w' = wc)
                      case first =>
                        by_cases h21 : op = 21
                        · subst h21
                          by_cases h0 : sub < 0
                          · have q0 : decide (sub < 0) = true := by simpa using h0
                            have e1 : c2 = true := by rw [← HC2.out]; simp [h0]
                            clear h0
                            go_wp2
                            go_meet
                            case rel => exact ⟨by rw [e1], rfl⟩
                          · have q0 : decide (sub < 0) = false := by simpa using h0
                            have e1 : c2 = decide ((nf : Int) ≤ sub) := by rw [← HC2.out, q0]; simp
                            clear h0
                            go_wp2
                            go_meet
                            case rel => exact ⟨by rw [e1], rfl⟩
                        have e21 : (op == 21) = false := by simpa using h21
                        have e1 : c2 = false := by rw [← HC2.out]; simp [e21]
                        clear h21
                        go_wp2
                        go_meet
                        case rel => exact ⟨by rw [e1], rfl⟩
                      case rest =>
                        rename World => wd
                        obtain ⟨rfl, rfl⟩ := hcut
                        clear HC2
                        cases c2 with
                        | true =>
                          have er := HBK.out rfl
                          subst er
                          go_wp2
                          go_ret
                          exact ⟨rfl, bel_trans HBX.out (bel_trans HBY.out HB4.out.1)⟩
                        | false =>
                          have HOC := hid (HOK.out)
                          go_upto_region 24 with fail
                          go_cut [171] (fun sv w' => sv = .bool c3 ∧ Hid (Below wy.heap.size wy w'))
                          case first =>
                            by_cases h6 : op = 6
                            · subst h6
                              by_cases h0 : sub < 0
                              · have q0 : decide (sub < 0) = true := by simpa using h0
                                have e1 : c3 = true := by rw [← HC3.out]; simp [h0]
                                clear h0
                                go_quiet (fail)
                                go_wp2
                                go_meet
                                case rel => exact ⟨by rw [e1], abel_drewN HB4.out.1 _⟩
                              have q0 : decide (sub < 0) = false := by simpa using h0
                              by_cases h1 : (ng : Int) ≤ sub
                              · have q1 : decide ((ng : Int) ≤ sub) = true := by simpa using h1
                                have e1 : c3 = true := by rw [← HC3.out]; simp [h1]
                                clear h0 h1
                                go_quiet (fail)
                                go_wp2
                                go_meet
                                case rel => exact ⟨by rw [e1], abel_drewN HB4.out.1 _⟩
                              have q1 : decide ((ng : Int) ≤ sub) = false := by simpa using h1
                              obtain ⟨sn, rfl⟩ : ∃ sn : Nat, sub = sn := ⟨sub.toNat, by omega⟩
                              have k1 : (sn : Int) < ng := by omega
                              have qn1 : decide (ng ≤ sn) = false := by simp; omega
                              have k0 : (0 : Int) ≤ sn := by omega
                              obtain rfl := HGA.out (by omega)
                              have hgg := List.getElem?_eq_getElem (l := globals) (show sn < globals.length by rw [← HNG.out]; omega)
                              generalize globals[sn]'(by rw [← HNG.out]; omega) = z at hgg
                              have hgl : glA globals sn = z := by simp only [glA, Int.toNat_natCast, hgg, Option.getD_some]
                              have cz := keep_cell (bel_trans HBX.out (bel_trans HBY.out HB4.out.1)) (HGC.out sn z hgg)
                              have HC4 : Hid ((decide (k < 0) || decide (z < k)) = c3) := by
                                show _ = _
                                rw [← HC3.out, q0, q1, hgl]; simp
                              clear hgg hgl h0 h1
                              by_cases h2 : k < 0
                              · have q2 : decide (k < 0) = true := by simpa using h2
                                have e1 : c3 = true := by rw [← HC4.out, q2]; rfl
                                clear h2
                                go_quiet (fail)
                                go_wp2
                                go_meet
                                case rel => exact ⟨by rw [e1], abel_drewN HB4.out.1 _⟩
                              · have q2 : decide (k < 0) = false := by simpa using h2
                                have e1 : c3 = decide (z < k) := by rw [← HC4.out, q2]; rfl
                                clear h2
                                go_quiet (fail)
                                go_wp2
                                go_meet
                                case rel => exact ⟨by rw [e1], abel_drewN HB4.out.1 _⟩
                            have e6 : (op == 6) = false := by simpa using h6
                            have e1 : c3 = false := by rw [← HC3.out]; simp [e6]
                            clear h6
                            go_quiet (fail)
                            go_wp2
                            go_meet
                            case rel => exact ⟨by rw [e1], abel_drewN HB4.out.1 _⟩
                          case rest =>
                            obtain ⟨rfl, HB5⟩ := hcut
                            clear HC3
                            cases c3 with
                            | true =>
                              have er := HBK.out rfl
                              subst er
                              go_wp2
                              go_ret
                              exact ⟨rfl, bel_trans HBX.out (bel_trans HBY.out HB5.out)⟩
                            | false =>
                              have HO2 := hid (HOK.out rfl)
                              go_wp2
                              go_roundw
                              case rel => exact ⟨j + 1, by omega, by simp, by rw [HS2.out], HO2, bel_trans HBy.out HB5.out⟩
                              case measure => simp [intOf]; omega

            · obtain rfl : n = j := by omega
              have hrc := rcode_end HN.out HJ.out
              rw [← smA_end HN.out] at hrc
              generalize smA code n = s at *
              have HRC := hid hrc
              clear hrc
              cases s with
              | false =>
                have er := HBF.out i _ HGI.out (by show rcodeA globals nf code = false; rw [HRC.out]; rfl)
                subst er
                go_wp2
                go_ret
                exact ⟨rfl, bel_trans HBX.out HBY.out⟩
              | true =>
                by_cases hk : 100000 < (n : Int)
                · have qk : decide (100000 < (n : Int)) = true := by simpa using hk
                  have qkn : decide (100000 < n) = true := by simp; omega
                  have er := HBF.out i _ HGI.out (by show rcodeA globals nf code = false; rw [HRC.out, qk]; rfl)
                  subst er
                  clear hk
                  go_wp2
                  go_ret
                  exact ⟨rfl, bel_trans HBX.out HBY.out⟩
                · have qk : decide (100000 < (n : Int)) = false := by simpa using hk
                  have qkn : decide (100000 < n) = false := by simp; omega
                  have HI2 := hid (aall_step (f := fun f : AFn => rcodeA globals nf f.code) HGI.out (by show rcodeA globals nf code = true; rw [HRC.out, qk]; rfl) HI.out)
                  clear hk
                  go_wp2
                  go_roundw
                  case rel => exact ⟨i + 1, by omega, by simp, HI2, bel_trans HBz.out HBY.out⟩
                  case measure => simp [intOf]; omega
        · obtain rfl : nf = i := by omega
          have er : r = true := by rw [HE1.out]; exact aall_good HNF.out HI.out
          subst er
          go_wp2
          go_ret
          exact ⟨rfl, (bel_trans (bel_alloc (Below.refl _ _) _) HBz.out)⟩
theorem rGoodA_any {w : World} {v : Value} {p : APg} (h : APgV w v p) : Calls Tryz.prog 9 #[v] w (retP (.bool (RGoodA p)) w) := by
  obtain ⟨gv, fv, rfl, hg, hf⟩ := h
  obtain ⟨ga, gcap, gb, go, rfl, hgl, hga, hgc⟩ := hg.parts
  obtain ⟨fa, fcap, fb, fo, rfl, hfl, hfa, hfc⟩ := hf.parts
  cases hh : rheadB p.main p.params p.globals.length p.funcs.length with
  | false =>
    have e : RGoodA p = false := by rw [RGoodA, hh]; rfl
    rw [e]
    exact rgood_head ga fa _ gcap _ fcap p.main p.params w hgl hfl hh
  | true => exact rgood_walk ga fa _ gcap _ fcap gb go fb fo p.main p.params p.globals p.funcs _ w hgl hfl rfl rfl hga hfa hgc hfc hh (by show RGoodA p = _; rw [RGoodA, hh]; rfl)

end Go.Proofs.YtofnnpchobgapaaGreatDoor
