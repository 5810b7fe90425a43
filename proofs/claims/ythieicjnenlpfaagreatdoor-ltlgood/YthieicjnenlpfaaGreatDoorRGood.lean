/- The document's own graphs: is a program good? -/
import Derived.Test.YthieicjnenlpfaaGreatDoorRRight2
namespace Go.Proofs.YthieicjnenlpfaaGreatDoor
open Go.ChangeShapes Go.WideShapes Go.ChangeAt Go.RowKit
set_option linter.unusedSimpArgs false
set_option linter.unusedVariables false

theorem pg_box {ga fa : Option Addr} {ng gcap nf fcap : Nat} {main : Int} {w W : World} (hb : Below (w.alloc (.cells #[.slice ga ng gcap, .slice fa nf fcap, .int .i64 main] 25 (0, 0))).heap.size (w.alloc (.cells #[.slice ga ng gcap, .slice fa nf fcap, .int .i64 main] 25 (0, 0))) W) :
    W.cell? ⟨w.heap.size, 0, none⟩ = some (.slice ga ng gcap) ∧ W.cell? ⟨w.heap.size, 1, none⟩ = some (.slice fa nf fcap) ∧ W.cell? ⟨w.heap.size, 2, none⟩ = some (.int .i64 main) := by
  refine ⟨keep_cell hb (by simp), keep_cell hb (by simp), keep_cell hb (by simp)⟩
def headP (ng nf main : Int) : Bool := decide (200 < ng) || (decide (100 < nf) || (decide (main < 0) || decide (nf ≤ main)))
def sizeB (x : Int) : Bool := !(decide (x < 0) || decide (65536 < x))
/-- Is what an instruction names there? -/
def namedF (globals : List Int) (funcs : List Fn) (x : Ins) : Bool :=
  if x.op = 10 then !(decide (x.sub < 0) || (decide ((funcs.length : Int) ≤ x.sub) || (((funcs[x.sub.toNat]?).map fun g => g.params.length) != some x.args.length)))
  else if x.op = 8 then !(decide (x.sub < 0) || (decide ((globals.length : Int) ≤ x.sub) || (decide (x.k < 0) || decide ((globals[x.sub.toNat]?).getD 0 < x.k)))) else true
def fnF (globals : List Int) (funcs : List Fn) (f : Fn) : Bool := RightF f && f.code.all (namedF globals funcs)
/-- Is a program well formed? -/
def GoodF (p : Pg) : Bool := !headP p.globals.length p.funcs.length p.main && (p.globals.all sizeB && p.funcs.all (fnF p.globals p.funcs))

theorem insstep {f : Ins → Bool} {l : List Ins} {i : Nat} {x : Ins} (hget : l[i]? = some x) (hf : f x = true) (h : ∀ (j : Nat) y, j < i → l[j]? = some y → f y = true) : ∀ (j : Nat) y, j < i + 1 → l[j]? = some y → f y = true := fun j y hj hy => by
  by_cases e : j = i
  · subst e; rw [hget] at hy; cases hy; exact hf
  · exact h j y (by omega) hy
theorem fnstep {f : Fn → Bool} {l : List Fn} {i : Nat} {x : Fn} (hget : l[i]? = some x) (hf : f x = true) (h : ∀ (j : Nat) y, j < i → l[j]? = some y → f y = true) : ∀ (j : Nat) y, j < i + 1 → l[j]? = some y → f y = true := fun j y hj hy => by
  by_cases e : j = i
  · subst e; rw [hget] at hy; cases hy; exact hf
  · exact h j y (by omega) hy
theorem len_parts {w : World} {v : Value} {l : List Int} (h : IL w v l) : ∃ (a : Option Addr) (cap : Nat), v = .slice a l.length cap ∧ l.length * 8 ≤ 140737488355328 := by
  obtain ⟨a, cap, h1, h2, _⟩ := h
  exact ⟨a, cap, h1, h2⟩
set_option maxRecDepth 100000 in
set_option maxHeartbeats 40000000 in
theorem Good_walk (ga fa : Option Addr) (ng gcap nf fcap gb go fb fo : Nat) (main : Int) (globals : List Int) (funcs : List Fn) (r : Bool) (w : World)
    (hg : ng * 8 ≤ 140737488355328) (hf : nf * 88 ≤ 140737488355328) (HNG : Hid (ng = globals.length)) (HNF : Hid (nf = funcs.length)) (HGA : Hid (0 < ng → ga = some ⟨gb, go, none⟩)) (HFA : Hid (0 < nf → fa = some ⟨fb, fo, none⟩))
    (HGC : Hid (∀ (i : Nat) x, globals[i]? = some x → w.cell? ⟨gb, go + i, none⟩ = some (.int .i64 x)))
    (HFC : Hid (∀ (i : Nat) x, funcs[i]? = some x → FnAt w fb (fo + i * 6) x))
    (HE : Hid (r = (!headP ng nf main && (globals.all sizeB && funcs.all (fnF globals funcs))))) :
    Calls Tryz.prog 17 #[.agg #[.slice ga ng gcap, .slice fa nf fcap, .int .i64 main]] w (retP (.bool r) w) := by
  by_cases h0 : 200 < (ng : Int)
  · have q0 : decide (200 < (ng : Int)) = true := by simpa using h0
    have er : r = false := by rw [HE.out]; simp [headP, h0]
    subst er
    clear h0
    go_enter Tryz.func17, Tryz.ntmps17
    go_wp2
    go_ret
    exact ⟨rfl, (by repeat (first | with_reducible exact Below.refl _ _ | with_reducible refine bel_alloc ?_ _ | with_reducible refine bel_set ?_ (by first | exact Nat.le_refl _ | (simp; done) | (simp; omega)) _ | with_reducible refine Below.drew ?_ | refine bel_trans ?_ (by assumption)))⟩
  have q0 : decide (200 < (ng : Int)) = false := by simpa using h0
  have HQ0 : Hid (¬ (200 < (ng : Int))) := h0
  clear h0
  by_cases h1 : 100 < (nf : Int)
  · have q1 : decide (100 < (nf : Int)) = true := by simpa using h1
    have er : r = false := by rw [HE.out]; simp [headP, h1]
    subst er
    clear h1
    go_enter Tryz.func17, Tryz.ntmps17
    go_wp2
    go_ret
    exact ⟨rfl, (by repeat (first | with_reducible exact Below.refl _ _ | with_reducible refine bel_alloc ?_ _ | with_reducible refine bel_set ?_ (by first | exact Nat.le_refl _ | (simp; done) | (simp; omega)) _ | with_reducible refine Below.drew ?_ | refine bel_trans ?_ (by assumption)))⟩
  have q1 : decide (100 < (nf : Int)) = false := by simpa using h1
  have HQ1 : Hid (¬ (100 < (nf : Int))) := h1
  clear h1
  by_cases h2 : main < 0
  · have q2 : decide (main < 0) = true := by simpa using h2
    have er : r = false := by rw [HE.out]; simp [headP, h2]
    subst er
    clear h2
    go_enter Tryz.func17, Tryz.ntmps17
    go_wp2
    go_ret
    exact ⟨rfl, (by repeat (first | with_reducible exact Below.refl _ _ | with_reducible refine bel_alloc ?_ _ | with_reducible refine bel_set ?_ (by first | exact Nat.le_refl _ | (simp; done) | (simp; omega)) _ | with_reducible refine Below.drew ?_ | refine bel_trans ?_ (by assumption)))⟩
  have q2 : decide (main < 0) = false := by simpa using h2
  have HQ2 : Hid (¬ (main < 0)) := h2
  clear h2
  by_cases h3 : (nf : Int) ≤ main
  · have q3 : decide ((nf : Int) ≤ main) = true := by simpa using h3
    have er : r = false := by rw [HE.out]; simp [headP, h3]
    subst er
    clear h3
    go_enter Tryz.func17, Tryz.ntmps17
    go_wp2
    go_ret
    exact ⟨rfl, (by repeat (first | with_reducible exact Below.refl _ _ | with_reducible refine bel_alloc ?_ _ | with_reducible refine bel_set ?_ (by first | exact Nat.le_refl _ | (simp; done) | (simp; omega)) _ | with_reducible refine Below.drew ?_ | refine bel_trans ?_ (by assumption)))⟩
  have q3 : decide ((nf : Int) ≤ main) = false := by simpa using h3
  have HQ3 : Hid (¬ ((nf : Int) ≤ main)) := h3
  clear h3
  have HE1 : Hid (r = (globals.all sizeB && funcs.all (fnF globals funcs))) := by show _ = _; rw [HE.out]; simp only [headP, q0, q1, q2, q3]; rfl
  clear HE
  have HB0 : Hid (∀ (i : Nat) x, globals[i]? = some x → sizeB x = false → r = false) := fun i x h1 h2 => by rw [HE1.out, all_bad h1 h2]; rfl
  have hgm : (ng : Int) ≤ 9223372036854775807 := by omega
  have hfm : (nf : Int) ≤ 9223372036854775807 := by omega
  go_enter Tryz.func17, Tryz.ntmps17
  go_wp2
  go_loopw [3] (fun vv wz => ∃ i : Nat, i ≤ ng ∧ vv = .int .i64 i ∧ Hid (∀ (j : Nat) x, j < i → globals[j]? = some x → sizeB x = true) ∧ Hid (Below (w.alloc (.cells #[.slice ga ng gcap, .slice fa nf fcap, .int .i64 main] 25 (0, 0))).heap.size (w.alloc (.cells #[.slice ga ng gcap, .slice fa nf fcap, .int .i64 main] 25 (0, 0))) wz)) (fun vv _ => ng - (intOf vv).toNat)
  case atStart => exact ⟨0, by omega, rfl, fun j x hj => by omega, Below.refl _ _⟩
  case round =>
    obtain ⟨i, hi, rfl, HI, HBz⟩ := hrel
    rename World => wz
    obtain ⟨p0, p1, p2⟩ := pg_box HBz.out
    by_cases hin : i < ng
    · obtain rfl := HGA.out (by omega)
      have j0 : (0 : Int) ≤ i := by omega
      have j1 : (i : Int) < ng := by omega
      have hget := List.getElem?_eq_getElem (l := globals) (show i < globals.length by rw [← HNG.out]; exact hin)
      generalize globals[i]'(by rw [← HNG.out]; exact hin) = x at hget
      have cx := keep_cell HBz.out (keep_alloc (HGC.out i x hget) _)
      have HG : Hid (globals[i]? = some x) := hget
      clear hget
      by_cases hx0 : x < 0
      · have qx : decide (x < 0) = true := by simpa using hx0
        have er : r = false := HB0.out i x HG.out (by simp [sizeB, qx])
        subst er
        clear hx0
        go_wp2
        go_ret
        exact ⟨rfl, bel_trans (bel_alloc (Below.refl _ _) _) HBz.out⟩
      · have qx : decide (x < 0) = false := by simpa using hx0
        clear hx0
        by_cases hx1 : 65536 < x
        · have qy : decide (65536 < x) = true := by simpa using hx1
          have er : r = false := HB0.out i x HG.out (by simp [sizeB, qx, hx1])
          subst er
          clear hx1
          go_wp2
          go_ret
          exact ⟨rfl, bel_trans (bel_alloc (Below.refl _ _) _) HBz.out⟩
        · have qy : decide (65536 < x) = false := by simpa using hx1
          have HI2 := hid (all_step HG.out (show sizeB x = true by simp [sizeB, qx, qy]) HI.out)
          clear hx1
          go_wp2
          go_roundw
          case rel => exact ⟨i + 1, by omega, by simp, HI2, HBz⟩
          case measure => simp [intOf]; omega
    · obtain rfl : ng = i := by omega
      have HE2 : Hid (r = funcs.all (fnF globals funcs)) := by show _ = _; rw [HE1.out, all_good HNG.out HI.out]; rfl
      have HB3 : Hid (∀ (i : Nat) x, funcs[i]? = some x → fnF globals funcs x = false → r = false) := fun i x h1 h2 => by
        rw [HE2.out]; exact List.all_eq_false.2 ⟨x, List.mem_of_getElem? h1, by simp [h2]⟩
      clear HE1 HI HB0 hin hi
      go_wp2
      go_loopw [4] (fun vv wz => ∃ i : Nat, i ≤ nf ∧ vv = .int .i64 i ∧ Hid (∀ (j : Nat) x, j < i → funcs[j]? = some x → fnF globals funcs x = true) ∧ Hid (Below (w.alloc (.cells #[.slice ga ng gcap, .slice fa nf fcap, .int .i64 main] 25 (0, 0))).heap.size (w.alloc (.cells #[.slice ga ng gcap, .slice fa nf fcap, .int .i64 main] 25 (0, 0))) wz)) (fun vv _ => nf - (intOf vv).toNat)
      case atStart => exact ⟨0, by omega, rfl, fun j x hj => by omega, HBz⟩
      case round =>
        obtain ⟨i, hi, rfl, HI, HBz⟩ := hrel
        rename World => wz
        clear p0 p1 p2
        obtain ⟨p0, p1, p2⟩ := pg_box HBz.out
        by_cases hin : i < nf
        · obtain rfl := HFA.out (by omega)
          have j0 : (0 : Int) ≤ i := by omega
          have j1 : (i : Int) < nf := by omega
          have hget := List.getElem?_eq_getElem (l := funcs) (show i < funcs.length by rw [← HNF.out]; exact hin)
          generalize funcs[i]'(by rw [← HNF.out]; exact hin) = f at hget
          have HG : Hid (funcs[i]? = some f) := hget
          obtain ⟨pv, cv, hp, hc, hnm, f0, f1, f2, f3, f4, f5⟩ := (((HFC.out i f hget).keep (bel_alloc (Below.refl _ _) _)).keep HBz.out)
          obtain ⟨ca, ccap, cb, co, rfl, hcl, hca, hcc⟩ := hc.parts
          obtain ⟨pa, ppcap, rfl, hppl⟩ := len_parts hp
          have HBF : Hid (fnF globals funcs f = false → r = false) := fun h => HB3.out i f HG.out h
          have HI2 : Hid (fnF globals funcs f = true → ∀ (j : Nat) y, j < i + 1 → funcs[j]? = some y → fnF globals funcs y = true) := fun h => fnstep HG.out h HI.out
          have HPV := hid hp
          have HCV := hid hc
          have HCA := hid hca
          have HCC := hid hcc
          clear hget hp hc hca hcc HI
          obtain ⟨name, params, regs, frame, entry, code⟩ := f
          simp only [] at f0 f1 f2 f3 f4 f5 hnm hcl hppl
          obtain ⟨npp, hnpp⟩ : ∃ m, m = params.length := ⟨_, rfl⟩
          have HNPP := hid hnpp
          rw [← hnpp] at hppl f1
          clear hnpp
          obtain ⟨nc, hnc⟩ : ∃ m, m = code.length := ⟨_, rfl⟩
          have HNC := hid hnc
          have HCA2 : Hid (0 < nc → ca = some ⟨cb, co, none⟩) := fun h => HCA.out (by rw [HNC.out] at h; exact h)
          rw [← hnc] at hcl f5
          have hcm : (nc : Int) ≤ 9223372036854775807 := by omega
          clear hnc HCA
          go_upto_region 11 with fail
          go_cut [5] from 52 to 140 (fun sv w' => ∃ B, sv = .pointer (some ⟨B, 0, none⟩) ∧ w'.cell? ⟨B, 0, none⟩ = some (.string name) ∧ w'.cell? ⟨B, 1, none⟩ = some (.slice pa npp ppcap) ∧ w'.cell? ⟨B, 2, none⟩ = some (.int .i64 regs) ∧ w'.cell? ⟨B, 3, none⟩ = some (.int .i64 frame) ∧ w'.cell? ⟨B, 4, none⟩ = some (.int .i64 entry) ∧ w'.cell? ⟨B, 5, none⟩ = some (.slice ca nc ccap) ∧ Hid (Below wz.heap.size wz w'))
          case first =>
            go_wp2
            go_meet
            case rel => exact ⟨_, rfl, by simp, by simp, by simp, by simp, by simp, by simp, hid (by repeat (first | with_reducible exact Below.refl _ _ | with_reducible refine bel_alloc ?_ _ | with_reducible refine bel_set ?_ (by first | exact Nat.le_refl _ | (simp; done) | (simp; omega)) _ | with_reducible refine Below.drew ?_ | refine bel_trans ?_ (by assumption)))⟩
          case rest =>
            obtain ⟨B, rfl, b0, b1, b2, b3, b4, b5, HBB⟩ := hcut
            rename World => wq
            have HBq := hid (bel_trans HBz.out HBB.out)
            clear p0 p1 p2 f0 f1 f2 f3 f4 f5
            obtain ⟨p0, p1, p2⟩ := pg_box HBq.out
            obtain ⟨rf, hrf⟩ : ∃ x, RightF ⟨name, params, regs, frame, entry, code⟩ = x := ⟨_, rfl⟩
            have HRF := hid hrf
            have HFV : Hid (∀ W, Below wq.heap.size wq W → FnV W (.agg #[.string name, .slice pa npp ppcap, .int .i64 regs, .int .i64 frame, .int .i64 entry, .slice ca nc ccap]) ⟨name, params, regs, frame, entry, code⟩) := fun W hW => ⟨_, _, rfl, (by have := (HPV.out.keep HBB.out).keep hW; simp only [← HNPP.out] at this; rw [HNPP.out] at this ⊢; exact this), by have := (HCV.out.keep HBB.out).keep hW; rw [← HNC.out] at this; exact this, hnm⟩
            clear hrf
            cases rf with
            | false =>
              have er : r = false := HBF.out (by rw [fnF, HRF.out]; rfl)
              subst er
              go_wp2_with (go_at_call 28; refine (rRight_any (HFV.out _ (Below.refl _ _))).mono ?_; rintro e wx ⟨rfl, hbx⟩; rw [HRF.out]; have HBx := hid (bel_trans HBq.out hbx); have HBqx := hid (bel_trans HBB.out hbx); replace b5 := keep_cell hbx b5; clear p0 p1 p2 b0 b1 b2 b3 b4; obtain ⟨p0, p1, p2⟩ := pg_box HBx.out; clear hbx)
              go_ret
              exact ⟨rfl, bel_trans (bel_alloc (Below.refl _ _) _) HBx.out⟩
            | true =>
              have HBJ : Hid (∀ (j : Nat) x, code[j]? = some x → namedF globals funcs x = false → r = false) := fun j x h1 h2 => HBF.out (by
                rw [fnF, HRF.out, Bool.true_and]; exact List.all_eq_false.2 ⟨x, List.mem_of_getElem? h1, by simp [h2]⟩)
              have HI3 : Hid ((∀ (j : Nat) x, j < nc → code[j]? = some x → namedF globals funcs x = true) → ∀ (j : Nat) y, j < i + 1 → funcs[j]? = some y → fnF globals funcs y = true) := fun h => HI2.out (by
                rw [fnF, HRF.out, Bool.true_and]
                refine List.all_eq_true.2 fun x hx => ?_
                obtain ⟨j, hj⟩ := List.getElem?_of_mem hx
                exact h j x (by rw [HNC.out]; exact (List.getElem?_eq_some_iff.1 hj).1) hj)
              clear HI2 HBF
              go_wp2_with (go_at_call 28; refine (rRight_any (HFV.out _ (Below.refl _ _))).mono ?_; rintro e wx ⟨rfl, hbx⟩; rw [HRF.out]; have HBx := hid (bel_trans HBq.out hbx); have HBqx := hid (bel_trans HBB.out hbx); replace b5 := keep_cell hbx b5; clear p0 p1 p2 b0 b1 b2 b3 b4; obtain ⟨p0, p1, p2⟩ := pg_box HBx.out; clear hbx)
              clear HRF HFV
              go_loopw [6] (fun vv wy => ∃ j : Nat, j ≤ nc ∧ vv = .int .i64 j ∧ Hid (∀ (k : Nat) x, k < j → code[k]? = some x → namedF globals funcs x = true) ∧ Hid (Below wx.heap.size wx wy)) (fun vv _ => nc - (intOf vv).toNat)
              case atStart => exact ⟨0, by omega, rfl, fun j x hj => by omega, Below.refl _ _⟩
              case round =>
                obtain ⟨j, hj, rfl, HJ, HByx⟩ := hrel
                rename World => wy
                have HBy := hid (bel_trans HBx.out HByx.out)
                replace b5 := keep_cell HByx.out b5
                clear p0 p1 p2
                obtain ⟨p0, p1, p2⟩ := pg_box HBy.out
                by_cases hjn : j < nc
                · obtain rfl := HCA2.out (by omega)
                  have k0 : (0 : Int) ≤ j := by omega
                  have k1 : (j : Int) < nc := by omega
                  have hget := List.getElem?_eq_getElem (l := code) (show j < code.length by rw [← HNC.out]; exact hjn)
                  generalize code[j]'(by rw [← HNC.out]; exact hjn) = x at hget
                  obtain ⟨av, hav, c0, c1, c2, c3, c4, c5, c6, c7, c8⟩ := ((HCC.out j x hget).keep (bel_trans HBqx.out HByx.out))
                  obtain ⟨aa, acap, rfl, hal⟩ := len_parts hav
                  have HGJ := hid hget
                  clear hget hav
                  obtain ⟨op, sub, a, b, d, k, args, s, t⟩ := x
                  simp only [] at c0 c1 c2 c3 c4 c5 c6 c7 c8 hal
                  obtain ⟨na, hna⟩ : ∃ m, m = args.length := ⟨_, rfl⟩
                  have HNA := hid hna
                  rw [← hna] at hal c6
                  clear hna
                  go_upto_region 17 with fail
                  go_cut [7] from 67 to 140 (fun sv w' => ∃ D, sv = .pointer (some ⟨D, 0, none⟩) ∧ w'.cell? ⟨D, 0, none⟩ = some (.int .i64 op) ∧ w'.cell? ⟨D, 1, none⟩ = some (.int .i64 sub) ∧ w'.cell? ⟨D, 5, none⟩ = some (.int .i64 k) ∧ w'.cell? ⟨D, 6, none⟩ = some (.slice aa na acap) ∧ Hid (Below wy.heap.size wy w'))
                  case first =>
                    go_wp2
                    go_meet
                    case rel => exact ⟨_, rfl, by simp, by simp, by simp, by simp, hid (by repeat (first | with_reducible exact Below.refl _ _ | with_reducible refine bel_alloc ?_ _ | with_reducible refine bel_set ?_ (by first | exact Nat.le_refl _ | (simp; done) | (simp; omega)) _ | with_reducible refine Below.drew ?_ | refine bel_trans ?_ (by assumption)))⟩
                  case rest =>
                    obtain ⟨D, rfl, d0, d1, d5, d6, HBD⟩ := hcut
                    replace HByx := hid (bel_trans HByx.out HBD.out)
                    replace HBy := hid (bel_trans HBy.out HBD.out)
                    replace b5 := keep_cell HBD.out b5
                    clear p0 p1 p2 c0 c1 c2 c3 c4 c5 c6 c7 c8
                    obtain ⟨p0, p1, p2⟩ := pg_box HBy.out
                    by_cases h10 : op = 10
                    · subst h10
                      by_cases hs0 : sub < 0
                      · have qs : decide (sub < 0) = true := by simpa using hs0
                        have er : r = false := HBJ.out j _ HGJ.out (by simp [namedF, hs0])
                        clear hs0
                        subst er
                        go_wp2_with fail
                        go_quiet (fail)
                        go_wp2
                        go_ret
                        exact ⟨rfl, bel_trans (bel_alloc (Below.refl _ _) _) (bel_drewN HBy.out _)⟩
                      · have qs : decide (sub < 0) = false := by simpa using hs0
                        obtain ⟨m, rfl⟩ : ∃ m : Nat, sub = m := ⟨sub.toNat, by omega⟩
                        clear hs0
                        by_cases hs1 : nf ≤ m
                        · have qt : decide ((nf : Int) ≤ (m : Int)) = true := by simp; omega
                          have qtn : decide (nf ≤ m) = true := by simp; omega
                          have er : r = false := HBJ.out j _ HGJ.out (by rw [HNF.out] at hs1; simp [namedF, hs1])
                          clear hs1
                          subst er
                          go_wp2_with fail
                          go_quiet (fail)
                          go_wp2
                          go_ret
                          exact ⟨rfl, bel_trans (bel_alloc (Below.refl _ _) _) (bel_drewN HBy.out _)⟩
                        · have qt : decide ((nf : Int) ≤ (m : Int)) = false := by simp; omega
                          have qtn : decide (nf ≤ m) = false := by simp; omega
                          have m0 : (0 : Int) ≤ m := by omega
                          have m1 : (m : Int) < nf := by omega
                          have hgm := List.getElem?_eq_getElem (l := funcs) (show m < funcs.length by rw [← HNF.out]; omega)
                          generalize funcs[m]'(by rw [← HNF.out]; omega) = g at hgm
                          obtain ⟨gv, _, hgp, _, _, _, e1, _, _, _, _⟩ := (((HFC.out m g hgm).keep (bel_alloc (Below.refl _ _) _)).keep HBy.out)
                          obtain ⟨gaa, gcp, rfl, hgl⟩ := len_parts hgp
                          obtain ⟨np, hnp⟩ : ∃ z, z = g.params.length := ⟨_, rfl⟩
                          have HNM : Hid (namedF globals funcs ⟨10, m, a, b, d, k, args, s, t⟩ = !(np != na)) := by
                            show _ = _
                            have h1 : ¬ ((funcs.length : Int) ≤ (m : Int)) := by rw [← HNF.out]; omega
                            rw [namedF, if_pos rfl]
                            simp only [Int.toNat_natCast, hgm, Option.map_some, qs, decide_eq_false h1, Bool.false_or, HNA.out, hnp]
                            rfl
                          rw [← hnp] at e1 hgl
                          clear hgp hgm hs1 hnp
                          cases hq : (np != na) with
                          | true =>
                            have qn : ((np : Int) != (na : Int)) = true := by simp at hq ⊢; omega
                            have qnn : (np != na) = true := hq
                            have qnd : decide ((np : Int) = (na : Int)) = false := by simp at hq ⊢; omega
                            have qnm : decide (np = na) = false := by simp at hq ⊢; omega
                            have er : r = false := HBJ.out j _ HGJ.out (by rw [HNM.out, hq]; rfl)
                            clear hq
                            subst er
                            go_wp2_with fail
                            go_quiet (fail)
                            go_wp2
                            go_ret
                            exact ⟨rfl, bel_trans (bel_alloc (Below.refl _ _) _) (bel_drewN HBy.out _)⟩
                          | false =>
                            have qn : ((np : Int) != (na : Int)) = false := by simp at hq ⊢; omega
                            have qnn : (np != na) = false := hq
                            have qnd : decide ((np : Int) = (na : Int)) = true := by simp at hq ⊢; omega
                            have qnm : decide (np = na) = true := by simp at hq ⊢; omega
                            have hok : namedF globals funcs ⟨10, m, a, b, d, k, args, s, t⟩ = true := by rw [HNM.out, hq]; rfl
                            have HOK := hid hok
                            clear hq hok
                            go_wp2_with fail
                            go_quiet (fail)
                            go_wp2_with fail
                            go_quiet (fail)
                            have hok := HOK.out
                            go_wp2
                            go_roundw
                            case rel => exact ⟨j + 1, by omega, by simp, hid (insstep HGJ.out hok HJ.out), hid (bel_drewN HByx.out _)⟩
                            case measure => simp [intOf]; omega
                    · have q10 : (op == 10) = false := by simpa using h10
                      by_cases h8 : op = 8
                      · subst h8
                        clear h10
                        by_cases hs0 : sub < 0
                        · have qs : decide (sub < 0) = true := by simpa using hs0
                          have er : r = false := HBJ.out j _ HGJ.out (by simp [namedF, hs0])
                          clear hs0
                          go_wp2_with fail
                          go_quiet (fail)
                          subst er
                          go_wp2_with fail
                          go_quiet (fail)
                          go_wp2
                          go_ret
                          exact ⟨rfl, bel_trans (bel_alloc (Below.refl _ _) _) (bel_drewN (bel_drewN HBy.out _) _)⟩
                        · have qs : decide (sub < 0) = false := by simpa using hs0
                          obtain ⟨m, rfl⟩ : ∃ m : Nat, sub = m := ⟨sub.toNat, by omega⟩
                          clear hs0
                          by_cases hs1 : ng ≤ m
                          · have qt : decide ((ng : Int) ≤ (m : Int)) = true := by simp; omega
                            have qtn : decide (ng ≤ m) = true := by simp; omega
                            have er : r = false := HBJ.out j _ HGJ.out (by rw [HNG.out] at hs1; simp [namedF, hs1])
                            clear hs1
                            go_wp2_with fail
                            go_quiet (fail)
                            subst er
                            go_wp2_with fail
                            go_quiet (fail)
                            go_wp2
                            go_ret
                            exact ⟨rfl, bel_trans (bel_alloc (Below.refl _ _) _) (bel_drewN (bel_drewN HBy.out _) _)⟩
                          · have qt : decide ((ng : Int) ≤ (m : Int)) = false := by simp; omega
                            have qtn : decide (ng ≤ m) = false := by simp; omega
                            have m0 : (0 : Int) ≤ m := by omega
                            have m1 : (m : Int) < ng := by omega
                            obtain rfl := HGA.out (by omega)
                            have hgm := List.getElem?_eq_getElem (l := globals) (show m < globals.length by rw [← HNG.out]; omega)
                            generalize globals[m]'(by rw [← HNG.out]; omega) = z at hgm
                            have ez := keep_cell HBy.out (keep_alloc (HGC.out m z hgm) _)
                            have HNM : Hid (namedF globals funcs ⟨8, m, a, b, d, k, args, s, t⟩ = !(decide (k < 0) || decide (z < k))) := by
                              show _ = _
                              have h1 : ¬ ((globals.length : Int) ≤ (m : Int)) := by rw [← HNG.out]; omega
                              rw [namedF, if_neg (by simp), if_pos rfl]
                              simp only [Int.toNat_natCast, hgm, Option.getD_some, qs, decide_eq_false h1, Bool.false_or]
                            clear hgm hs1
                            cases hk0 : decide (k < 0) with
                            | true =>
                              have er : r = false := HBJ.out j _ HGJ.out (by rw [HNM.out, hk0]; rfl)
                              go_wp2_with fail
                              go_quiet (fail)
                              subst er
                              go_wp2_with fail
                              go_quiet (fail)
                              go_wp2
                              go_ret
                              exact ⟨rfl, bel_trans (bel_alloc (Below.refl _ _) _) (bel_drewN (bel_drewN HBy.out _) _)⟩
                            | false =>
                              cases hk1 : decide (z < k) with
                              | true =>
                                have er : r = false := HBJ.out j _ HGJ.out (by rw [HNM.out, hk0, hk1]; rfl)
                                go_wp2_with fail
                                go_quiet (fail)
                                subst er
                                go_wp2_with fail
                                go_quiet (fail)
                                go_wp2
                                go_ret
                                exact ⟨rfl, bel_trans (bel_alloc (Below.refl _ _) _) (bel_drewN (bel_drewN HBy.out _) _)⟩
                              | false =>
                                have hok : namedF globals funcs ⟨8, m, a, b, d, k, args, s, t⟩ = true := by rw [HNM.out, hk0, hk1]; rfl
                                have HOK := hid hok
                                clear hok
                                go_wp2_with fail
                                go_quiet (fail)
                                go_wp2_with fail
                                go_quiet (fail)
                                have hok := HOK.out
                                go_wp2
                                go_roundw
                                case rel => exact ⟨j + 1, by omega, by simp, hid (insstep HGJ.out hok HJ.out), hid (bel_drewN HByx.out _)⟩
                                case measure => simp [intOf]; omega
                      · have q8 : (op == 8) = false := by simpa using h8
                        have HOK : Hid (namedF globals funcs ⟨op, sub, a, b, d, k, args, s, t⟩ = true) := by show _ = _; rw [namedF, if_neg h10, if_neg h8]
                        clear h10 h8
                        go_wp2_with fail
                        go_quiet (fail)
                        go_wp2_with fail
                        go_quiet (fail)
                        have hok := HOK.out
                        go_wp2
                        go_roundw
                        case rel => exact ⟨j + 1, by omega, by simp, hid (insstep HGJ.out hok HJ.out), hid (bel_drewN HByx.out _)⟩
                        case measure => simp [intOf]; omega
                · obtain rfl : nc = j := by omega
                  have HI4 := hid (HI3.out HJ.out)
                  go_wp2
                  go_roundw
                  case rel => exact ⟨i + 1, by omega, by simp, HI4, HBy⟩
                  case measure => simp [intOf]; omega
        · obtain rfl : nf = i := by omega
          have er : r = true := by
            rw [HE2.out]
            refine List.all_eq_true.2 fun x hx => ?_
            obtain ⟨j, hj⟩ := List.getElem?_of_mem hx
            exact HI.out j x (by rw [HNF.out]; exact (List.getElem?_eq_some_iff.1 hj).1) hj
          subst er
          go_wp2
          go_ret
          exact ⟨rfl, bel_trans (bel_alloc (Below.refl _ _) _) HBz.out⟩
theorem rGood_any {w : World} {v : Value} {p : Pg} (h : PgV w v p) : Calls Tryz.prog 17 #[v] w (retP (.bool (GoodF p)) w) := by
  obtain ⟨gv, fv, rfl, hg, hf⟩ := h
  obtain ⟨ga, gcap, gb, go, rfl, hgl, hga, hgc⟩ := hg.parts
  obtain ⟨fa, fcap, fb, fo, rfl, hfl, hfa, hfc⟩ := hf.parts
  exact Good_walk ga fa p.globals.length gcap p.funcs.length fcap gb go fb fo p.main p.globals p.funcs _ w hgl hfl rfl rfl hga hfa hgc hfc rfl
end Go.Proofs.YthieicjnenlpfaaGreatDoor

