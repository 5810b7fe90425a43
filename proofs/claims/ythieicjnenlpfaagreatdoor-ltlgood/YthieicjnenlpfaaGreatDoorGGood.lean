/- Package rtl: is a program well formed? -/
import Derived.Test.YthieicjnenlpfaaGreatDoorGTakes4
import Derived.Test.YthieicjnenlpfaaGreatDoorGParams
import Derived.Test.YthieicjnenlpfaaGreatDoorGNamed
namespace Go.Proofs.YthieicjnenlpfaaGreatDoor
open Go.ChangeShapes Go.WideShapes Go.ChangeAt Go.RowKit
set_option linter.unusedSimpArgs false
set_option linter.unusedVariables false


theorem head_eq (regs frame entry n : Int) : (sizesB regs frame n && inB n entry) = !headL regs frame entry n := by
  unfold sizesB inB headL withinB
  rw [Bool.eq_iff_iff]
  simp
  omega
set_option maxRecDepth 100000 in
set_option maxHeartbeats 8000000 in
theorem isRight_walk (fb fo : Nat) (ca : Option Addr) (n cap cb co : Nat) (entry : Int) (code : List Ins) (sz nd pr r : Bool) (cf : Ins → Bool) (w : World) (f4 : w.cell? ⟨fb, fo + 4, none⟩ = some (.int .i64 entry)) (f5 : w.cell? ⟨fb, fo + 5, none⟩ = some (.slice ca n cap)) (hn : n * 88 ≤ 140737488355328) (HN : Hid (n = code.length)) (HA : Hid (0 < n → ca = some ⟨cb, co, none⟩))
    (HSZ : Hid (∀ W : World, W = w → Calls Tryz.prog 45 #[.pointer (some ⟨fb, fo, none⟩)] W fun e w' => e = .returned (.bool sz) ∧ w' = W))
    (HND : Hid (∀ W : World, W = w → Calls Tryz.prog 46 #[.pointer (some ⟨fb, fo, none⟩), .int .i64 entry] W fun e w' => e = .returned (.bool nd) ∧ w' = W))
    (HPR : Hid (sz = true → Calls Tryz.prog 47 #[.pointer (some ⟨fb, fo, none⟩)] w (retP (.bool pr) w)))
    (HTK : Hid (sz = true → ∀ W (i : Nat) x, Below w.heap.size w W → code[i]? = some x → Calls Tryz.prog 48 #[.pointer (some ⟨fb, fo, none⟩), .pointer (some ⟨cb, co + i * 9, none⟩)] W (retP (.bool (cf x)) W)))
    (HE : Hid (r = ((sz && nd) && (pr && code.all cf)))) :
    Calls Tryz.prog 33 #[.pointer (some ⟨fb, fo, none⟩)] w (retP (.bool r) w) := by
  have hnm : (n : Int) ≤ 9223372036854775807 := by omega
  cases sz with
  | false =>
    have er : r = false := by rw [HE.out]; rfl
    subst er
    go_enter Tryz.func33, Tryz.ntmps33
    go_wp2_with (go_at_call 45; refine (HSZ.out _ rfl).mono ?_; rintro e w1 ⟨rfl, hw⟩; subst hw)
    go_ret
    exact ⟨rfl, Below.refl _ _⟩
  | true =>
    replace HPR := hid (HPR.out rfl)
    replace HTK := hid (HTK.out rfl)
    cases nd with
    | false =>
      have er : r = false := by rw [HE.out]; rfl
      subst er
      go_enter Tryz.func33, Tryz.ntmps33
      go_wp2_with (first | (go_at_call 45; refine (HSZ.out _ rfl).mono ?_; rintro e w1 ⟨rfl, hw⟩; subst hw) | (go_at_call 46; refine (HND.out _ rfl).mono ?_; rintro e w1 ⟨rfl, hw⟩; subst hw))
      go_ret
      exact ⟨rfl, Below.refl _ _⟩
    | true =>
      cases pr with
      | false =>
        have er : r = false := by rw [HE.out]; rfl
        subst er
        go_enter Tryz.func33, Tryz.ntmps33
        go_wp2_with (first | (go_at_call 45; refine (HSZ.out _ rfl).mono ?_; rintro e w1 ⟨rfl, hw⟩; subst hw) | (go_at_call 46; refine (HND.out _ rfl).mono ?_; rintro e w1 ⟨rfl, hw⟩; subst hw) | (go_at_call 47; refine HPR.out.mono ?_; rintro e w2 ⟨rfl, hb2⟩; have HB2 := hid hb2; clear hb2))
        go_ret
        exact ⟨rfl, HB2.out⟩
      | true =>
        have HE2 : Hid (r = code.all cf) := by show _ = _; rw [HE.out]; rfl
        have HB : Hid (∀ (i : Nat) x, code[i]? = some x → cf x = false → r = false) := fun i x h1 h2 => by rw [HE2.out]; exact List.all_eq_false.2 ⟨x, List.mem_of_getElem? h1, by simp [h2]⟩
        clear HE
        go_enter Tryz.func33, Tryz.ntmps33
        go_wp2_with (first | (go_at_call 45; refine (HSZ.out _ rfl).mono ?_; rintro e w1 ⟨rfl, hw⟩; subst hw) | (go_at_call 46; refine (HND.out _ rfl).mono ?_; rintro e w1 ⟨rfl, hw⟩; subst hw) | (go_at_call 47; refine HPR.out.mono ?_; rintro e w2 ⟨rfl, hb2⟩; have HB2 := hid hb2; replace f5 := keep_cell hb2 f5; clear hb2))
        go_loopw [26] (fun vv wz => ∃ i : Nat, i ≤ n ∧ vv = .int .i64 i ∧ Hid (∀ (j : Nat) x, j < i → code[j]? = some x → cf x = true) ∧ Hid (Below w2.heap.size w2 wz)) (fun vv _ => n - (intOf vv).toNat)
        case atStart => exact ⟨0, by omega, rfl, fun j x hj => by omega, Below.refl _ _⟩
        case round =>
          obtain ⟨i, hi, rfl, HI, HBz⟩ := hrel
          rename World => wz
          have g5 := keep_cell HBz.out f5
          by_cases hin : i < n
          · obtain rfl := HA.out (by omega)
            have j0 : (0 : Int) ≤ i := by omega
            have j1 : (i : Int) < n := by omega
            have hget := List.getElem?_eq_getElem (l := code) (show i < code.length by rw [← HN.out]; exact hin)
            generalize code[i]'(by rw [← HN.out]; exact hin) = x at hget
            have HG := hid hget
            have HT1 := hid (HTK.out wz i x (bel_trans HB2.out HBz.out) hget)
            clear hget
            cases hq : cf x with
            | false =>
              rw [hq] at HT1
              have er := HB.out i x HG.out hq
              subst er
              go_wp2_with (go_at_call 48; refine HT1.out.mono ?_; rintro e w3 ⟨rfl, hb3⟩; have HB3 := hid (bel_trans (bel_trans HB2.out HBz.out) hb3); clear hb3)
              go_ret
              exact ⟨rfl, HB3.out⟩
            | true =>
              rw [hq] at HT1
              have HI2 := hid (insstep HG.out hq HI.out)
              go_wp2_with (go_at_call 48; refine HT1.out.mono ?_; rintro e w3 ⟨rfl, hb3⟩; have HB3 := hid (bel_trans HBz.out hb3); clear hb3)
              go_roundw
              case rel => exact ⟨i + 1, by omega, by simp, HI2, HB3⟩
              case measure => simp [intOf]; omega
          · obtain rfl : n = i := by omega
            have er : r = true := by
              rw [HE2.out]
              refine List.all_eq_true.2 fun x hx => ?_
              obtain ⟨j, hj⟩ := List.getElem?_of_mem hx
              exact HI.out j x (by rw [HN.out]; exact (List.getElem?_eq_some_iff.1 hj).1) hj
            subst er
            go_wp2
            go_ret
            exact ⟨rfl, bel_trans HB2.out HBz.out⟩
theorem isRight_any {w : World} {fb fo : Nat} {f : Fn} (hf : FnAt w fb fo f) (ht : ShTab w) : Calls Tryz.prog 33 #[.pointer (some ⟨fb, fo, none⟩)] w (retP (.bool (RightF f)) w) := by
  have hf' := hf
  obtain ⟨pv, cv, hp, hc, _, _, f1, f2, f3, f4, f5⟩ := hf
  obtain ⟨ca, cap, cb, co, rfl, hl, ha, hcc⟩ := hc.parts
  have hb : ∀ h : sizesB f.regs f.frame f.code.length = true, 0 ≤ f.regs ∧ f.regs ≤ 5000 := fun h => by
    unfold sizesB withinB at h
    simp at h
    omega
  refine isRight_walk fb fo ca f.code.length cap cb co f.entry f.code _ _ (parF f.regs f.params) _ (rightF f.regs f.frame f.code.length) w f4 f5 hl rfl ha (fun W hW => by subst hW; exact hasSizes_any fb fo _ cap ca f.regs f.frame _ f2 f3 f5) (fun W hW => by subst hW; exact hasNode_any fb fo _ cap ca f.entry _ f5 (by omega)) (fun h => hasParams_any f1 f2 hp (hb h).1 (hb h).2) (fun h W i x hW hx => takes_any (hf'.keep hW) ((hcc i x hx).keep hW) (ht.keep hW) (hb h).1 (hb h).2) ?_
  show RightF f = _
  rw [head_eq]
  rfl

set_option maxRecDepth 100000 in
set_option maxHeartbeats 8000000 in
theorem hasFunctions_walk (pb po : Nat) (fa : Option Addr) (nf fcap fb fo : Nat) (main : Int) (funcs : List Fn) (r : Bool) (f1 f2 : Fn → Bool) (w : World) (p1 : w.cell? ⟨pb, po + 1, none⟩ = some (.slice fa nf fcap)) (p2 : w.cell? ⟨pb, po + 2, none⟩ = some (.int .i64 main)) (hn : nf * 88 ≤ 140737488355328) (HN : Hid (nf = funcs.length)) (HA : Hid (0 < nf → fa = some ⟨fb, fo, none⟩))
    (HR : Hid (∀ W (i : Nat) f, Below w.heap.size w W → funcs[i]? = some f → Calls Tryz.prog 33 #[.pointer (some ⟨fb, fo + i * 6, none⟩)] W (retP (.bool (f1 f)) W)))
    (HM : Hid (∀ W (i : Nat) f, Below w.heap.size w W → funcs[i]? = some f → Calls Tryz.prog 34 #[.pointer (some ⟨pb, po, none⟩), .pointer (some ⟨fb, fo + i * 6, none⟩)] W (retP (.bool (f2 f)) W)))
    (HE : Hid (r = ((!decide (100 < (nf : Int)) && inB nf main) && funcs.all fun f => f1 f && f2 f))) :
    Calls Tryz.prog 25 #[.pointer (some ⟨pb, po, none⟩)] w (retP (.bool r) w) := by
  have hnm : (nf : Int) ≤ 9223372036854775807 := by omega
  have wf : IntKind.i64.wrap ((nf : Int) - 1) = nf - 1 := by rw [wrap_i64]; unfold wrap64; omega
  have wf2 : wrap64 ((nf : Int) - 1) = nf - 1 := by unfold wrap64; omega
  have HWI : Hid (∀ W, Calls Tryz.prog 32 #[.int .i64 main, .int .i64 ((nf : Int) - 1)] W fun e w' => e = .returned (.bool (inB nf main)) ∧ w' = W) := fun W => withinB_in (r := main) (m := nf) ▸ within_any main _ W
  by_cases h100 : 100 < (nf : Int)
  · have q : decide (100 < (nf : Int)) = true := by simpa using h100
    have qn : decide (100 < nf) = true := by simp; omega
    have er : r = false := by rw [HE.out, q]; rfl
    subst er
    clear h100
    go_enter Tryz.func25, Tryz.ntmps25
    go_wp2_with fail
    go_quiet (first | (go_at_call 32; with_reducible exact Calls.quiet_of_same (HWI.out _)))
    go_wp2
    go_ret
    exact ⟨rfl, bel_drewN (Below.refl _ _) _⟩
  · have q : decide (100 < (nf : Int)) = false := by simpa using h100
    have qn : decide (100 < nf) = false := by simp; omega
    clear h100
    cases hm : inB nf main with
    | false =>
      rw [hm] at HWI
      have er : r = false := by rw [HE.out, q, hm]; rfl
      subst er
      go_enter Tryz.func25, Tryz.ntmps25
      go_wp2_with fail
      go_quiet (first | (go_at_call 32; with_reducible exact Calls.quiet_of_same (HWI.out _)))
      go_wp2
      go_ret
      exact ⟨rfl, bel_drewN (Below.refl _ _) _⟩
    | true =>
      rw [hm] at HWI
      have HE2 : Hid (r = funcs.all fun f => f1 f && f2 f) := by show _ = _; rw [HE.out, q, hm]; rfl
      have HB : Hid (∀ (i : Nat) x, funcs[i]? = some x → (f1 x && f2 x) = false → r = false) := fun i x h1 h2 => by rw [HE2.out]; exact List.all_eq_false.2 ⟨x, List.mem_of_getElem? h1, by simp [h2]⟩
      clear HE hm
      go_enter Tryz.func25, Tryz.ntmps25
      go_wp2_with fail
      go_quiet (first | (go_at_call 32; with_reducible exact Calls.quiet_of_same (HWI.out _)))
      go_wp2
      go_loopw [30] (fun vv wz => ∃ i : Nat, i ≤ nf ∧ vv = .int .i64 i ∧ Hid (∀ (j : Nat) x, j < i → funcs[j]? = some x → (f1 x && f2 x) = true) ∧ Hid (Below w.heap.size w wz)) (fun vv _ => nf - (intOf vv).toNat)
      case atStart => exact ⟨0, by omega, rfl, fun j x hj => by omega, bel_drewN (Below.refl _ _) _⟩
      case round =>
        obtain ⟨i, hi, rfl, HI, HBz⟩ := hrel
        rename World => wz
        have g1 := keep_cell HBz.out p1
        by_cases hin : i < nf
        · obtain rfl := HA.out (by omega)
          have j0 : (0 : Int) ≤ i := by omega
          have j1 : (i : Int) < nf := by omega
          have hget := List.getElem?_eq_getElem (l := funcs) (show i < funcs.length by rw [← HN.out]; exact hin)
          generalize funcs[i]'(by rw [← HN.out]; exact hin) = x at hget
          have HG := hid hget
          have HT1 := hid (HR.out wz i x HBz.out hget)
          have HT2 : Hid (∀ W, Below w.heap.size w W → Calls Tryz.prog 34 #[.pointer (some ⟨pb, po, none⟩), .pointer (some ⟨fb, fo + i * 6, none⟩)] W (retP (.bool (f2 x)) W)) := fun W hW => HM.out W i x hW HG.out
          clear hget
          cases hq : f1 x with
          | false =>
            rw [hq] at HT1
            have er := HB.out i x HG.out (by rw [hq]; rfl)
            subst er
            go_wp2_with (go_at_call 33; refine HT1.out.mono ?_; rintro e w3 ⟨rfl, hb3⟩; have HB3 := hid (bel_trans HBz.out hb3); clear hb3)
            go_ret
            exact ⟨rfl, HB3.out⟩
          | true =>
            rw [hq] at HT1
            cases hq2 : f2 x with
            | false =>
              rw [hq2] at HT2
              have er := HB.out i x HG.out (by rw [hq, hq2]; rfl)
              subst er
              go_wp2_with (first | (go_at_call 33; refine HT1.out.mono ?_; rintro e w3 ⟨rfl, hb3⟩; have HB3 := hid (bel_trans HBz.out hb3); clear hb3) | (go_at_call 34; refine (HT2.out _ HB3.out).mono ?_; rintro e w4 ⟨rfl, hb4⟩; have HB4 := hid (bel_trans HB3.out hb4); clear hb4))
              go_ret
              exact ⟨rfl, HB4.out⟩
            | true =>
              rw [hq2] at HT2
              have HI2 := hid (fnstep (f := fun x => f1 x && f2 x) HG.out (by simp only [hq, hq2]; rfl) HI.out)
              go_wp2_with (first | (go_at_call 33; refine HT1.out.mono ?_; rintro e w3 ⟨rfl, hb3⟩; have HB3 := hid (bel_trans HBz.out hb3); clear hb3) | (go_at_call 34; refine (HT2.out _ HB3.out).mono ?_; rintro e w4 ⟨rfl, hb4⟩; have HB4 := hid (bel_trans HB3.out hb4); clear hb4))
              go_roundw
              case rel => exact ⟨i + 1, by omega, by simp, HI2, HB4⟩
              case measure => simp [intOf]; omega
        · obtain rfl : nf = i := by omega
          have er : r = true := by
            rw [HE2.out]
            refine List.all_eq_true.2 fun x hx => ?_
            obtain ⟨j, hj⟩ := List.getElem?_of_mem hx
            exact HI.out j x (by rw [HN.out]; exact (List.getElem?_eq_some_iff.1 hj).1) hj
          subst er
          go_wp2
          go_ret
          exact ⟨rfl, HBz.out⟩
theorem hasFunctions_any {w : World} {pb po : Nat} {gv fv : Value} {globals : List Int} {funcs : List Fn} {main : Int} (p0 : w.cell? ⟨pb, po, none⟩ = some gv) (p1 : w.cell? ⟨pb, po + 1, none⟩ = some fv) (p2 : w.cell? ⟨pb, po + 2, none⟩ = some (.int .i64 main)) (hg : IL w gv globals) (hf : FnsAt w fv funcs) (ht : ShTab w) :
    Calls Tryz.prog 25 #[.pointer (some ⟨pb, po, none⟩)] w (retP (.bool ((!decide (100 < (funcs.length : Int)) && inB funcs.length main) && funcs.all (fnF globals funcs))) w) := by
  have hf' := hf
  obtain ⟨fa, fcap, fb, fo, rfl, hl, ha, hc⟩ := hf.parts
  refine hasFunctions_walk pb po fa _ fcap fb fo main funcs _ RightF (fun f => f.code.all (namedF globals funcs)) w p1 p2 hl rfl ha (fun W i f hW hx => isRight_any ((hc i f hx).keep hW) (ht.keep hW)) (fun W i f hW hx => ?_) rfl
  obtain ⟨pv, cv, _, hcd, _, _, _, _, _, _, f5⟩ := (hc i f hx).keep hW
  exact hasWhatIsNamed_any (keep_cell hW p0) (keep_cell hW p1) f5 (hg.keep hW) (hf'.keep hW) hcd (ht.keep hW)
theorem good_eq (p : Pg) : ((p.globals.all sizeB && decide ((p.globals.length : Int) ≤ 200)) && ((!decide (100 < (p.funcs.length : Int)) && inB p.funcs.length p.main) && p.funcs.all (fnF p.globals p.funcs))) = GoodF p := by
  unfold GoodF headP inB
  generalize p.globals.all sizeB = x
  generalize p.funcs.all (fnF p.globals p.funcs) = y
  rw [Bool.eq_iff_iff]
  simp
  constructor
  · rintro ⟨⟨h1, h2⟩, ⟨h3, h4⟩, h5⟩
    exact ⟨by omega, h1, h5⟩
  · rintro ⟨h1, h2, h3⟩
    exact ⟨⟨h2, by omega⟩, ⟨by omega, by omega⟩, h3⟩
set_option maxHeartbeats 4000000 in
theorem good_walk (gv fv : Value) (main : Int) (g f : Bool) (w : World) (ga fa : Option Addr) (ng gc nf fc : Nat) (hgv : gv = .slice ga ng gc) (hfv : fv = .slice fa nf fc)
    (HGC : Hid (∀ W : World, W = w.alloc (.cells #[gv, fv, .int .i64 main] 25 (0, 0)) → Calls Tryz.prog 24 #[.pointer (some ⟨w.heap.size, 0, none⟩)] W fun e w' => e = .returned (.bool g) ∧ w' = W))
    (HFC : Hid (∀ W : World, W = w.alloc (.cells #[gv, fv, .int .i64 main] 25 (0, 0)) → Calls Tryz.prog 25 #[.pointer (some ⟨w.heap.size, 0, none⟩)] W (retP (.bool f) W))) :
    Calls Tryz.prog 15 #[.agg #[gv, fv, .int .i64 main]] w (retP (.bool (g && f)) w) := by
  subst hgv hfv
  cases g with
  | false =>
    go_enter Tryz.func15, Tryz.ntmps15
    go_wp2_with (go_at_call 24; refine (HGC.out _ rfl).mono ?_; rintro e w1 ⟨rfl, hw⟩; subst hw)
    go_ret
    exact ⟨rfl, (by repeat (first | with_reducible exact Below.refl _ _ | with_reducible refine bel_alloc ?_ _ | with_reducible refine bel_set ?_ (by first | exact Nat.le_refl _ | (simp; done) | (simp; omega)) _ | with_reducible refine Below.drew ?_ | refine bel_trans ?_ (by assumption)))⟩
  | true =>
    go_enter Tryz.func15, Tryz.ntmps15
    go_wp2_with (first | (go_at_call 24; refine (HGC.out _ rfl).mono ?_; rintro e w1 ⟨rfl, hw⟩; subst hw) | (go_at_call 25; refine (HFC.out _ rfl).mono ?_; rintro e w2 ⟨rfl, hb2⟩))
    go_ret
    exact ⟨rfl, bel_trans (bel_alloc (Below.refl _ _) _) hb2⟩
/-- THE PROGRAM's Good. -/
theorem gGood_any {w : World} {v : Value} {p : Pg} (h : PgV w v p) (ht : ShTab w) : Calls Tryz.prog 15 #[v] w (retP (.bool (GoodF p)) w) := by
  obtain ⟨gv, fv, rfl, hg, hf⟩ := h
  rw [← good_eq]
  have hg' := hg
  have hf' := hf
  obtain ⟨ga, gc, egv, _, _⟩ := hg'
  obtain ⟨fa, fc, efv, _, _⟩ := hf'
  have hb : Below w.heap.size w (w.alloc (.cells #[gv, fv, .int .i64 p.main] 25 (0, 0))) := bel_alloc (Below.refl _ _) _
  refine good_walk gv fv p.main _ _ w ga fa _ gc _ fc egv efv (fun W hW => ?_) (fun W hW => ?_)
  · subst hW
    exact hasGlobals_any (pb := w.heap.size) (po := 0) (by simp) (hg.keep hb)
  · subst hW
    exact hasFunctions_any (pb := w.heap.size) (po := 0) (by simp) (by simp) (by simp) (hg.keep hb) (hf.keep hb) (ht.keep hb)

end Go.Proofs.YthieicjnenlpfaaGreatDoor

