/- Package asm: THE PROGRAM's Good. -/
import Derived.Test.YtofnnpchobgapaaGreatDoorAsG2
namespace Go.Proofs.YtofnnpchobgapaaGreatDoor
open Go.ChangeShapes Go.WideShapes Go.ChangeAt Go.RowKit
set_option linter.unusedSimpArgs false
set_option linter.unusedVariables false

theorem lbok_of {globals : List Int} {nf : Int} {code : List AIns} (h : code.all (takesA globals nf) = true) : LbOk code := fun x hx ho => by
  have := List.all_eq_true.1 h x hx
  unfold takesA spTakes at this
  rcases ho with ho | ho | ho <;> rw [ho] at this <;> simp [aspOf, aspTab, awB] at this <;> omega
/-- takes, of any instruction. -/
theorem atakes_any {w : World} {pb po ib io : Nat} {globals : List Int} {gv : Value} {fa : Option Addr} {nf fcap : Nat} {x : AIns} (p0 : w.cell? ⟨pb, po, none⟩ = some gv) (p1 : w.cell? ⟨pb, po + 1, none⟩ = some (.slice fa nf fcap)) (hg : IL w gv globals) (hf : (nf : Int) ≤ 9223372036854775807) (hi : AInsAt w ib io x) (ht : AsTab w) :
    Calls Tryz.prog 39 #[.pointer (some ⟨pb, po, none⟩), .pointer (some ⟨ib, io, none⟩)] w (retP (.bool (takesA globals nf x)) w) := by
  obtain ⟨ga, gcap, gb, go, rfl, hl, ha, hc⟩ := hg.parts
  refine atakes_walk pb po ib io globals.length gcap nf fcap ga fa x (aspOf x.op) _ _ _ (acoB (aspOf x.op).k x.k (glA globals x.sub)) _ _ w rfl ht hi p0 (fun W => aplace_any _ _ W) (fun W => aplace_any _ _ W) (fun W hW => asub_any _ _ pb po globals.length gcap nf fcap ga fa W (keep_cell hW p0) (keep_cell hW p1) (by omega) hf) (fun h3 W hW => acon_any _ ib io pb po globals.length gcap gb go ga globals x W (hi.keep hW) (keep_cell hW p0) rfl ha (by omega) (fun i y hy => keep_cell hW (hc i y hy)) (fun h => ?_)) (fun W => awithin_any _ _ W) rfl
  have hs : (aspOf x.op).sub = 2 := by
    have h5 : ∀ s ∈ aspTab, s.k = 3 → s.sub = 2 := by decide
    unfold aspOf at h ⊢
    split
    · next hn => rw [if_pos hn] at h; exact absurd h (by decide)
    · next hn =>
      rw [if_neg hn] at h
      cases hq : aspTab[x.op.toNat]? with
      | none => rw [hq] at h; exact absurd h (by decide)
      | some s => rw [hq] at h; exact h5 s (List.mem_of_getElem? hq) h
  rw [hs] at h3
  simpa [asbB] using h3
set_option maxRecDepth 100000 in
set_option maxHeartbeats 8000000 in
theorem acode_walk (pb po : Nat) (ca : Option Addr) (n cap cb co : Nat) (code : List AIns) (sm gl r : Bool) (cf : AIns → Bool) (w : World) (hn : n * 56 ≤ 140737488355328) (HN : Hid (n = code.length)) (HA : Hid (0 < n → ca = some ⟨cb, co, none⟩))
    (HS : Hid (∀ W, Below w.heap.size w W → Calls Tryz.prog 38 #[.slice ca n cap] W fun e w' => e = .returned (.bool sm) ∧ w' = W))
    (HTK : Hid (∀ W (i : Nat) x, Below w.heap.size w W → code[i]? = some x → Calls Tryz.prog 39 #[.pointer (some ⟨pb, po, none⟩), .pointer (some ⟨cb, co + i * 7, none⟩)] W (retP (.bool (cf x)) W)))
    (HGO : Hid (code.all cf = true → ∀ W, Below w.heap.size w W → Calls Tryz.prog 40 #[.slice ca n cap] W (retP (.bool gl) W)))
    (HE : Hid (r = (!(decide (100000 < (n : Int)) || !sm) && (code.all cf && gl)))) :
    Calls Tryz.prog 26 #[.pointer (some ⟨pb, po, none⟩), .slice ca n cap] w (retP (.bool r) w) := by
  have hnm : (n : Int) ≤ 9223372036854775807 := by omega
  by_cases h100 : 100000 < (n : Int)
  · have q : decide (100000 < (n : Int)) = true := by simpa using h100
    have qn : decide (100000 < n) = true := by simp; omega
    have er : r = false := by rw [HE.out, q]; rfl
    subst er
    clear h100
    go_enter Tryz.func26, Tryz.ntmps26
    go_wp2
    go_ret
    exact ⟨rfl, Below.refl _ _⟩
  · have q : decide (100000 < (n : Int)) = false := by simpa using h100
    have qn : decide (100000 < n) = false := by simp; omega
    clear h100
    cases sm with
    | false =>
      have er : r = false := by rw [HE.out, q]; rfl
      subst er
      go_enter Tryz.func26, Tryz.ntmps26
      go_wp2_with (go_at_call 38; refine (HS.out _ (Below.refl _ _)).mono ?_; rintro e w1 ⟨rfl, hw⟩; subst hw)
      go_ret
      exact ⟨rfl, Below.refl _ _⟩
    | true =>
      have HE2 : Hid (r = (code.all cf && gl)) := by show _ = _; rw [HE.out, q]; rfl
      have HB : Hid (∀ (i : Nat) x, code[i]? = some x → cf x = false → r = false) := fun i x h1 h2 => by rw [HE2.out, aall_bad h1 h2]; rfl
      clear HE
      go_enter Tryz.func26, Tryz.ntmps26
      go_wp2_with (go_at_call 38; refine (HS.out _ (Below.refl _ _)).mono ?_; rintro e w1 ⟨rfl, hw⟩; subst hw)
      go_loopw [16] (fun vv wz => ∃ i : Nat, i ≤ n ∧ vv = .int .i64 i ∧ Hid (∀ (j : Nat) x, j < i → code[j]? = some x → cf x = true) ∧ Hid (Below w1.heap.size w1 wz)) (fun vv _ => n - (intOf vv).toNat)
      case atStart => exact ⟨0, by omega, rfl, fun j x hj => by omega, Below.refl _ _⟩
      case round =>
        obtain ⟨i, hi, rfl, HI, HBz⟩ := hrel
        rename World => wz
        by_cases hin : i < n
        · obtain rfl := HA.out (by omega)
          have j0 : (0 : Int) ≤ i := by omega
          have j1 : (i : Int) < n := by omega
          have hget := List.getElem?_eq_getElem (l := code) (show i < code.length by rw [← HN.out]; exact hin)
          generalize code[i]'(by rw [← HN.out]; exact hin) = x at hget
          have HG := hid hget
          have HT1 := hid (HTK.out wz i x HBz.out hget)
          clear hget
          cases hq : cf x with
          | false =>
            rw [hq] at HT1
            have er := HB.out i x HG.out hq
            subst er
            go_wp2_with (go_at_call 39; refine HT1.out.mono ?_; rintro e w3 ⟨rfl, hb3⟩; have HB3 := hid (bel_trans HBz.out hb3); clear hb3)
            go_ret
            exact ⟨rfl, HB3.out⟩
          | true =>
            rw [hq] at HT1
            have HI2 := hid (aall_step HG.out hq HI.out)
            go_wp2_with (go_at_call 39; refine HT1.out.mono ?_; rintro e w3 ⟨rfl, hb3⟩; have HB3 := hid (bel_trans HBz.out hb3); clear hb3)
            go_roundw
            case rel => exact ⟨i + 1, by omega, by simp, HI2, HB3⟩
            case measure => simp [intOf]; omega
        · obtain rfl : n = i := by omega
          have hall := aall_good HN.out HI.out
          have er : r = gl := by rw [HE2.out, hall]; rfl
          subst er
          have HG2 := hid (HGO.out hall wz HBz.out)
          clear hall
          go_wp2_with (go_at_call 40; refine HG2.out.mono ?_; rintro e w3 ⟨rfl, hb3⟩; have HB3 := hid (bel_trans HBz.out hb3); clear hb3)
          go_ret
          exact ⟨rfl, HB3.out⟩
theorem acode_any {w : World} {pb po : Nat} {globals : List Int} {gv cv : Value} {fa : Option Addr} {nf fcap : Nat} {code : List AIns} (p0 : w.cell? ⟨pb, po, none⟩ = some gv) (p1 : w.cell? ⟨pb, po + 1, none⟩ = some (.slice fa nf fcap)) (hg : IL w gv globals) (hf : (nf : Int) ≤ 9223372036854775807) (hc : ACodeAt w cv code) (ht : AsTab w) :
    Calls Tryz.prog 26 #[.pointer (some ⟨pb, po, none⟩), cv] w (retP (.bool (codeA globals nf code)) w) := by
  obtain ⟨ca, cap, cb, co, rfl, hl, ha, hcc⟩ := hc.parts
  exact acode_walk pb po ca code.length cap cb co code _ _ _ (takesA globals nf) w hl rfl ha
    (fun W hW => asome_walk ca _ cap cb co code _ W hl rfl ha (fun i x hx => (hcc i x hx).keep hW) rfl)
    (fun W i x hW hx => atakes_any (keep_cell hW p0) (keep_cell hW p1) (hg.keep hW) hf ((hcc i x hx).keep hW) (ht.keep hW))
    (fun hall W hW => agoals_walk ca _ cap cb co code _ W hl rfl ha (fun i x hx => (hcc i x hx).keep hW) (lbok_of hall) rfl) rfl
set_option maxRecDepth 100000 in
set_option maxHeartbeats 8000000 in
theorem afuncs_walk (pb po : Nat) (fa : Option Addr) (nf fcap fb fo : Nat) (main params : Int) (funcs : List AFn) (r : Bool) (f1 : AFn → Bool) (w : World) (p1 : w.cell? ⟨pb, po + 1, none⟩ = some (.slice fa nf fcap)) (p2 : w.cell? ⟨pb, po + 2, none⟩ = some (.int .i64 main)) (p3 : w.cell? ⟨pb, po + 3, none⟩ = some (.int .i64 params)) (hn : nf * 40 ≤ 140737488355328) (HN : Hid (nf = funcs.length)) (HA : Hid (0 < nf → fa = some ⟨fb, fo, none⟩))
    (HFC : Hid (∀ (i : Nat) f, funcs[i]? = some f → AFnAt w fb (fo + i * 2) f))
    (HR : Hid (∀ W (i : Nat) f cv, Below w.heap.size w W → funcs[i]? = some f → ACodeAt W cv f.code → Calls Tryz.prog 26 #[.pointer (some ⟨pb, po, none⟩), cv] W (retP (.bool (f1 f)) W)))
    (HE : Hid (r = (headA main params nf && funcs.all f1))) :
    Calls Tryz.prog 17 #[.pointer (some ⟨pb, po, none⟩)] w (retP (.bool r) w) := by
  have hnm : (nf : Int) ≤ 9223372036854775807 := by omega
  have wf : IntKind.i64.wrap ((nf : Int) - 1) = nf - 1 := by rw [awrap_i64]; unfold wrap64; omega
  have wf2 : wrap64 ((nf : Int) - 1) = nf - 1 := by unfold wrap64; omega
  have HWI : Hid (∀ W, Calls Tryz.prog 25 #[.int .i64 main, .int .i64 ((nf : Int) - 1)] W fun e w' => e = .returned (.bool (awB main (nf - 1))) ∧ w' = W) := fun W => awithin_any main _ W
  have HWP : Hid (∀ W, Calls Tryz.prog 25 #[.int .i64 params, .int .i64 6] W fun e w' => e = .returned (.bool (awB params 6)) ∧ w' = W) := fun W => awithin_any params _ W
  by_cases h100 : 100 < (nf : Int)
  · have q : decide (100 < (nf : Int)) = true := by simpa using h100
    have qn : decide (100 < nf) = true := by simp; omega
    have er : r = false := by rw [HE.out, headA, q]; rfl
    subst er
    clear h100
    go_enter Tryz.func17, Tryz.ntmps17
    go_wp2_with fail
    go_quiet (first | (go_at_call 25; with_reducible exact Calls.quiet_of_same (HWI.out _)) | (go_at_call 25; with_reducible exact Calls.quiet_of_same (HWP.out _)))
    go_wp2
    go_ret
    exact ⟨rfl, bel_drewN (Below.refl _ _) _⟩
  · have q : decide (100 < (nf : Int)) = false := by simpa using h100
    have qn : decide (100 < nf) = false := by simp; omega
    clear h100
    cases hm : awB main (nf - 1) with
    | false =>
      rw [hm] at HWI
      have er : r = false := by rw [HE.out, headA, q, hm]; rfl
      subst er
      go_enter Tryz.func17, Tryz.ntmps17
      go_wp2_with fail
      go_quiet (first | (go_at_call 25; with_reducible exact Calls.quiet_of_same (HWI.out _)) | (go_at_call 25; with_reducible exact Calls.quiet_of_same (HWP.out _)))
      go_wp2
      go_ret
      exact ⟨rfl, bel_drewN (Below.refl _ _) _⟩
    | true =>
      rw [hm] at HWI
      cases hp : awB params 6 with
      | false =>
        rw [hp] at HWP
        have er : r = false := by rw [HE.out, headA, q, hm, hp]; rfl
        subst er
        go_enter Tryz.func17, Tryz.ntmps17
        go_wp2_with fail
        go_quiet (first | (go_at_call 25; with_reducible exact Calls.quiet_of_same (HWI.out _)) | (go_at_call 25; with_reducible exact Calls.quiet_of_same (HWP.out _)))
        go_wp2
        go_ret
        exact ⟨rfl, bel_drewN (Below.refl _ _) _⟩
      | true =>
        rw [hp] at HWP
        have HE2 : Hid (r = funcs.all f1) := by show _ = _; rw [HE.out, headA, q, hm, hp]; rfl
        have HB : Hid (∀ (i : Nat) x, funcs[i]? = some x → f1 x = false → r = false) := fun i x h1 h2 => by rw [HE2.out]; exact aall_bad h1 h2
        clear HE hm hp
        go_enter Tryz.func17, Tryz.ntmps17
        go_wp2_with fail
        go_quiet (first | (go_at_call 25; with_reducible exact Calls.quiet_of_same (HWI.out _)) | (go_at_call 25; with_reducible exact Calls.quiet_of_same (HWP.out _)))
        go_wp2
        go_loopw [38] (fun vv wz => ∃ i : Nat, i ≤ nf ∧ vv = .int .i64 i ∧ Hid (∀ (j : Nat) x, j < i → funcs[j]? = some x → f1 x = true) ∧ Hid (Below w.heap.size w wz)) (fun vv _ => nf - (intOf vv).toNat)
        case atStart => exact ⟨0, by omega, rfl, fun j x hj => by omega, bel_drewN (Below.refl _ _) _⟩
        case round =>
          obtain ⟨i, hi, rfl, HI, HBz⟩ := hrel
          rename World => wz
          by_cases hin : i < nf
          · obtain rfl := HA.out (by omega)
            have j0 : (0 : Int) ≤ i := by omega
            have j1 : (i : Int) < nf := by omega
            have hget := List.getElem?_eq_getElem (l := funcs) (show i < funcs.length by rw [← HN.out]; exact hin)
            generalize funcs[i]'(by rw [← HN.out]; exact hin) = x at hget
            have HG := hid hget
            obtain ⟨cv, hcd, _, d0, d1⟩ := (HFC.out i x hget).keep HBz.out
            have HT1 : Hid (∀ W, Below wz.heap.size wz W → Calls Tryz.prog 26 #[.pointer (some ⟨pb, po, none⟩), cv] W (retP (.bool (f1 x)) W)) := fun W hW => HR.out W i x cv (bel_trans HBz.out hW) HG.out (hcd.keep hW)
            obtain ⟨ca, cap, ecv, _⟩ := hcd
            subst ecv
            clear hget
            cases hq : f1 x with
            | false =>
              rw [hq] at HT1
              have er := HB.out i x HG.out hq
              subst er
              go_wp2_with (go_at_call 26; refine (HT1.out _ (bel_alloc (Below.refl _ _) _)).mono ?_; rintro e w3 ⟨rfl, hb3⟩; have HB3 := hid (bel_trans HBz.out (bel_trans (bel_alloc (Below.refl _ _) _) hb3)); clear hb3)
              go_ret
              exact ⟨rfl, HB3.out⟩
            | true =>
              rw [hq] at HT1
              have HI2 := hid (aall_step HG.out hq HI.out)
              go_wp2_with (go_at_call 26; refine (HT1.out _ (bel_alloc (Below.refl _ _) _)).mono ?_; rintro e w3 ⟨rfl, hb3⟩; have HB3 := hid (bel_trans HBz.out (bel_trans (bel_alloc (Below.refl _ _) _) hb3)); clear hb3)
              go_roundw
              case rel => exact ⟨i + 1, by omega, by simp, HI2, HB3⟩
              case measure => simp [intOf]; omega
          · obtain rfl : nf = i := by omega
            have er : r = true := by rw [HE2.out]; exact aall_good HN.out HI.out
            subst er
            go_wp2
            go_ret
            exact ⟨rfl, HBz.out⟩
set_option maxHeartbeats 4000000 in
theorem agood_walk (gv fv : Value) (main params : Int) (g f : Bool) (w : World) (ga fa : Option Addr) (ng gc nf fc : Nat) (hgv : gv = .slice ga ng gc) (hfv : fv = .slice fa nf fc)
    (HGC : Hid (∀ W : World, W = w.alloc (.cells #[gv, fv, .int .i64 main, .int .i64 params] 25 (0, 0)) → Calls Tryz.prog 16 #[.pointer (some ⟨w.heap.size, 0, none⟩)] W fun e w' => e = .returned (.bool g) ∧ w' = W))
    (HFC : Hid (∀ W : World, W = w.alloc (.cells #[gv, fv, .int .i64 main, .int .i64 params] 25 (0, 0)) → Calls Tryz.prog 17 #[.pointer (some ⟨w.heap.size, 0, none⟩)] W (retP (.bool f) W))) :
    Calls Tryz.prog 8 #[.agg #[gv, fv, .int .i64 main, .int .i64 params]] w (retP (.bool (g && f)) w) := by
  subst hgv hfv
  cases g with
  | false =>
    go_enter Tryz.func8, Tryz.ntmps8
    go_wp2_with (go_at_call 16; refine (HGC.out _ rfl).mono ?_; rintro e w1 ⟨rfl, hw⟩; subst hw)
    go_ret
    exact ⟨rfl, (by repeat (first | with_reducible exact Below.refl _ _ | with_reducible refine bel_alloc ?_ _ | with_reducible refine bel_set ?_ (by first | exact Nat.le_refl _ | (simp; done) | (simp; omega)) _ | with_reducible refine Below.drew ?_ | refine bel_trans ?_ (by assumption)))⟩
  | true =>
    go_enter Tryz.func8, Tryz.ntmps8
    go_wp2_with (first | (go_at_call 16; refine (HGC.out _ rfl).mono ?_; rintro e w1 ⟨rfl, hw⟩; subst hw) | (go_at_call 17; refine (HFC.out _ rfl).mono ?_; rintro e w2 ⟨rfl, hb2⟩))
    go_ret
    exact ⟨rfl, bel_trans (bel_alloc (Below.refl _ _) _) hb2⟩
/-- THE PROGRAM's Good. -/
theorem aGood_any {w : World} {v : Value} {p : APg} (h : APgV w v p) (ht : AsTab w) : Calls Tryz.prog 8 #[v] w (retP (.bool (GoodA p)) w) := by
  obtain ⟨gv, fv, rfl, hg, hf⟩ := h
  have hg' := hg
  obtain ⟨ga, gc, egv, _, _⟩ := hg'
  obtain ⟨fa, fc, fb, fo, efv, hfl, hfa, hfc⟩ := hf.parts
  have hb : Below w.heap.size w (w.alloc (.cells #[gv, fv, .int .i64 p.main, .int .i64 p.params] 25 (0, 0))) := bel_alloc (Below.refl _ _) _
  refine agood_walk gv fv p.main p.params _ _ w ga fa _ gc _ fc egv efv (fun W hW => ?_) (fun W hW => ?_)
  · subst hW
    exact aglobals_any (pb := w.heap.size) (po := 0) (by simp) (hg.keep hb)
  · subst hW
    subst efv
    exact afuncs_walk w.heap.size 0 fa _ fc fb fo p.main p.params p.funcs _ _ _ (by simp) (by simp) (by simp) hfl rfl hfa (fun i f hx => (hfc i f hx).keep hb) (fun W i f cv hW hx hcd => acode_any (globals := p.globals) (gv := gv) (fa := fa) (nf := p.funcs.length) (fcap := fc) (keep_cell hW (by simp)) (keep_cell hW (by simp)) ((hg.keep hb).keep hW) (by omega) hcd ((ht.keep hb).keep hW)) rfl

end Go.Proofs.YtofnnpchobgapaaGreatDoor
