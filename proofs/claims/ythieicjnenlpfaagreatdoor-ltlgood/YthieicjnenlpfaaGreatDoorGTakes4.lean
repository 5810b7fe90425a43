/- Package rtl: may an instruction be one of a function's? -/
import Derived.Test.YthieicjnenlpfaaGreatDoorGTakes5
import Derived.Test.YthieicjnenlpfaaGreatDoorGMath
namespace Go.Proofs.YthieicjnenlpfaaGreatDoor
open Go.ChangeShapes Go.WideShapes Go.ChangeAt Go.RowKit
set_option linter.unusedSimpArgs false
set_option linter.unusedVariables false

theorem wp_calmG {P : Program} {c : Code} {K : Act → World → Prop} {QQ : Exit → Act → World → Prop} {a : Act} {w : World} (h : Code.wp P c (Exit.then K (fun _ _ _ => False)) a w) : Code.wp P c (Exit.then K QQ) a w :=
  Go.wp_mono h (fun e a w hq => by cases e <;> first | exact hq | exact hq.elim)
/-- What takes looks at. -/
def Giv (ib io fb fo : Nat) (op sub a b d k : Int) (va : Option Addr) (vn vc : Nat) (s t regs frame : Int) (ca : Option Addr) (n cap : Nat) (W : World) : Prop := W.cell? ⟨ib, io, none⟩ = some (.int .i64 op) ∧ W.cell? ⟨ib, io + 1, none⟩ = some (.int .i64 sub) ∧ W.cell? ⟨ib, io + 2, none⟩ = some (.int .i64 a) ∧ W.cell? ⟨ib, io + 3, none⟩ = some (.int .i64 b) ∧ W.cell? ⟨ib, io + 4, none⟩ = some (.int .i64 d) ∧ W.cell? ⟨ib, io + 5, none⟩ = some (.int .i64 k) ∧ W.cell? ⟨ib, io + 6, none⟩ = some (.slice va vn vc) ∧ W.cell? ⟨ib, io + 7, none⟩ = some (.int .i64 s) ∧ W.cell? ⟨ib, io + 8, none⟩ = some (.int .i64 t) ∧ W.cell? ⟨fb, fo + 2, none⟩ = some (.int .i64 regs) ∧ W.cell? ⟨fb, fo + 3, none⟩ = some (.int .i64 frame) ∧ W.cell? ⟨fb, fo + 5, none⟩ = some (.slice ca n cap)
theorem Giv.keep {ib io fb fo : Nat} {op sub a b d k : Int} {va : Option Addr} {vn vc : Nat} {s t regs frame : Int} {ca : Option Addr} {n cap : Nat} {W W' : World} (h : Giv ib io fb fo op sub a b d k va vn vc s t regs frame ca n cap W) (hb : Below W.heap.size W W') : Giv ib io fb fo op sub a b d k va vn vc s t regs frame ca n cap W' := by
  obtain ⟨e0, e1, e2, e3, e4, e5, e6, e7, e8, f2, f3, f5⟩ := h
  exact ⟨keep_cell hb e0, keep_cell hb e1, keep_cell hb e2, keep_cell hb e3, keep_cell hb e4, keep_cell hb e5, keep_cell hb e6, keep_cell hb e7, keep_cell hb e8, keep_cell hb f2, keep_cell hb f3, keep_cell hb f5⟩
set_option maxRecDepth 100000 in
set_option maxHeartbeats 20000000 in
theorem takes_walk (fb fo ib io : Nat) (regs frame : Int) (n cap : Nat) (ca : Option Addr) (op sub a b d k : Int) (va : Option Addr) (vn vc : Nat) (s t : Int) (args : List Int) (x : Sp) (r : Bool) (w : World)
    (HX : Hid (shOf op = x)) (HT : Hid (ShTab w)) (HG : Hid (Giv ib io fb fo op sub a b d k va vn vc s t regs frame ca n cap w)) (HV : Hid (IL w (.slice va vn vc) args)) (r0 : 0 ≤ regs) (r1 : regs ≤ 5000) (hn : (n : Int) ≤ 9223372036854775807)
    (HE : Hid (r = (!gnameB x && (!glackS x a b args && ((usP x a b (if x.args = true then args else [])).all (inB regs) && ((succsF op s t).all (inB n) && glastB x op sub d k regs frame)))))) :
    Calls Tryz.prog 48 #[.pointer (some ⟨fb, fo, none⟩), .pointer (some ⟨ib, io, none⟩)] w (retP (.bool r) w) := by
  refine callsIn_wide.1 (callsIn_of_wp_marks (n := 3) Tryz.func48 rfl trivial ?_)
  simp only [Tryz.ntmps48, List.size_toArray, List.length_cons, List.length_nil, Nat.reduceAdd, Nat.reduceSub, Array.replicate_succ, Array.replicate_zero, List.push_toArray, List.append_toArray, List.nil_append, List.cons_append]
  refine wpIn_wide.2 ?_
  obtain ⟨e0, e1, e2, e3, e4, e5, e6, e7, e8, f2, f3, f5⟩ := HG.out
  have il : ib < w.heap.size := block_lt_of_cell e0
  have fl : fb < w.heap.size := block_lt_of_cell f2
  go_upto_region 2 with (go_at_call 49; refine (shapeOf_any op _ (HT.out.keep (by repeat (first | with_reducible exact Below.refl _ _ | with_reducible refine bel_alloc ?_ _ | with_reducible refine bel_set ?_ (by first | exact Nat.le_refl _ | (simp; done) | (simp; omega)) _ | with_reducible refine Below.drew ?_ | refine bel_trans ?_ (by assumption))))).mono ?_; rintro e w1 ⟨rfl, hb1⟩; rw [HX.out]; simp only [spV]; have HB1 : Hid (Below w.heap.size w w1) := hid (bel_trans (by repeat (first | with_reducible exact Below.refl _ _ | with_reducible refine bel_alloc ?_ _ | with_reducible refine bel_set ?_ (by first | exact Nat.le_refl _ | (simp; done) | (simp; omega)) _ | with_reducible refine Below.drew ?_ | refine bel_trans ?_ (by assumption))) hb1); have b0 := keep_cell hb1 (p := ⟨w.heap.size, 0, none⟩) (v := .pointer (some ⟨fb, fo, none⟩)) (by simp); have b1 := keep_cell hb1 (p := ⟨w.heap.size + 1, 0, none⟩) (v := .bool false) (by simp); have z1 := keep_frozen hb1 (p := ⟨w.heap.size + 1, 0, none⟩) (v := .bool false) (by simp) (by simp); have hs1 : w.heap.size + 2 ≤ w1.heap.size := (by have := hb1.size; simp at this; omega); clear hb1)
  refine gwp_named (fun W => Below w.heap.size w W ∧ W.cell? ⟨w.heap.size, 0, none⟩ = some (.pointer (some ⟨fb, fo, none⟩)) ∧ W.cell? ⟨w.heap.size + 1, 0, none⟩ = some (.bool false) ∧ W.frozen? ⟨w.heap.size + 1, 0, none⟩ = false ∧ W.cell? ⟨w1.heap.size, 0, none⟩ = some (.string x.name) ∧ W.cell? ⟨w1.heap.size, 1, none⟩ = some (.int .i64 x.sub) ∧ W.cell? ⟨w1.heap.size, 2, none⟩ = some (.int .i64 x.a) ∧ W.cell? ⟨w1.heap.size, 3, none⟩ = some (.int .i64 x.b) ∧ W.cell? ⟨w1.heap.size, 4, none⟩ = some (.int .i64 x.d) ∧ W.cell? ⟨w1.heap.size, 5, none⟩ = some (.bool x.k) ∧ W.cell? ⟨w1.heap.size, 6, none⟩ = some (.bool x.args) ∧ W.cell? ⟨w1.heap.size, 7, none⟩ = some (.bool x.s) ∧ W.cell? ⟨w1.heap.size, 8, none⟩ = some (.bool x.t)) ⟨bel_alloc HB1.out _, keep_alloc b0 _, keep_alloc b1 _, keep_frozen (bel_alloc (Below.refl _ _) _) b1 z1, by simp, by simp, by simp, by simp, by simp, by simp, by simp, by simp, by simp⟩ ?_
  generalize w1.heap.size = B2 at *
  clear b0 b1 z1 HB1 w1 e0 e1 e2 e3 e4 e5 e6 e7 e8 f2 f3 f5
  rintro W ⟨hbW, b0, b1, z1, s0, s1, s2, s3, s4, s5, s6, s7, s8⟩
  have HBW := hid hbW
  obtain ⟨e0, e1, e2, e3, e4, e5, e6, e7, e8, f2, f3, f5⟩ := HG.out.keep hbW
  have HVW := hid (HV.out.keep hbW)
  have HTW := hid (HT.out.keep hbW)
  have sz : w.heap.size ≤ W.heap.size := hbW.size
  clear hbW
  cases hnm : gnameB x with
  | true =>
    have er : r = false := by rw [HE.out, hnm]; rfl
    subst er
    have en : x.name = ⟨#[]⟩ := by
      have : x.name.data.toList = [] := List.isEmpty_iff.1 hnm
      cases hx : x.name with
      | mk dta =>
        rw [hx] at this
        simp at this
        rw [this]
    rw [en] at s0
    go_wp2
    exact ⟨_, (by simp [results, Tryz.results48, go_sem, b1, z1]), rfl, HBW.out.setCell (Nat.le_succ _) _⟩
  | false =>
    have q1 : x.name.toList.isEmpty = false := by rw [ByteArray.toList_eq]; exact hnm
    have HLK : Hid (∀ W', Below W.heap.size W W' → Calls Tryz.prog 70 #[spV x, .pointer (some ⟨ib, io, none⟩)] W' (retP (.bool (lackS x a b args)) W')) := fun W' hW' => lacksRegister_any x ib io a b va vn vc args W' (keep_cell hW' e2) (keep_cell hW' e3) (keep_cell hW' e6) (HVW.out.keep hW')
    cases hlk : lackS x a b args with
    | true =>
      rw [hlk] at HLK
      have er : r = false := by rw [HE.out, hnm]; simp only [glackS]; rw [show (lackB x.a a || lackB x.b b || (x.args && args.contains (-1))) = true from hlk]; rfl
      subst er
      go_wp2_with (go_at_call 70; refine (HLK.out _ (Below.refl _ _)).mono ?_; rintro e w2 ⟨rfl, hb2⟩; replace z1 := keep_frozen hb2 b1 z1; replace b1 := keep_cell hb2 b1; have HB2 := hid (bel_trans HBW.out hb2); clear hb2)
      exact ⟨_, (by simp [results, Tryz.results48, go_sem, b1, z1]), rfl, HB2.out.setCell (Nat.le_succ _) _⟩
    | false =>
      rw [hlk] at HLK
      have HE1 : Hid (r = ((usP x a b (if x.args = true then args else [])).all (inB regs) && ((succsF op s t).all (inB n) && glastB x op sub d k regs frame))) := by
        show _ = _
        rw [HE.out, hnm]; simp only [glackS]; rw [show (lackB x.a a || lackB x.b b || (x.args && args.contains (-1))) = false from hlk]; rfl
      clear HE hlk hnm
      go_wp2_with (first | (go_at_call 70; refine (HLK.out _ (Below.refl _ _)).mono ?_; rintro e w2 ⟨rfl, hb2⟩; replace z1 := keep_frozen hb2 b1 z1; replace b0 := keep_cell hb2 b0; replace b1 := keep_cell hb2 b1; replace e0 := keep_cell hb2 e0; replace e1 := keep_cell hb2 e1; replace e2 := keep_cell hb2 e2; replace e3 := keep_cell hb2 e3; replace e4 := keep_cell hb2 e4; replace e5 := keep_cell hb2 e5; replace e6 := keep_cell hb2 e6; replace e7 := keep_cell hb2 e7; replace e8 := keep_cell hb2 e8; replace f2 := keep_cell hb2 f2; replace f3 := keep_cell hb2 f3; replace f5 := keep_cell hb2 f5; replace s1 := keep_cell hb2 s1; replace s4 := keep_cell hb2 s4; have HB2 := hid (bel_trans HBW.out hb2); have HT2 := hid (HTW.out.keep hb2); have HV2 := hid (HVW.out.keep hb2); clear hb2) | (go_at_call 35; refine (uses_made op sub a b d k va vn vc s t args x _ HX HT2 HV2).mono ?_; rintro e w3 ⟨sb, ib2, v3, rfl, hus, hb3⟩; have HUS := hid hus; have HTK : Hid (TK w fb fo B2 x w3) := hid (TK.keep ⟨HB2.out, b0, b1, z1, s1, s4, hs1⟩ hb3); have HG3 := hid (Giv.keep ⟨e0, e1, e2, e3, e4, e5, e6, e7, e8, f2, f3, f5⟩ hb3); clear hus hb3))
      have HTK0 := HTK
      have HG0 := HG3
      have HB1L0 : Hid (w.heap.size + 1 < w3.heap.size) := block_lt_of_cell HTK.out.b1
      clear b0 b1 z1 s1 s4 e0 e1 e2 e3 e4 e5 e6 e7 e8 f2 f3 f5
      refine (wpIn_wide (n := 3)).1 ?_
      refine range_outer (F := Fence.wide) rfl (by omega) (gf := 52) (lb := #[.pointer (some ⟨sb, 0, none⟩), .pointer (some ⟨ib2, 0, none⟩)]) (by simp [Act.eval]) trivial (enters_of Tryz.func52 (by kernel_rfl) rfl) ?_
      intro fn _
      refine callsIn_wide.2 ?_
      refine (tk_run0 w w3 _ (w.heap.size + 1) sb ib2 x a b v3 (if x.args = true then args else []) regs HUS.out (fun y W hW => by
        have k := hW.bel
        have kTK := HTK0.out.keep k
        obtain ⟨ge0, ge1, ge2, ge3, ge4, ge5, ge6, ge7, ge8, gf2, gf3, gf5⟩ := HG0.out.keep k
        refine tk_round0 (w3.heap.size + 1) w.heap.size (w.heap.size + 1) fb fo _ _ regs y _ _ _ _ _ _ _ _ _ _ _ _ _ _ _ _ _ _ _ _ _ _ _ _ _ _ _ _ _ _ _ _ _ _ _ _ _ _ _ _ _ _ _ _ _ _ _ _ _ _ _ _ _ _ _ _ _ _ _ _ _ _ _ _ _ _ _ _ _ _ _ _ W _ hW.lp kTK.b0 kTK.b1 kTK.z1 gf2 (by omega) (by omega) ?_ ?_
        · intro hin W' h1 h2 h3 h4 h5 h6
          exact ⟨true, rfl, (fun _ => ⟨hW.again h1 h2 h3 h4 h5 h6, hin⟩), (fun h => by cases h)⟩
        · intro hin W' h1 hc h2 h3 h4 h5 h6
          exact ⟨false, rfl, (fun h => by cases h), (fun _ => ⟨hW.leave HTK0.out.bel (Nat.le_succ _) HB1L0.out h1 hc h2 h3 h4 h5 h6, hin⟩)⟩)).mono ?_
      rintro e W2 ⟨rfl, ⟨hJ, hall⟩ | ⟨hX, hall⟩⟩
      · refine ⟨⟨_, rfl⟩, _, hJ.lp, by simp [loopRec], .inl ⟨rfl, ?_⟩⟩
        have HE2 : Hid (r = ((succsF op s t).all (inB n) && glastB x op sub d k regs frame)) := by show _ = _; rw [HE1.out, hall]; rfl
        refine gq_named (fun W => TK w fb fo B2 x W ∧ Giv ib io fb fo op sub a b d k va vn vc s t regs frame ca n cap W ∧ W.heap[w3.heap.size]? = some (.deferred (some [])) ∧ w3.heap.size + 1 < W.heap.size) ?_ ?_
        · have hb4 : ∀ o, Below w3.heap.size w3 (W2.putObj (w3.heap.size + 1) o) := fun o => hJ.bel.trans (bel_put (Nat.le_succ _))
          exact ⟨HTK0.out.keep (hb4 _), HG0.out.keep (hb4 _), (put_other (show w3.heap.size ≠ w3.heap.size + 1 by omega)).trans hJ.dfr, by rw [World.putObj_size]; exact (Array.getElem?_eq_some_iff.1 hJ.lp).1⟩
        rintro W4 ⟨k1, k2, k3, k4⟩
        have HTK4 := hid k1
        have HG4 := hid k2
        have HD4 := hid k3
        obtain ⟨e0, e1, e2, e3, e4, e5, e6, e7, e8, f2, f3, f5⟩ := k2
        clear k1 k3 hJ hall HE1 HUS HTK HG3
        go_wp2_with (go_at_call 71; refine (succs_made op sub a b d k va vn vc s t _).mono ?_; rintro e w5 ⟨ib3, rfl, hsu, hb5⟩; have HSU := hid hsu; have HTK1 := hid (HTK4.out.keep hb5); have HG1 := hid (HG4.out.keep hb5); have HD5 : Hid (w5.heap[w3.heap.size]? = some (.deferred (some []))) := hid ((hb5.block _ (by omega)).trans HD4.out); have hs5 : w3.heap.size + 1 < w5.heap.size := Nat.lt_of_lt_of_le k4 hb5.size; clear hsu hb5)
        have HB1L1 : Hid (w.heap.size + 1 < w5.heap.size) := block_lt_of_cell HTK1.out.b1
        clear e0 e1 e2 e3 e4 e5 e6 e7 e8 f2 f3 f5
        refine (wpIn_wide (n := 3)).1 ?_
        refine range_outer (F := Fence.wide) rfl (by omega) (gf := 92) (lb := #[.pointer (some ⟨ib3, 0, none⟩)]) (by simp [Act.eval]) trivial (enters_of Tryz.func92 (by kernel_rfl) rfl) ?_
        intro fn2 _
        refine callsIn_wide.2 ?_
        refine (tk_run1 w w5 _ (w.heap.size + 1) ib3 op s t n HSU.out (fun y W hW => by
          have k := hW.bel
          have kTK := HTK1.out.keep k
          obtain ⟨ge0, ge1, ge2, ge3, ge4, ge5, ge6, ge7, ge8, gf2, gf3, gf5⟩ := HG1.out.keep k
          refine tk_round1 (w5.heap.size + 1) w.heap.size (w.heap.size + 1) fb fo _ _ n cap ca y _ _ _ _ _ _ _ _ _ _ _ _ _ _ _ _ _ _ _ _ _ _ _ _ _ _ _ _ _ _ _ _ _ _ _ _ _ _ _ _ _ _ _ _ _ _ _ _ _ _ _ _ _ _ _ _ _ _ _ _ _ _ _ _ _ _ _ _ _ _ _ _ W _ hW.lp kTK.b0 kTK.b1 kTK.z1 gf5 hn ?_ ?_
          · intro hin W' h1 h2 h3 h4 h5 h6
            exact ⟨true, rfl, (fun _ => ⟨hW.again h1 h2 h3 h4 h5 h6, hin⟩), (fun h => by cases h)⟩
          · intro hin W' h1 hc h2 h3 h4 h5 h6
            exact ⟨false, rfl, (fun h => by cases h), (fun _ => ⟨hW.leave HTK1.out.bel (Nat.le_succ _) HB1L1.out h1 hc h2 h3 h4 h5 h6, hin⟩)⟩)).mono ?_
        rintro e W6 ⟨rfl, ⟨hJ, hall⟩ | ⟨hX, hall⟩⟩
        · refine ⟨⟨_, rfl⟩, _, hJ.lp, by simp [loopRec], .inl ⟨rfl, ?_⟩⟩
          have er : r = glastB x op sub d k regs frame := by rw [HE2.out, hall]; rfl
          have HER := hid er
          refine gq_named (fun W => TK w fb fo B2 x W ∧ Giv ib io fb fo op sub a b d k va vn vc s t regs frame ca n cap W ∧ W.heap[w3.heap.size]? = some (.deferred (some [])) ∧ W.heap[w5.heap.size]? = some (.deferred (some []))) ?_ ?_
          · have hb7 : ∀ o, Below w5.heap.size w5 (W6.putObj (w5.heap.size + 1) o) := fun o => hJ.bel.trans (bel_put (Nat.le_succ _))
            exact ⟨HTK1.out.keep (hb7 _), HG1.out.keep (hb7 _), ((hb7 _).block _ (by omega)).trans HD5.out, (put_other (show w5.heap.size ≠ w5.heap.size + 1 by omega)).trans hJ.dfr⟩
          rintro W7 ⟨k1, k2, k3, k4⟩
          have HTK7 := hid k1
          have HD7 := hid k3
          have HD8 := hid k4
          obtain ⟨e0, e1, e2, e3, e4, e5, e6, e7, e8, f2, f3, f5⟩ := k2
          clear k1 k3 k4 hJ hall er HE2
          go_upto_region 12 with fail
          refine wp_calmG ?_
          refine tk_r12 ib io fb fo w.heap.size (w.heap.size + 1) B2 x.d x.sub op sub d k regs frame _ _ _ _ _ _ _ _ _ _ _ _ _ _ _ _ _ _ _ _ _ _ _ _ _ _ _ _ _ _ _ _ _ _ _ _ _ _ _ _ _ _ _ _ _ _ _ _ _ _ _ _ _ _ _ _ _ _ _ _ _ _ _ _ _ _ _ _ _ _ _ _ (fun _ _ _ => False) W7 (fun _ _ _ _ _ h => h) HTK7.out.b0 HTK7.out.s4 HTK7.out.s1 e0 e1 e4 e5 f3 f2 HTK7.out.b1 HTK7.out.z1 (by omega) (by have := HTK7.out.n2; omega) (by omega) (by omega) (by omega) (by omega) r HER.out ?_
          intro y39 y40 y41 y42 y43 y44 y45 y46 y47 y48 y49 y50 y51 y52 y53 y54 y55 y56 y57 y58 y59 y60 y61 y62 y63 y64 y65 y66 y67 y68 y69 y70 y71 y72 y73
          have HB7 := hid HTK7.out.bel
          have hlt : w.heap.size + 1 < w5.heap.size := HB1L1.out
          have hlt3 : w.heap.size + 1 < w3.heap.size := HB1L0.out
          have hh5 : w5.heap.size ≠ w.heap.size + 1 := by omega
          have hh3 : w3.heap.size ≠ w.heap.size + 1 := by omega
          have h35 : w3.heap.size ≠ w5.heap.size := by omega
          have c7 : (W7.setCell ⟨w.heap.size + 1, 0, none⟩ (.bool r)).drew.cell? ⟨w.heap.size + 1, 0, none⟩ = some (.bool r) := by
            have b1 := HTK7.out.b1
            go_simp
          obtain ⟨WF, hWF⟩ : ∃ W, (W7.setCell ⟨w.heap.size + 1, 0, none⟩ (.bool r)).drew = W := ⟨_, rfl⟩
          have HF1 : Hid (WF.heap[w5.heap.size]? = some (.deferred (some []))) := by show _ = _; rw [← hWF]; exact (gset_other hh5).trans HD8.out
          have HF2 : Hid (WF.heap[w3.heap.size]? = some (.deferred (some []))) := by show _ = _; rw [← hWF]; exact (gset_other hh3).trans HD7.out
          have HF3 : Hid (WF.cell? ⟨w.heap.size + 1, 0, none⟩ = some (.bool r)) := by show _ = _; rw [← hWF]; exact c7
          clear c7
          have HF4 : Hid (Below w.heap.size w WF) := by show Below _ _ _; rw [← hWF]; exact Below.drew (HB7.out.setCell (Nat.le_succ _) _)
          rw [hWF]
          clear hWF e0 e1 e2 e3 e4 e5 e6 e7 e8 f2 f3 f5
          dsimp only
          go_wp2
          have d2 : (WF.putObj w5.heap.size (.deferred none)).heap[w3.heap.size]? = some (.deferred (some [])) := (put_other h35).trans HF2.out
          have cB1 : ((WF.putObj w5.heap.size (.deferred none)).putObj w3.heap.size (.deferred none)).cell? ⟨w.heap.size + 1, 0, none⟩ = some (.bool r) := (World.cell?_of_block (put_other (Ne.symm hh3))).trans ((World.cell?_of_block (put_other (Ne.symm hh5))).trans HF3.out)
          refine ⟨by simp, .inl ⟨_, _, rfl, run_takeDeferred HF1.out, ?_⟩⟩
          refine ⟨by simp, .inl ⟨_, _, rfl, run_takeDeferred d2, ?_⟩⟩
          exact ⟨_, (by simp [results, Tryz.results48, go_sem, cB1]), rfl, (HF4.out.trans (bel_put (show w.heap.size ≤ w5.heap.size by omega))).trans (bel_put (show w.heap.size ≤ w3.heap.size by omega))⟩
        · have er : r = false := by rw [HE2.out, hall]; rfl
          refine ⟨⟨_, rfl⟩, _, hX.lp, by simp, .inr ⟨_, rfl, ?_⟩⟩
          subst er
          refine wpIn_wide.2 ?_
          have hlt : w.heap.size + 1 < w5.heap.size := HB1L1.out
          have hlt3 : w.heap.size + 1 < w3.heap.size := HB1L0.out
          refine gwp_named (fun W => Below w.heap.size w W ∧ W.cell? ⟨w.heap.size + 1, 0, none⟩ = some (.bool false) ∧ W.heap[w5.heap.size]? = some (.deferred (some [])) ∧ W.heap[w3.heap.size]? = some (.deferred (some []))) ⟨hX.bel.trans (bel_put (show w.heap.size ≤ w5.heap.size + 1 by omega)), (World.cell?_of_block (put_other (show w.heap.size + 1 ≠ w5.heap.size + 1 by omega))).trans hX.res, (put_other (show w5.heap.size ≠ w5.heap.size + 1 by omega)).trans hX.dfr, (put_other (show w3.heap.size ≠ w5.heap.size + 1 by omega)).trans ((hX.rest _ (by omega) (by omega)).trans HD5.out)⟩ ?_
          rintro W7 ⟨hb3, hc3, hd3, hd4⟩
          have H3 := hid hb3
          have H4 := hid hc3
          have H5 := hid hd3
          have H6 := hid hd4
          clear hb3 hc3 hd3 hd4
          go_wp2
          have d2 : (W7.putObj w5.heap.size (.deferred none)).heap[w3.heap.size]? = some (.deferred (some [])) := (put_other (show w3.heap.size ≠ w5.heap.size by omega)).trans H6.out
          have cB1 : ((W7.putObj w5.heap.size (.deferred none)).putObj w3.heap.size (.deferred none)).cell? ⟨w.heap.size + 1, 0, none⟩ = some (.bool false) := (World.cell?_of_block (put_other (show w.heap.size + 1 ≠ w3.heap.size by omega))).trans ((World.cell?_of_block (put_other (show w.heap.size + 1 ≠ w5.heap.size by omega))).trans H4.out)
          refine ⟨by simp, .inl ⟨_, _, rfl, run_takeDeferred H5.out, ?_⟩⟩
          refine ⟨by simp, .inl ⟨_, _, rfl, run_takeDeferred d2, ?_⟩⟩
          exact ⟨_, (by simp [results, Tryz.results48, go_sem, cB1]), rfl, (H3.out.trans (bel_put (show w.heap.size ≤ w5.heap.size by omega))).trans (bel_put (show w.heap.size ≤ w3.heap.size by omega))⟩
      · have er : r = false := by rw [HE1.out, hall]; rfl
        refine ⟨⟨_, rfl⟩, _, hX.lp, by simp, .inr ⟨_, rfl, ?_⟩⟩
        subst er
        refine wpIn_wide.2 ?_
        have hlt : w.heap.size + 1 < w3.heap.size := HB1L0.out
        refine gwp_named (fun W => Below w.heap.size w W ∧ W.cell? ⟨w.heap.size + 1, 0, none⟩ = some (.bool false) ∧ W.heap[w3.heap.size]? = some (.deferred (some []))) ⟨hX.bel.trans (bel_put (show w.heap.size ≤ w3.heap.size + 1 by omega)), (World.cell?_of_block (put_other (show w.heap.size + 1 ≠ w3.heap.size + 1 by omega))).trans hX.res, (put_other (show w3.heap.size ≠ w3.heap.size + 1 by omega)).trans hX.dfr⟩ ?_
        rintro W3 ⟨hb3, hc3, hd3⟩
        have H3 := hid hb3
        have H4 := hid hc3
        have H5 := hid hd3
        clear hb3 hc3 hd3
        go_wp2
        have hlt : w.heap.size + 1 < w3.heap.size := HB1L0.out
        have cB1 : (W3.putObj w3.heap.size (.deferred none)).cell? ⟨w.heap.size + 1, 0, none⟩ = some (.bool false) := (World.cell?_of_block (put_other (show w.heap.size + 1 ≠ w3.heap.size by omega))).trans H4.out
        refine ⟨by simp, .inl ⟨_, _, rfl, run_takeDeferred H5.out, ?_⟩⟩
        exact ⟨_, (by simp [results, Tryz.results48, go_sem, cB1]), rfl, H3.out.trans (bel_put (show w.heap.size ≤ w3.heap.size by omega))⟩
theorem takes_any {w : World} {fb fo ib io : Nat} {f : Fn} {i : Ins} (hf : FnAt w fb fo f) (hi : InsAt w ib io i) (ht : ShTab w) (r0 : 0 ≤ f.regs) (r1 : f.regs ≤ 5000) :
    Calls Tryz.prog 48 #[.pointer (some ⟨fb, fo, none⟩), .pointer (some ⟨ib, io, none⟩)] w (retP (.bool (rightF f.regs f.frame f.code.length i)) w) := by
  obtain ⟨pv, cv, _, hc, _, _, _, f2, f3, _, f5⟩ := hf
  obtain ⟨ca, cap, rfl, hl, _, _⟩ := hc
  obtain ⟨v, hv, e0, e1, e2, e3, e4, e5, e6, e7, e8⟩ := hi
  obtain ⟨va, vc, rfl, hvl⟩ := len_parts hv
  rw [← takes_right _ _ _ _ r0]
  obtain ⟨op, sub, a, b, d, k, args, s, t⟩ := i
  exact takes_walk fb fo ib io f.regs f.frame f.code.length cap ca op sub a b d k va args.length vc s t args _ _ w rfl ht ⟨e0, e1, e2, e3, e4, e5, e6, e7, e8, f2, f3, f5⟩ hv r0 r1 (by omega) rfl
end Go.Proofs.YthieicjnenlpfaaGreatDoor

