/- TraceOrder: its first test. -/
import Derived.Test.YtokdnjnkgflbcaaDoorTOrD
import Derived.Deep.DeepCutAuto
namespace Go.Proofs.YtokdnjnkgflbcaaDoor
open Go.ChangeShapes Go.WideShapes Go.ChangeAt Go.RowKit Go.Joins Go.Deep Pl
set_option linter.unusedSimpArgs false
set_option linter.unusedVariables false

set_option maxRecDepth 1000000 in
set_option maxHeartbeats 20000000 in
theorem to_r5f (k0 x0 s0 : Int) (e0 : Option Addr) (n0 d0 : Nat) (l0 : Value) (es0 : List Ev) (ls0 : List Lk) (k1 x1 s1 : Int) (e1 : Option Addr) (n1 d1 : Nat) (l1 : Value) (es1 : List Ev) (ls1 : List Lk) (k2 x2 s2 : Int) (e2 : Option Addr) (n2 d2 : Nat) (l2 : Value) (es2 : List Ev) (ls2 : List Lk) (B0 B1 B2 : Nat) (w1 : World) (ac0 : w1.cell? ⟨B0, 0, none⟩ = some (.int .i64 k0)) (ac1 : w1.cell? ⟨B0, 1, none⟩ = some (.int .i64 x0)) (ac2 : w1.cell? ⟨B0, 2, none⟩ = some (.slice e0 n0 d0)) (ac3 : w1.cell? ⟨B0, 3, none⟩ = some (l0)) (ac4 : w1.cell? ⟨B0, 4, none⟩ = some (.int .i64 s0)) (bc0 : w1.cell? ⟨B1, 0, none⟩ = some (.int .i64 k1)) (bc1 : w1.cell? ⟨B1, 1, none⟩ = some (.int .i64 x1)) (bc2 : w1.cell? ⟨B1, 2, none⟩ = some (.slice e1 n1 d1)) (bc3 : w1.cell? ⟨B1, 3, none⟩ = some (l1)) (bc4 : w1.cell? ⟨B1, 4, none⟩ = some (.int .i64 s1)) (cc0 : w1.cell? ⟨B2, 0, none⟩ = some (.int .i64 k2)) (cc1 : w1.cell? ⟨B2, 1, none⟩ = some (.int .i64 x2)) (cc2 : w1.cell? ⟨B2, 2, none⟩ = some (.slice e2 n2 d2)) (cc3 : w1.cell? ⟨B2, 3, none⟩ = some (l2)) (cc4 : w1.cell? ⟨B2, 4, none⟩ = some (.int .i64 s2)) (aL : B0 < w1.heap.size) (bL : B1 < w1.heap.size) (cL : B2 < w1.heap.size) (Q0 : Hid (RunAt w1 ⟨k0, x0, .slice e0 n0 d0, l0, s0, es0, ls0⟩)) (Q1 : Hid (RunAt w1 ⟨k1, x1, .slice e1 n1 d1, l1, s1, es1, ls1⟩)) (Q2 : Hid (RunAt w1 ⟨k2, x2, .slice e2 n2 d2, l2, s2, es2, ls2⟩)) (z0z z1z z2z z6z z7z z8z z9z z10z z11z z12z z13z z14z z15z z16z z17z z18z z19z z20z z21z z22z z23z z24z z25z z26z z27z z28z z29z z30z z31z z32z z33z z34z z35z z36z z37z z38z z39z z40z z41z z42z z43z z44z z45z z46z z47z z48z z49z z50z z51z z52z z53z z54z z55z z56z z57z z58z z59z z60z z61z z62z z63z z64z z65z z66z z67z z68z z69z z70z z71z z72z z73z z74z z75z z76z z77z z78z z79z z80z z81z z82z z83z z84z z85z z86z z87z z88z z89z z90z z91z z92z z93z z94z z95z z96z z97z z98z z99z z100z z101z z102z z103z z104z z105z z106z z107z z108z z109z z110z z111z z112z z113z z114z z115z z116z z117z z118z : Value) (lab lbc : Bool) (HLab : Hid (leaksR ⟨k0, x0, .slice e0 n0 d0, l0, s0, es0, ls0⟩ ⟨k1, x1, .slice e1 n1 d1, l1, s1, es1, ls1⟩ = lab)) (HLbc : Hid (leaksR ⟨k1, x1, .slice e1 n1 d1, l1, s1, es1, ls1⟩ ⟨k2, x2, .slice e2 n2 d2, l2, s2, es2, ls2⟩ = lbc)) (HRab : Hid (sameR ⟨k0, x0, .slice e0 n0 d0, l0, s0, es0, ls0⟩ ⟨k1, x1, .slice e1 n1 d1, l1, s1, es1, ls1⟩ = false)) (K : Act → World → Prop) (QQ : Exit → Act → World → Prop) (HK : Hid (∀ (y25y y26y y27y y28y y29y y30y y31y y32y y33y y34y y35y y36y y37y y38y y39y y40y y41y y42y y43y y44y y45y y46y y47y y48y y49y y50y y51y y52y y53y : Value) (w' : World), Below w1.heap.size w1 w' → K ⟨#[z0z, z1z, z2z, .pointer (some ⟨B0, 0, none⟩), .pointer (some ⟨B1, 0, none⟩), .pointer (some ⟨B2, 0, none⟩), z6z, z7z, z8z, z9z, z10z, z11z, z12z, z13z, z14z, z15z, z16z, z17z, z18z, z19z, z20z, z21z, z22z, z23z, z24z, y25y, y26y, y27y, y28y, y29y, y30y, y31y, y32y, y33y, y34y, y35y, y36y, y37y, y38y, y39y, y40y, y41y, y42y, y43y, y44y, y45y, y46y, y47y, y48y, y49y, y50y, y51y, y52y, y53y, .bool false, z55z, z56z, z57z, z58z, z59z, z60z, z61z, z62z, z63z, z64z, z65z, z66z, z67z, z68z, z69z, z70z, z71z, z72z, z73z, z74z, z75z, z76z, z77z, z78z, z79z, z80z, z81z, z82z, z83z, z84z, z85z, z86z, z87z, z88z, z89z, z90z, z91z, z92z, z93z, z94z, z95z, z96z, z97z, z98z, z99z, z100z, z101z, z102z, z103z, z104z, z105z, z106z, z107z, z108z, z109z, z110z, z111z, z112z, z113z, z114z, z115z, z116z, z117z, z118z], []⟩ w')) :
    Code.wp Tryd.prog toR5 (Exit.then K QQ) ⟨#[z0z, z1z, z2z, .pointer (some ⟨B0, 0, none⟩), .pointer (some ⟨B1, 0, none⟩), .pointer (some ⟨B2, 0, none⟩), z6z, z7z, z8z, z9z, z10z, z11z, z12z, z13z, z14z, z15z, z16z, z17z, z18z, z19z, z20z, z21z, z22z, z23z, z24z, z25z, z26z, z27z, z28z, z29z, z30z, z31z, z32z, z33z, z34z, z35z, z36z, z37z, z38z, z39z, z40z, z41z, z42z, z43z, z44z, z45z, z46z, z47z, z48z, z49z, z50z, z51z, z52z, z53z, z54z, z55z, z56z, z57z, z58z, z59z, z60z, z61z, z62z, z63z, z64z, z65z, z66z, z67z, z68z, z69z, z70z, z71z, z72z, z73z, z74z, z75z, z76z, z77z, z78z, z79z, z80z, z81z, z82z, z83z, z84z, z85z, z86z, z87z, z88z, z89z, z90z, z91z, z92z, z93z, z94z, z95z, z96z, z97z, z98z, z99z, z100z, z101z, z102z, z103z, z104z, z105z, z106z, z107z, z108z, z109z, z110z, z111z, z112z, z113z, z114z, z115z, z116z, z117z, z118z], []⟩ w1 := by
  have HB : Hid (Below w1.heap.size w1 w1) := Below.refl _ _
  have hc : True := trivial
  conv => arg 2; whnf
  go_wp2_with fail
  refine (same_to ⟨k0, x0, .slice e0 n0 d0, l0, s0, es0, ls0⟩ ⟨k1, x1, .slice e1 n1 d1, l1, s1, es1, ls1⟩ _ (Q0.out.keep HB.out) (Q1.out.keep HB.out) false HRab).mono ?_
  rintro e wa ⟨rfl, hb⟩
  replace HB : Hid (Below w1.heap.size w1 wa) := bel_trans HB.out hb
  clear hb hc
  have hc := (bcell HB.out).1
  cases lab
  · go_wp2_with fail
    refine (leaks_to ⟨k0, x0, .slice e0 n0 d0, l0, s0, es0, ls0⟩ ⟨k1, x1, .slice e1 n1 d1, l1, s1, es1, ls1⟩ _ (Q0.out.keep HB.out) (Q1.out.keep HB.out) false HLab).mono ?_
    rintro e wxa ⟨rfl, hb⟩
    replace HB : Hid (Below w1.heap.size w1 wxa) := bel_trans HB.out hb
    clear hb hc
    have hc := (bcell HB.out).1
    go_wp2
    exact HK.out _ _ _ _ _ _ _ _ _ _ _ _ _ _ _ _ _ _ _ _ _ _ _ _ _ _ _ _ _ _ HB.out
  · go_wp2_with fail
    refine (leaks_to ⟨k0, x0, .slice e0 n0 d0, l0, s0, es0, ls0⟩ ⟨k1, x1, .slice e1 n1 d1, l1, s1, es1, ls1⟩ _ (Q0.out.keep HB.out) (Q1.out.keep HB.out) true HLab).mono ?_
    rintro e wxa ⟨rfl, hb⟩
    replace HB : Hid (Below w1.heap.size w1 wxa) := bel_trans HB.out hb
    clear hb hc
    have hc := (bcell HB.out).1
    cases lbc
    · go_wp2_with fail
      refine (leaks_to ⟨k1, x1, .slice e1 n1 d1, l1, s1, es1, ls1⟩ ⟨k2, x2, .slice e2 n2 d2, l2, s2, es2, ls2⟩ _ (Q1.out.keep HB.out) (Q2.out.keep HB.out) false HLbc).mono ?_
      rintro e wxb ⟨rfl, hb⟩
      replace HB : Hid (Below w1.heap.size w1 wxb) := bel_trans HB.out hb
      clear hb hc
      have hc := (bcell HB.out).1
      go_wp2
      exact HK.out _ _ _ _ _ _ _ _ _ _ _ _ _ _ _ _ _ _ _ _ _ _ _ _ _ _ _ _ _ _ HB.out
    · go_wp2_with fail
      refine (leaks_to ⟨k1, x1, .slice e1 n1 d1, l1, s1, es1, ls1⟩ ⟨k2, x2, .slice e2 n2 d2, l2, s2, es2, ls2⟩ _ (Q1.out.keep HB.out) (Q2.out.keep HB.out) true HLbc).mono ?_
      rintro e wxb ⟨rfl, hb⟩
      replace HB : Hid (Below w1.heap.size w1 wxb) := bel_trans HB.out hb
      clear hb hc
      have hc := (bcell HB.out).1
      go_wp2_with fail
      refine (leaks_to ⟨k0, x0, .slice e0 n0 d0, l0, s0, es0, ls0⟩ ⟨k2, x2, .slice e2 n2 d2, l2, s2, es2, ls2⟩ _ (Q0.out.keep HB.out) (Q2.out.keep HB.out) true (leaks_trans HLab.out HLbc.out)).mono ?_
      rintro e wxc ⟨rfl, hb⟩
      replace HB : Hid (Below w1.heap.size w1 wxc) := bel_trans HB.out hb
      clear hb hc
      have hc := (bcell HB.out).1
      go_wp2
      exact HK.out _ _ _ _ _ _ _ _ _ _ _ _ _ _ _ _ _ _ _ _ _ _ _ _ _ _ _ _ _ _ HB.out

end Go.Proofs.YtokdnjnkgflbcaaDoor
