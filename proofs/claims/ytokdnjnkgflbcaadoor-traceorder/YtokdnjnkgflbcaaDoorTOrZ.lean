/- For all runs: being the same, and leaking the same, are kept from run to run; the beginning of a beginning is one; what halts refines itself: the statement TraceOrder returns true. Conditions: the three tables of the library that the row lists start as the program's text lays them (the card ties them). -/
import Derived.Test.YtokdnjnkgflbcaaDoorTOr5f
import Derived.Test.YtokdnjnkgflbcaaDoorTOr5tf
import Derived.Test.YtokdnjnkgflbcaaDoorTOr5tt
import Derived.Test.YtokdnjnkgflbcaaDoorTOr7
import Derived.Test.YtokdnjnkgflbcaaDoorTOr91
import Derived.Test.YtokdnjnkgflbcaaDoorTOr92
import Derived.Test.YtokdnjnkgflbcaaDoorTOr93
import Derived.Test.YtokdnjnkgflbcaaDoorTOr94
import Derived.Deep.DeepCutAuto
namespace Go.Proofs.YtokdnjnkgflbcaaDoor
open Go.ChangeShapes Go.WideShapes Go.ChangeAt Go.RowKit Go.Joins Go.Deep Pl
set_option linter.unusedSimpArgs false
set_option linter.unusedVariables false


theorem to_r5 (k0 x0 s0 : Int) (e0 : Option Addr) (n0 d0 : Nat) (l0 : Value) (es0 : List Ev) (ls0 : List Lk) (k1 x1 s1 : Int) (e1 : Option Addr) (n1 d1 : Nat) (l1 : Value) (es1 : List Ev) (ls1 : List Lk) (k2 x2 s2 : Int) (e2 : Option Addr) (n2 d2 : Nat) (l2 : Value) (es2 : List Ev) (ls2 : List Lk) (B0 B1 B2 : Nat) (w1 : World) (ac0 : w1.cell? ⟨B0, 0, none⟩ = some (.int .i64 k0)) (ac1 : w1.cell? ⟨B0, 1, none⟩ = some (.int .i64 x0)) (ac2 : w1.cell? ⟨B0, 2, none⟩ = some (.slice e0 n0 d0)) (ac3 : w1.cell? ⟨B0, 3, none⟩ = some (l0)) (ac4 : w1.cell? ⟨B0, 4, none⟩ = some (.int .i64 s0)) (bc0 : w1.cell? ⟨B1, 0, none⟩ = some (.int .i64 k1)) (bc1 : w1.cell? ⟨B1, 1, none⟩ = some (.int .i64 x1)) (bc2 : w1.cell? ⟨B1, 2, none⟩ = some (.slice e1 n1 d1)) (bc3 : w1.cell? ⟨B1, 3, none⟩ = some (l1)) (bc4 : w1.cell? ⟨B1, 4, none⟩ = some (.int .i64 s1)) (cc0 : w1.cell? ⟨B2, 0, none⟩ = some (.int .i64 k2)) (cc1 : w1.cell? ⟨B2, 1, none⟩ = some (.int .i64 x2)) (cc2 : w1.cell? ⟨B2, 2, none⟩ = some (.slice e2 n2 d2)) (cc3 : w1.cell? ⟨B2, 3, none⟩ = some (l2)) (cc4 : w1.cell? ⟨B2, 4, none⟩ = some (.int .i64 s2)) (aL : B0 < w1.heap.size) (bL : B1 < w1.heap.size) (cL : B2 < w1.heap.size) (Q0 : Hid (RunAt w1 ⟨k0, x0, .slice e0 n0 d0, l0, s0, es0, ls0⟩)) (Q1 : Hid (RunAt w1 ⟨k1, x1, .slice e1 n1 d1, l1, s1, es1, ls1⟩)) (Q2 : Hid (RunAt w1 ⟨k2, x2, .slice e2 n2 d2, l2, s2, es2, ls2⟩)) (z0z z1z z2z z6z z7z z8z z9z z10z z11z z12z z13z z14z z15z z16z z17z z18z z19z z20z z21z z22z z23z z24z z25z z26z z27z z28z z29z z30z z31z z32z z33z z34z z35z z36z z37z z38z z39z z40z z41z z42z z43z z44z z45z z46z z47z z48z z49z z50z z51z z52z z53z z54z z55z z56z z57z z58z z59z z60z z61z z62z z63z z64z z65z z66z z67z z68z z69z z70z z71z z72z z73z z74z z75z z76z z77z z78z z79z z80z z81z z82z z83z z84z z85z z86z z87z z88z z89z z90z z91z z92z z93z z94z z95z z96z z97z z98z z99z z100z z101z z102z z103z z104z z105z z106z z107z z108z z109z z110z z111z z112z z113z z114z z115z z116z z117z z118z : Value) (lab lbc rab rbc : Bool) (HLab : Hid (leaksR ⟨k0, x0, .slice e0 n0 d0, l0, s0, es0, ls0⟩ ⟨k1, x1, .slice e1 n1 d1, l1, s1, es1, ls1⟩ = lab)) (HLbc : Hid (leaksR ⟨k1, x1, .slice e1 n1 d1, l1, s1, es1, ls1⟩ ⟨k2, x2, .slice e2 n2 d2, l2, s2, es2, ls2⟩ = lbc)) (HRab : Hid (sameR ⟨k0, x0, .slice e0 n0 d0, l0, s0, es0, ls0⟩ ⟨k1, x1, .slice e1 n1 d1, l1, s1, es1, ls1⟩ = rab)) (HRbc : Hid (sameR ⟨k1, x1, .slice e1 n1 d1, l1, s1, es1, ls1⟩ ⟨k2, x2, .slice e2 n2 d2, l2, s2, es2, ls2⟩ = rbc)) (K : Act → World → Prop) (QQ : Exit → Act → World → Prop) (HK : Hid (∀ (y25y y26y y27y y28y y29y y30y y31y y32y y33y y34y y35y y36y y37y y38y y39y y40y y41y y42y y43y y44y y45y y46y y47y y48y y49y y50y y51y y52y y53y : Value) (w' : World), Below w1.heap.size w1 w' → K ⟨#[z0z, z1z, z2z, .pointer (some ⟨B0, 0, none⟩), .pointer (some ⟨B1, 0, none⟩), .pointer (some ⟨B2, 0, none⟩), z6z, z7z, z8z, z9z, z10z, z11z, z12z, z13z, z14z, z15z, z16z, z17z, z18z, z19z, z20z, z21z, z22z, z23z, z24z, y25y, y26y, y27y, y28y, y29y, y30y, y31y, y32y, y33y, y34y, y35y, y36y, y37y, y38y, y39y, y40y, y41y, y42y, y43y, y44y, y45y, y46y, y47y, y48y, y49y, y50y, y51y, y52y, y53y, .bool false, z55z, z56z, z57z, z58z, z59z, z60z, z61z, z62z, z63z, z64z, z65z, z66z, z67z, z68z, z69z, z70z, z71z, z72z, z73z, z74z, z75z, z76z, z77z, z78z, z79z, z80z, z81z, z82z, z83z, z84z, z85z, z86z, z87z, z88z, z89z, z90z, z91z, z92z, z93z, z94z, z95z, z96z, z97z, z98z, z99z, z100z, z101z, z102z, z103z, z104z, z105z, z106z, z107z, z108z, z109z, z110z, z111z, z112z, z113z, z114z, z115z, z116z, z117z, z118z], []⟩ w')) :
    Code.wp Tryd.prog toR5 (Exit.then K QQ) ⟨#[z0z, z1z, z2z, .pointer (some ⟨B0, 0, none⟩), .pointer (some ⟨B1, 0, none⟩), .pointer (some ⟨B2, 0, none⟩), z6z, z7z, z8z, z9z, z10z, z11z, z12z, z13z, z14z, z15z, z16z, z17z, z18z, z19z, z20z, z21z, z22z, z23z, z24z, z25z, z26z, z27z, z28z, z29z, z30z, z31z, z32z, z33z, z34z, z35z, z36z, z37z, z38z, z39z, z40z, z41z, z42z, z43z, z44z, z45z, z46z, z47z, z48z, z49z, z50z, z51z, z52z, z53z, z54z, z55z, z56z, z57z, z58z, z59z, z60z, z61z, z62z, z63z, z64z, z65z, z66z, z67z, z68z, z69z, z70z, z71z, z72z, z73z, z74z, z75z, z76z, z77z, z78z, z79z, z80z, z81z, z82z, z83z, z84z, z85z, z86z, z87z, z88z, z89z, z90z, z91z, z92z, z93z, z94z, z95z, z96z, z97z, z98z, z99z, z100z, z101z, z102z, z103z, z104z, z105z, z106z, z107z, z108z, z109z, z110z, z111z, z112z, z113z, z114z, z115z, z116z, z117z, z118z], []⟩ w1 := by
  cases rab
  · exact to_r5f k0 x0 s0 e0 n0 d0 l0 es0 ls0 k1 x1 s1 e1 n1 d1 l1 es1 ls1 k2 x2 s2 e2 n2 d2 l2 es2 ls2 B0 B1 B2 w1 ac0 ac1 ac2 ac3 ac4 bc0 bc1 bc2 bc3 bc4 cc0 cc1 cc2 cc3 cc4 aL bL cL Q0 Q1 Q2 z0z z1z z2z z6z z7z z8z z9z z10z z11z z12z z13z z14z z15z z16z z17z z18z z19z z20z z21z z22z z23z z24z z25z z26z z27z z28z z29z z30z z31z z32z z33z z34z z35z z36z z37z z38z z39z z40z z41z z42z z43z z44z z45z z46z z47z z48z z49z z50z z51z z52z z53z z54z z55z z56z z57z z58z z59z z60z z61z z62z z63z z64z z65z z66z z67z z68z z69z z70z z71z z72z z73z z74z z75z z76z z77z z78z z79z z80z z81z z82z z83z z84z z85z z86z z87z z88z z89z z90z z91z z92z z93z z94z z95z z96z z97z z98z z99z z100z z101z z102z z103z z104z z105z z106z z107z z108z z109z z110z z111z z112z z113z z114z z115z z116z z117z z118z lab lbc HLab HLbc HRab K QQ HK
  · cases rbc
    · exact to_r5tf k0 x0 s0 e0 n0 d0 l0 es0 ls0 k1 x1 s1 e1 n1 d1 l1 es1 ls1 k2 x2 s2 e2 n2 d2 l2 es2 ls2 B0 B1 B2 w1 ac0 ac1 ac2 ac3 ac4 bc0 bc1 bc2 bc3 bc4 cc0 cc1 cc2 cc3 cc4 aL bL cL Q0 Q1 Q2 z0z z1z z2z z6z z7z z8z z9z z10z z11z z12z z13z z14z z15z z16z z17z z18z z19z z20z z21z z22z z23z z24z z25z z26z z27z z28z z29z z30z z31z z32z z33z z34z z35z z36z z37z z38z z39z z40z z41z z42z z43z z44z z45z z46z z47z z48z z49z z50z z51z z52z z53z z54z z55z z56z z57z z58z z59z z60z z61z z62z z63z z64z z65z z66z z67z z68z z69z z70z z71z z72z z73z z74z z75z z76z z77z z78z z79z z80z z81z z82z z83z z84z z85z z86z z87z z88z z89z z90z z91z z92z z93z z94z z95z z96z z97z z98z z99z z100z z101z z102z z103z z104z z105z z106z z107z z108z z109z z110z z111z z112z z113z z114z z115z z116z z117z z118z lab lbc HLab HLbc HRab HRbc K QQ HK
    · exact to_r5tt k0 x0 s0 e0 n0 d0 l0 es0 ls0 k1 x1 s1 e1 n1 d1 l1 es1 ls1 k2 x2 s2 e2 n2 d2 l2 es2 ls2 B0 B1 B2 w1 ac0 ac1 ac2 ac3 ac4 bc0 bc1 bc2 bc3 bc4 cc0 cc1 cc2 cc3 cc4 aL bL cL Q0 Q1 Q2 z0z z1z z2z z6z z7z z8z z9z z10z z11z z12z z13z z14z z15z z16z z17z z18z z19z z20z z21z z22z z23z z24z z25z z26z z27z z28z z29z z30z z31z z32z z33z z34z z35z z36z z37z z38z z39z z40z z41z z42z z43z z44z z45z z46z z47z z48z z49z z50z z51z z52z z53z z54z z55z z56z z57z z58z z59z z60z z61z z62z z63z z64z z65z z66z z67z z68z z69z z70z z71z z72z z73z z74z z75z z76z z77z z78z z79z z80z z81z z82z z83z z84z z85z z86z z87z z88z z89z z90z z91z z92z z93z z94z z95z z96z z97z z98z z99z z100z z101z z102z z103z z104z z105z z106z z107z z108z z109z z110z z111z z112z z113z z114z z115z z116z z117z z118z lab lbc HLab HLbc HRab HRbc K QQ HK
theorem to_r9 (k0 x0 s0 : Int) (e0 : Option Addr) (n0 d0 : Nat) (l0 : Value) (es0 : List Ev) (ls0 : List Lk) (k1 x1 s1 : Int) (e1 : Option Addr) (n1 d1 : Nat) (l1 : Value) (es1 : List Ev) (ls1 : List Lk) (k2 x2 s2 : Int) (e2 : Option Addr) (n2 d2 : Nat) (l2 : Value) (es2 : List Ev) (ls2 : List Lk) (B0 B1 B2 : Nat) (w1 : World) (ac0 : w1.cell? ⟨B0, 0, none⟩ = some (.int .i64 k0)) (ac1 : w1.cell? ⟨B0, 1, none⟩ = some (.int .i64 x0)) (ac2 : w1.cell? ⟨B0, 2, none⟩ = some (.slice e0 n0 d0)) (ac3 : w1.cell? ⟨B0, 3, none⟩ = some (l0)) (ac4 : w1.cell? ⟨B0, 4, none⟩ = some (.int .i64 s0)) (bc0 : w1.cell? ⟨B1, 0, none⟩ = some (.int .i64 k1)) (bc1 : w1.cell? ⟨B1, 1, none⟩ = some (.int .i64 x1)) (bc2 : w1.cell? ⟨B1, 2, none⟩ = some (.slice e1 n1 d1)) (bc3 : w1.cell? ⟨B1, 3, none⟩ = some (l1)) (bc4 : w1.cell? ⟨B1, 4, none⟩ = some (.int .i64 s1)) (cc0 : w1.cell? ⟨B2, 0, none⟩ = some (.int .i64 k2)) (cc1 : w1.cell? ⟨B2, 1, none⟩ = some (.int .i64 x2)) (cc2 : w1.cell? ⟨B2, 2, none⟩ = some (.slice e2 n2 d2)) (cc3 : w1.cell? ⟨B2, 3, none⟩ = some (l2)) (cc4 : w1.cell? ⟨B2, 4, none⟩ = some (.int .i64 s2)) (aL : B0 < w1.heap.size) (bL : B1 < w1.heap.size) (cL : B2 < w1.heap.size) (Q0 : Hid (RunAt w1 ⟨k0, x0, .slice e0 n0 d0, l0, s0, es0, ls0⟩)) (Q1 : Hid (RunAt w1 ⟨k1, x1, .slice e1 n1 d1, l1, s1, es1, ls1⟩)) (Q2 : Hid (RunAt w1 ⟨k2, x2, .slice e2 n2 d2, l2, s2, es2, ls2⟩)) (z0z z1z z2z z6z z7z z8z z9z z10z z11z z12z z13z z14z z15z z16z z17z z18z z19z z20z z21z z22z z23z z24z z25z z26z z27z z28z z29z z30z z31z z32z z33z z34z z35z z36z z37z z38z z39z z40z z41z z42z z43z z44z z45z z46z z47z z48z z49z z50z z51z z52z z53z z54z z55z z56z z57z z58z z59z z60z z61z z62z z63z z64z z65z z66z z67z z68z z69z z70z z71z z72z z73z z74z z75z z76z z77z z78z z79z z80z z81z z82z z83z z84z z85z z86z z87z z88z z89z z90z z91z z92z z93z z94z z95z z96z z97z z98z z99z z100z z101z z102z z103z z104z z105z z106z z107z z108z z109z z110z z111z z112z z113z z114z z115z z116z z117z z118z : Value) (rab : Bool) (HRab : Hid (sameR ⟨k0, x0, .slice e0 n0 d0, l0, s0, es0, ls0⟩ ⟨k1, x1, .slice e1 n1 d1, l1, s1, es1, ls1⟩ = rab)) (K : Act → World → Prop) (QQ : Exit → Act → World → Prop) (hQ0 : ∀ c (a : Act) d v x, QQ (.panic c) (a.put d v) x → QQ (.panic c) a x) (hK : ∀ (y75y y76y y77y y78y y79y y80y y81y y82y y83y y84y y85y y86y y87y y88y y89y y90y y91y y92y y93y y94y y95y y96y y97y y98y y99y y100y y101y y102y y103y y104y y105y y106y y107y y108y y109y y110y y111y y112y y113y y114y y115y y116y y117y y118y : Value) (w' : World), Below w1.heap.size w1 w' → K ⟨#[z0z, z1z, z2z, .pointer (some ⟨B0, 0, none⟩), .pointer (some ⟨B1, 0, none⟩), .pointer (some ⟨B2, 0, none⟩), .bool true, z7z, z8z, z9z, z10z, z11z, z12z, z13z, z14z, z15z, z16z, z17z, z18z, z19z, z20z, z21z, z22z, z23z, z24z, z25z, z26z, z27z, z28z, z29z, z30z, z31z, z32z, z33z, z34z, z35z, z36z, z37z, z38z, z39z, z40z, z41z, z42z, z43z, z44z, z45z, z46z, z47z, z48z, z49z, z50z, z51z, z52z, z53z, z54z, z55z, z56z, z57z, z58z, z59z, z60z, z61z, z62z, z63z, z64z, z65z, z66z, z67z, z68z, z69z, z70z, z71z, z72z, z73z, z74z, y75y, y76y, y77y, y78y, y79y, y80y, y81y, y82y, y83y, y84y, y85y, y86y, y87y, y88y, y89y, y90y, y91y, y92y, y93y, y94y, y95y, y96y, y97y, y98y, y99y, y100y, y101y, y102y, y103y, y104y, y105y, y106y, y107y, y108y, y109y, y110y, y111y, y112y, y113y, y114y, y115y, y116y, y117y, y118y], []⟩ w') :
    Code.wp Tryd.prog toR9 (Exit.then K QQ) ⟨#[z0z, z1z, z2z, .pointer (some ⟨B0, 0, none⟩), .pointer (some ⟨B1, 0, none⟩), .pointer (some ⟨B2, 0, none⟩), z6z, z7z, z8z, z9z, z10z, z11z, z12z, z13z, z14z, z15z, z16z, z17z, z18z, z19z, z20z, z21z, z22z, z23z, z24z, z25z, z26z, z27z, z28z, z29z, z30z, z31z, z32z, z33z, z34z, z35z, z36z, z37z, z38z, z39z, z40z, z41z, z42z, z43z, z44z, z45z, z46z, z47z, z48z, z49z, z50z, z51z, z52z, z53z, z54z, z55z, z56z, z57z, z58z, z59z, z60z, z61z, z62z, z63z, z64z, z65z, z66z, z67z, z68z, z69z, z70z, z71z, z72z, z73z, z74z, z75z, z76z, z77z, z78z, z79z, z80z, z81z, z82z, z83z, z84z, z85z, z86z, z87z, z88z, z89z, z90z, z91z, z92z, z93z, z94z, z95z, z96z, z97z, z98z, z99z, z100z, z101z, z102z, z103z, z104z, z105z, z106z, z107z, z108z, z109z, z110z, z111z, z112z, z113z, z114z, z115z, z116z, z117z, z118z], []⟩ w1 := by
  by_cases c1 : k0 = 4
  · exact to_r91 k0 x0 s0 e0 n0 d0 l0 es0 ls0 k1 x1 s1 e1 n1 d1 l1 es1 ls1 k2 x2 s2 e2 n2 d2 l2 es2 ls2 B0 B1 B2 w1 ac0 ac1 ac2 ac3 ac4 bc0 bc1 bc2 bc3 bc4 cc0 cc1 cc2 cc3 cc4 aL bL cL Q0 Q1 Q2 z0z z1z z2z z6z z7z z8z z9z z10z z11z z12z z13z z14z z15z z16z z17z z18z z19z z20z z21z z22z z23z z24z z25z z26z z27z z28z z29z z30z z31z z32z z33z z34z z35z z36z z37z z38z z39z z40z z41z z42z z43z z44z z45z z46z z47z z48z z49z z50z z51z z52z z53z z54z z55z z56z z57z z58z z59z z60z z61z z62z z63z z64z z65z z66z z67z z68z z69z z70z z71z z72z z73z z74z z75z z76z z77z z78z z79z z80z z81z z82z z83z z84z z85z z86z z87z z88z z89z z90z z91z z92z z93z z94z z95z z96z z97z z98z z99z z100z z101z z102z z103z z104z z105z z106z z107z z108z z109z z110z z111z z112z z113z z114z z115z z116z z117z z118z rab HRab c1 K QQ hQ0 hK
  by_cases c2 : k0 < 1
  · exact to_r92 k0 x0 s0 e0 n0 d0 l0 es0 ls0 k1 x1 s1 e1 n1 d1 l1 es1 ls1 k2 x2 s2 e2 n2 d2 l2 es2 ls2 B0 B1 B2 w1 ac0 ac1 ac2 ac3 ac4 bc0 bc1 bc2 bc3 bc4 cc0 cc1 cc2 cc3 cc4 aL bL cL Q0 Q1 Q2 z0z z1z z2z z6z z7z z8z z9z z10z z11z z12z z13z z14z z15z z16z z17z z18z z19z z20z z21z z22z z23z z24z z25z z26z z27z z28z z29z z30z z31z z32z z33z z34z z35z z36z z37z z38z z39z z40z z41z z42z z43z z44z z45z z46z z47z z48z z49z z50z z51z z52z z53z z54z z55z z56z z57z z58z z59z z60z z61z z62z z63z z64z z65z z66z z67z z68z z69z z70z z71z z72z z73z z74z z75z z76z z77z z78z z79z z80z z81z z82z z83z z84z z85z z86z z87z z88z z89z z90z z91z z92z z93z z94z z95z z96z z97z z98z z99z z100z z101z z102z z103z z104z z105z z106z z107z z108z z109z z110z z111z z112z z113z z114z z115z z116z z117z z118z rab HRab c2 K QQ hQ0 hK
  by_cases c3 : 4 < k0
  · exact to_r93 k0 x0 s0 e0 n0 d0 l0 es0 ls0 k1 x1 s1 e1 n1 d1 l1 es1 ls1 k2 x2 s2 e2 n2 d2 l2 es2 ls2 B0 B1 B2 w1 ac0 ac1 ac2 ac3 ac4 bc0 bc1 bc2 bc3 bc4 cc0 cc1 cc2 cc3 cc4 aL bL cL Q0 Q1 Q2 z0z z1z z2z z6z z7z z8z z9z z10z z11z z12z z13z z14z z15z z16z z17z z18z z19z z20z z21z z22z z23z z24z z25z z26z z27z z28z z29z z30z z31z z32z z33z z34z z35z z36z z37z z38z z39z z40z z41z z42z z43z z44z z45z z46z z47z z48z z49z z50z z51z z52z z53z z54z z55z z56z z57z z58z z59z z60z z61z z62z z63z z64z z65z z66z z67z z68z z69z z70z z71z z72z z73z z74z z75z z76z z77z z78z z79z z80z z81z z82z z83z z84z z85z z86z z87z z88z z89z z90z z91z z92z z93z z94z z95z z96z z97z z98z z99z z100z z101z z102z z103z z104z z105z z106z z107z z108z z109z z110z z111z z112z z113z z114z z115z z116z z117z z118z rab HRab c3 K QQ hQ0 hK
  · exact to_r94 k0 x0 s0 e0 n0 d0 l0 es0 ls0 k1 x1 s1 e1 n1 d1 l1 es1 ls1 k2 x2 s2 e2 n2 d2 l2 es2 ls2 B0 B1 B2 w1 ac0 ac1 ac2 ac3 ac4 bc0 bc1 bc2 bc3 bc4 cc0 cc1 cc2 cc3 cc4 aL bL cL Q0 Q1 Q2 z0z z1z z2z z6z z7z z8z z9z z10z z11z z12z z13z z14z z15z z16z z17z z18z z19z z20z z21z z22z z23z z24z z25z z26z z27z z28z z29z z30z z31z z32z z33z z34z z35z z36z z37z z38z z39z z40z z41z z42z z43z z44z z45z z46z z47z z48z z49z z50z z51z z52z z53z z54z z55z z56z z57z z58z z59z z60z z61z z62z z63z z64z z65z z66z z67z z68z z69z z70z z71z z72z z73z z74z z75z z76z z77z z78z z79z z80z z81z z82z z83z z84z z85z z86z z87z z88z z89z z90z z91z z92z z93z z94z z95z z96z z97z z98z z99z z100z z101z z102z z103z z104z z105z z106z z107z z108z z109z z110z z111z z112z z113z z114z z115z z116z z117z z118z rab HRab (by omega) K QQ hQ0 hK


set_option maxRecDepth 1000000 in
set_option maxHeartbeats 40000000 in
theorem traceOrder_short (k0 x0 s0 : Int) (e0 : Option Addr) (n0 d0 : Nat) (l0 : Value) (es0 : List Ev) (ls0 : List Lk) (k1 x1 s1 : Int) (e1 : Option Addr) (n1 d1 : Nat) (l1 : Value) (es1 : List Ev) (ls1 : List Lk) (k2 x2 s2 : Int) (e2 : Option Addr) (n2 d2 : Nat) (l2 : Value) (es2 : List Ev) (ls2 : List Lk) (w : World) (H0 : Hid (RunAt w ⟨k0, x0, .slice e0 n0 d0, l0, s0, es0, ls0⟩)) (H1 : Hid (RunAt w ⟨k1, x1, .slice e1 n1 d1, l1, s1, es1, ls1⟩)) (H2 : Hid (RunAt w ⟨k2, x2, .slice e2 n2 d2, l2, s2, es2, ls2⟩)) (HT : Hid (Tab w)) (g0 : ¬ (100 : Int) < n0) (g1 : ¬ (100 : Int) < n1) (g2 : ¬ (100 : Int) < n2) :
    Calls Tryd.prog 6 #[.agg #[.int .i64 k0, .int .i64 x0, .slice e0 n0 d0, l0, .int .i64 s0], .agg #[.int .i64 k1, .int .i64 x1, .slice e1 n1 d1, l1, .int .i64 s1], .agg #[.int .i64 k2, .int .i64 x2, .slice e2 n2 d2, l2, .int .i64 s2]] w (retP (.bool true) w) := by
  obtain ⟨rab, hrab⟩ : ∃ r, sameR ⟨k0, x0, .slice e0 n0 d0, l0, s0, es0, ls0⟩ ⟨k1, x1, .slice e1 n1 d1, l1, s1, es1, ls1⟩ = r := ⟨_, rfl⟩
  obtain ⟨rbc, hrbc⟩ : ∃ r, sameR ⟨k1, x1, .slice e1 n1 d1, l1, s1, es1, ls1⟩ ⟨k2, x2, .slice e2 n2 d2, l2, s2, es2, ls2⟩ = r := ⟨_, rfl⟩
  obtain ⟨lab, hlab⟩ : ∃ r, leaksR ⟨k0, x0, .slice e0 n0 d0, l0, s0, es0, ls0⟩ ⟨k1, x1, .slice e1 n1 d1, l1, s1, es1, ls1⟩ = r := ⟨_, rfl⟩
  obtain ⟨lbc, hlbc⟩ : ∃ r, leaksR ⟨k1, x1, .slice e1 n1 d1, l1, s1, es1, ls1⟩ ⟨k2, x2, .slice e2 n2 d2, l2, s2, es2, ls2⟩ = r := ⟨_, rfl⟩
  obtain ⟨pab, hpab⟩ : ∃ r, evPre es0 es1 = r := ⟨_, rfl⟩
  obtain ⟨pbc, hpbc⟩ : ∃ r, evPre es1 es2 = r := ⟨_, rfl⟩
  have HRab : Hid (sameR ⟨k0, x0, .slice e0 n0 d0, l0, s0, es0, ls0⟩ ⟨k1, x1, .slice e1 n1 d1, l1, s1, es1, ls1⟩ = rab) := hrab
  have HRbc : Hid (sameR ⟨k1, x1, .slice e1 n1 d1, l1, s1, es1, ls1⟩ ⟨k2, x2, .slice e2 n2 d2, l2, s2, es2, ls2⟩ = rbc) := hrbc
  have HLab : Hid (leaksR ⟨k0, x0, .slice e0 n0 d0, l0, s0, es0, ls0⟩ ⟨k1, x1, .slice e1 n1 d1, l1, s1, es1, ls1⟩ = lab) := hlab
  have HLbc : Hid (leaksR ⟨k1, x1, .slice e1 n1 d1, l1, s1, es1, ls1⟩ ⟨k2, x2, .slice e2 n2 d2, l2, s2, es2, ls2⟩ = lbc) := hlbc
  have HPab : Hid (pab = evPre es0 es1) := hpab.symm
  have HPbc : Hid (pbc = evPre es1 es2) := hpbc.symm
  clear hrab hrbc hlab hlbc hpab hpbc
  go_enter Tryd.func6, Tryd.ntmps6
  go_wp2_with fail
  refine (awake_any _ (tab_keep HT.out (by repeat (first | with_reducible exact Below.refl _ _ | with_reducible refine bel_alloc ?_ _ | with_reducible refine bel_set ?_ (by first | exact Nat.le_refl _ | (simp; done) | (simp; omega)) _ | with_reducible refine Below.drew ?_ | refine bel_trans ?_ (by assumption))))).mono ?_
  rintro e w1 ⟨rfl, hb⟩
  have ac0 : w1.cell? ⟨w.heap.size, 0, none⟩ = some (.int .i64 k0) := keep_cell hb (by go_simp)
  have ac1 : w1.cell? ⟨w.heap.size, 1, none⟩ = some (.int .i64 x0) := keep_cell hb (by go_simp)
  have ac2 : w1.cell? ⟨w.heap.size, 2, none⟩ = some (.slice e0 n0 d0) := keep_cell hb (by go_simp)
  have ac3 : w1.cell? ⟨w.heap.size, 3, none⟩ = some (l0) := keep_cell hb (by go_simp)
  have ac4 : w1.cell? ⟨w.heap.size, 4, none⟩ = some (.int .i64 s0) := keep_cell hb (by go_simp)
  have bc0 : w1.cell? ⟨(w.heap.size + 1), 0, none⟩ = some (.int .i64 k1) := keep_cell hb (by go_simp)
  have bc1 : w1.cell? ⟨(w.heap.size + 1), 1, none⟩ = some (.int .i64 x1) := keep_cell hb (by go_simp)
  have bc2 : w1.cell? ⟨(w.heap.size + 1), 2, none⟩ = some (.slice e1 n1 d1) := keep_cell hb (by go_simp)
  have bc3 : w1.cell? ⟨(w.heap.size + 1), 3, none⟩ = some (l1) := keep_cell hb (by go_simp)
  have bc4 : w1.cell? ⟨(w.heap.size + 1), 4, none⟩ = some (.int .i64 s1) := keep_cell hb (by go_simp)
  have cc0 : w1.cell? ⟨(w.heap.size + 1 + 1), 0, none⟩ = some (.int .i64 k2) := keep_cell hb (by go_simp)
  have cc1 : w1.cell? ⟨(w.heap.size + 1 + 1), 1, none⟩ = some (.int .i64 x2) := keep_cell hb (by go_simp)
  have cc2 : w1.cell? ⟨(w.heap.size + 1 + 1), 2, none⟩ = some (.slice e2 n2 d2) := keep_cell hb (by go_simp)
  have cc3 : w1.cell? ⟨(w.heap.size + 1 + 1), 3, none⟩ = some (l2) := keep_cell hb (by go_simp)
  have cc4 : w1.cell? ⟨(w.heap.size + 1 + 1), 4, none⟩ = some (.int .i64 s2) := keep_cell hb (by go_simp)
  have aL : w.heap.size < w1.heap.size := block_lt_of_cell ac0
  have bL : (w.heap.size + 1) < w1.heap.size := block_lt_of_cell bc0
  have cL : (w.heap.size + 1 + 1) < w1.heap.size := block_lt_of_cell cc0
  have HBw : Hid (Below w.heap.size w w1) := (by repeat (first | with_reducible exact Below.refl _ _ | with_reducible refine bel_alloc ?_ _ | with_reducible refine bel_set ?_ (by first | exact Nat.le_refl _ | (simp; done) | (simp; omega)) _ | with_reducible refine Below.drew ?_ | refine bel_trans ?_ (by assumption)))
  clear hb
  have Q0 : Hid (RunAt w1 ⟨k0, x0, .slice e0 n0 d0, l0, s0, es0, ls0⟩) := H0.out.keep HBw.out
  have Q1 : Hid (RunAt w1 ⟨k1, x1, .slice e1 n1 d1, l1, s1, es1, ls1⟩) := H1.out.keep HBw.out
  have Q2 : Hid (RunAt w1 ⟨k2, x2, .slice e2 n2 d2, l2, s2, es2, ls2⟩) := H2.out.keep HBw.out
  go_upto_region 5 with fail
  refine to_r5 k0 x0 s0 e0 n0 d0 l0 es0 ls0 k1 x1 s1 e1 n1 d1 l1 es1 ls1 k2 x2 s2 e2 n2 d2 l2 es2 ls2 w.heap.size (w.heap.size + 1) (w.heap.size + 1 + 1) w1 ac0 ac1 ac2 ac3 ac4 bc0 bc1 bc2 bc3 bc4 cc0 cc1 cc2 cc3 cc4 aL bL cL Q0 Q1 Q2 _ _ _ _ _ _ _ _ _ _ _ _ _ _ _ _ _ _ _ _ _ _ _ _ _ _ _ _ _ _ _ _ _ _ _ _ _ _ _ _ _ _ _ _ _ _ _ _ _ _ _ _ _ _ _ _ _ _ _ _ _ _ _ _ _ _ _ _ _ _ _ _ _ _ _ _ _ _ _ _ _ _ _ _ _ _ _ _ _ _ _ _ _ _ _ _ _ _ _ _ _ _ _ _ _ _ _ _ _ _ _ _ _ _ _ _ lab lbc rab rbc HLab HLbc HRab HRbc _ _ (fun y25y y26y y27y y28y y29y y30y y31y y32y y33y y34y y35y y36y y37y y38y y39y y40y y41y y42y y43y y44y y45y y46y y47y y48y y49y y50y y51y y52y y53y w2 hb2 => ?_)
  replace ac0 := keep_cell hb2 ac0
  replace ac1 := keep_cell hb2 ac1
  replace ac2 := keep_cell hb2 ac2
  replace ac3 := keep_cell hb2 ac3
  replace ac4 := keep_cell hb2 ac4
  replace bc0 := keep_cell hb2 bc0
  replace bc1 := keep_cell hb2 bc1
  replace bc2 := keep_cell hb2 bc2
  replace bc3 := keep_cell hb2 bc3
  replace bc4 := keep_cell hb2 bc4
  replace cc0 := keep_cell hb2 cc0
  replace cc1 := keep_cell hb2 cc1
  replace cc2 := keep_cell hb2 cc2
  replace cc3 := keep_cell hb2 cc3
  replace cc4 := keep_cell hb2 cc4
  replace aL := Nat.lt_of_lt_of_le aL hb2.size
  replace bL := Nat.lt_of_lt_of_le bL hb2.size
  replace cL := Nat.lt_of_lt_of_le cL hb2.size
  replace Q0 : Hid (RunAt w2 ⟨k0, x0, .slice e0 n0 d0, l0, s0, es0, ls0⟩) := Q0.out.keep hb2
  replace Q1 : Hid (RunAt w2 ⟨k1, x1, .slice e1 n1 d1, l1, s1, es1, ls1⟩) := Q1.out.keep hb2
  replace Q2 : Hid (RunAt w2 ⟨k2, x2, .slice e2 n2 d2, l2, s2, es2, ls2⟩) := Q2.out.keep hb2
  replace HBw : Hid (Below w.heap.size w w2) := bel_trans HBw.out hb2
  clear hb2
  go_upto_region 7 with fail
  refine to_r7 k0 x0 s0 e0 n0 d0 l0 es0 ls0 k1 x1 s1 e1 n1 d1 l1 es1 ls1 k2 x2 s2 e2 n2 d2 l2 es2 ls2 w.heap.size (w.heap.size + 1) (w.heap.size + 1 + 1) w2 ac0 ac1 ac2 ac3 ac4 bc0 bc1 bc2 bc3 bc4 cc0 cc1 cc2 cc3 cc4 aL bL cL Q0 Q1 Q2 _ _ _ _ _ _ _ _ _ _ _ _ _ _ _ _ _ _ _ _ _ _ _ _ _ _ _ _ _ _ _ _ _ _ _ _ _ _ _ _ _ _ _ _ _ _ _ _ _ _ _ _ _ _ _ _ _ _ _ _ _ _ _ _ _ _ _ _ _ _ _ _ _ _ _ _ _ _ _ _ _ _ _ _ _ _ _ _ _ _ _ _ _ _ _ _ _ _ _ _ _ _ _ _ _ _ _ _ _ _ _ _ _ _ _ _ pab pbc HPab HPbc _ _ (fun y55y y56y y57y y58y y59y y60y y61y y62y y63y y64y y65y y66y y67y y68y y69y y70y y71y y72y y73y w3 hb3 => ?_)
  replace ac0 := keep_cell hb3 ac0
  replace ac1 := keep_cell hb3 ac1
  replace ac2 := keep_cell hb3 ac2
  replace ac3 := keep_cell hb3 ac3
  replace ac4 := keep_cell hb3 ac4
  replace bc0 := keep_cell hb3 bc0
  replace bc1 := keep_cell hb3 bc1
  replace bc2 := keep_cell hb3 bc2
  replace bc3 := keep_cell hb3 bc3
  replace bc4 := keep_cell hb3 bc4
  replace cc0 := keep_cell hb3 cc0
  replace cc1 := keep_cell hb3 cc1
  replace cc2 := keep_cell hb3 cc2
  replace cc3 := keep_cell hb3 cc3
  replace cc4 := keep_cell hb3 cc4
  replace aL := Nat.lt_of_lt_of_le aL hb3.size
  replace bL := Nat.lt_of_lt_of_le bL hb3.size
  replace cL := Nat.lt_of_lt_of_le cL hb3.size
  replace Q0 : Hid (RunAt w3 ⟨k0, x0, .slice e0 n0 d0, l0, s0, es0, ls0⟩) := Q0.out.keep hb3
  replace Q1 : Hid (RunAt w3 ⟨k1, x1, .slice e1 n1 d1, l1, s1, es1, ls1⟩) := Q1.out.keep hb3
  replace Q2 : Hid (RunAt w3 ⟨k2, x2, .slice e2 n2 d2, l2, s2, es2, ls2⟩) := Q2.out.keep hb3
  replace HBw : Hid (Below w.heap.size w w3) := bel_trans HBw.out hb3
  clear hb3
  go_upto_region 9 with fail
  refine to_r9 k0 x0 s0 e0 n0 d0 l0 es0 ls0 k1 x1 s1 e1 n1 d1 l1 es1 ls1 k2 x2 s2 e2 n2 d2 l2 es2 ls2 w.heap.size (w.heap.size + 1) (w.heap.size + 1 + 1) w3 ac0 ac1 ac2 ac3 ac4 bc0 bc1 bc2 bc3 bc4 cc0 cc1 cc2 cc3 cc4 aL bL cL Q0 Q1 Q2 _ _ _ _ _ _ _ _ _ _ _ _ _ _ _ _ _ _ _ _ _ _ _ _ _ _ _ _ _ _ _ _ _ _ _ _ _ _ _ _ _ _ _ _ _ _ _ _ _ _ _ _ _ _ _ _ _ _ _ _ _ _ _ _ _ _ _ _ _ _ _ _ _ _ _ _ _ _ _ _ _ _ _ _ _ _ _ _ _ _ _ _ _ _ _ _ _ _ _ _ _ _ _ _ _ _ _ _ _ _ _ _ _ _ _ _ rab HRab _ _ (by intro c a d v x h; cases d <;> exact h) (fun y75y y76y y77y y78y y79y y80y y81y y82y y83y y84y y85y y86y y87y y88y y89y y90y y91y y92y y93y y94y y95y y96y y97y y98y y99y y100y y101y y102y y103y y104y y105y y106y y107y y108y y109y y110y y111y y112y y113y y114y y115y y116y y117y y118y w4 hb4 => ?_)
  have HBf : Hid (Below w.heap.size w w4) := bel_trans HBw.out hb4
  clear hb4
  go_wp2
  go_ret
  exact ⟨rfl, HBf.out⟩
theorem traceOrder_walk (A B C : RD) (w : World) (h0 : RunAt w A) (h1 : RunAt w B) (h2 : RunAt w C) (ht : Tab w) : Calls Tryd.prog 6 #[A.v, B.v, C.v] w (retP (.bool true) w) := by
  obtain ⟨e0, n0, d0, he0, hn0, hm0⟩ := h0.shape
  obtain ⟨e1, n1, d1, he1, hn1, hm1⟩ := h1.shape
  obtain ⟨e2, n2, d2, he2, hn2, hm2⟩ := h2.shape
  obtain ⟨k0, x0, ev0, l0, s0, es0, ls0⟩ := A
  obtain ⟨k1, x1, ev1, l1, s1, es1, ls1⟩ := B
  obtain ⟨k2, x2, ev2, l2, s2, es2, ls2⟩ := C
  simp only [] at he0 he1 he2
  subst he0 he1 he2
  by_cases h : 100 < n0 ∨ 100 < n1 ∨ 100 < n2
  · exact traceOrder_long k0 x0 s0 e0 n0 d0 l0 es0 ls0 k1 x1 s1 e1 n1 d1 l1 es1 ls1 k2 x2 s2 e2 n2 d2 l2 es2 ls2 w h0 h1 h2 ht hm0 hm1 hm2 h
  · exact traceOrder_short k0 x0 s0 e0 n0 d0 l0 es0 ls0 k1 x1 s1 e1 n1 d1 l1 es1 ls1 k2 x2 s2 e2 n2 d2 l2 es2 ls2 w h0 h1 h2 ht (by omega) (by omega) (by omega)

set_option maxRecDepth 100000 in
theorem traceOrder_lifted (os : Os) (started : os.Started) (H : Type) (enc : TypeId × Value → H) :
    ReturnsInHanded {} Tryd.checked os 6 .any (fun w args => (Rows.traceOrderSpec.pre enc Tryd.prog Tryd.f6 [] false w args ∧ laidMetH Tryd.prog laid3 w) ∧ sizedMet enc Tryd.prog Tryd.f6 (OpenSpec.ofChange Rows.traceOrderSpec) false w args)
      (Rows.traceOrderSpec.post enc Tryd.prog Tryd.f6 false true false false) := by
  refine returnsInHanded_of_change_and (C := Tryd.checked) (X := fun w _ => laidMetH Tryd.prog laid3 w) (fun _ _ _ hh h => h.of_heap hh) own started (by kernel_rfl) Tryd.func6
    (ChangeSpec.witness_shaped (enc := enc) (C := Tryd.checked) (os := os) (X := fun w _ => laidMetH Tryd.prog laid3 w) false (World.doorLaid Tryd.prog 400 os) #[.agg #[.int .i64 0, .int .i64 0, .slice none 0 0, .slice none 0 0, .int .i64 0], .agg #[.int .i64 0, .int .i64 0, .slice none 0 0, .slice none 0 0, .int .i64 0], .agg #[.int .i64 0, .int .i64 0, .slice none 0 0, .slice none 0 0, .int .i64 0]] 8 rfl (World.shaped_of_RefB (by kernel_rfl) (by kernel_rfl)) (by kernel_rfl) (by kernel_rfl) (by kernel_rfl) (door_met os _)) ?_
  intro W base args ds gs before hval0 hW _ _ hL _
  have hval : ∀ (j : Nat) t v, Tryd.f6.params[j]? = some t → args[j]? = some v → Value.okWide Tryd.prog W .any base t v := hval0
  have hW' := hW
  obtain ⟨p, q, hA0, hV, rfl, hfz, hnd⟩ := hW
  have hA : DataW.TrodAll enc Tryd.prog W 0 (fun _ => true) true Tryd.f6.params.toList args.toList ds p := hA0
  rw [Tryd.params6] at hA hval
  obtain ⟨v0, vs0, d0, ds0, p0, q0, hargs, rfl, rfl, h0, r0⟩ := trodAll_cons hA
  obtain ⟨v1, vs1, d1, ds1, p1, q1, rfl, rfl, rfl, h1, r1⟩ := trodAll_cons r0
  obtain ⟨v2, vs2, d2, ds2, p2, q2, rfl, rfl, rfl, h2, r2⟩ := trodAll_cons r1
  obtain ⟨rfl, rfl, rfl⟩ := trodAll_nil r2
  obtain rfl : args = #[v0, v1, v2] := by cases args; simp_all
  obtain ⟨rfl, rfl⟩ := trodVars_none hV
  have hlt0 : ∀ x ∈ p0, x.block < W.heap.size := fun x hx => by simpa using hW'.lt x (by simp [hx])
  have hargs0 : ∀ (W' : World), Below W.heap.size W W' → DataW.Trod enc Tryd.prog W' 0 (fun b => decide (b < W.heap.size)) true 27 v0 d0 p0 := fun W' hn => Below.trod laidOut (by kernel_rfl) (of_decide_eq_true (by kernel_rfl)) h0 hn hlt0
  obtain ⟨R0, hv0, a0, o0, wk0, wx0⟩ := open_run (hval 0 27 v0 rfl rfl) h0
  subst hv0
  have hlt1 : ∀ x ∈ p1, x.block < W.heap.size := fun x hx => by simpa using hW'.lt x (by simp [hx])
  have hargs1 : ∀ (W' : World), Below W.heap.size W W' → DataW.Trod enc Tryd.prog W' 0 (fun b => decide (b < W.heap.size)) true 27 v1 d1 p1 := fun W' hn => Below.trod laidOut (by kernel_rfl) (of_decide_eq_true (by kernel_rfl)) h1 hn hlt1
  obtain ⟨R1, hv1, a1, o1, wk1, wx1⟩ := open_run (hval 1 27 v1 rfl rfl) h1
  subst hv1
  have hlt2 : ∀ x ∈ p2, x.block < W.heap.size := fun x hx => by simpa using hW'.lt x (by simp [hx])
  have hargs2 : ∀ (W' : World), Below W.heap.size W W' → DataW.Trod enc Tryd.prog W' 0 (fun b => decide (b < W.heap.size)) true 27 v2 d2 p2 := fun W' hn => Below.trod laidOut (by kernel_rfl) (of_decide_eq_true (by kernel_rfl)) h2 hn hlt2
  obtain ⟨R2, hv2, a2, o2, wk2, wx2⟩ := open_run (hval 2 27 v2 rfl rfl) h2
  subst hv2
  clear hA0 hval0
  simp only [List.append_nil] at hW'
  refine (traceOrder_walk R0 R1 R2 W a0 a1 a2 (tab_of_laid hL)).mono fun e W' ⟨he, hb⟩ => ?_
  subst he
  exact ⟨_, rfl, _, _, _, [], _, [], hW', (trodAll_cons_mk (shut_bool Tryd.underlying4 _) trodAll_mk0), (trodAll_cons_mk (hargs0 _ hb) (trodAll_cons_mk (hargs1 _ hb) (trodAll_cons_mk (hargs2 _ hb) trodAll_mk0))), rfl, hb.frame _, fun h => by cases h⟩

theorem traceOrder_row : Rows.TraceOrderSaid :=
  OpenClaim.holds_of_wide 6 Tryd.f6 rfl rfl rfl rfl rfl rfl rfl ⟨rfl, rfl, rfl, rfl, rfl⟩ rfl rfl rfl rfl rfl (by kernel_rfl) Tryd.func6 (by kernel_rfl)
    (of_decide_eq_true (by kernel_rfl)) (by unfold Func.isWrapper; first | (rw [if_pos (by decide +kernel)]; kernel_rfl) | (rw [if_neg (by decide +kernel)]; exact ⟨rfl, rfl⟩))
    (fun os started H enc _ => traceOrder_lifted os started H enc)

/-- THE STATEMENT. -/
theorem traceOrder_holds : Rows.TraceOrderCardSaid :=
  Claim7.holds_tied_plain_at .later [] [.data, .data, .data] true (true, "1eda6df1707c50841f6cd8d75dc7a6165e0984391ccf47f29fcd572f8f1e9166") false
    traceOrder_row (fun _ h => by cases h) (by kernel_rfl) (fun _ h => by cases h) traceOrder_row_tie rfl ⟨rfl, rfl⟩ (by kernel_rfl) rfl
    (fun f fn hf hfn => by
      obtain rfl : f = 6 := Option.some.inj ((show Tryd.prog.funcNamed "plumbob/plumboblaw3.TraceOrder" = some 6 by kernel_rfl).symm.trans hf) |>.symm
      obtain rfl : fn = Tryd.f6 := (Option.some.inj (Tryd.func6.symm.trans hfn)).symm
      exact ⟨by kernel_rfl, fun j t ht => by
        rw [Tryd.params6] at ht
        have hm : t ∈ [27, 27, 27] := by simpa using Array.mem_of_getElem? ht
        have hall : ([27, 27, 27].all fun u => !Tryd.prog.wantsStandIn u) = true := by kernel_rfl
        exact (show Tryd.prog.wantsStandIn t = false by simpa using List.all_eq_true.1 hall t hm)⟩)
    (by kernel_rfl)
#print axioms traceOrder_holds

end Go.Proofs.YtokdnjnkgflbcaaDoor
