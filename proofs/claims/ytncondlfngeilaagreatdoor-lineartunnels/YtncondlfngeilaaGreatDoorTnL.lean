
import Derived.Test.YtncondlfngeilaaGreatDoorTzA
import Derived.Test.YtncondlfngeilaaGreatDoorTnU
import Derived.Test.YtncondlfngeilaaGreatDoorTnC4
namespace Go.Proofs.YtncondlfngeilaaGreatDoor
open Go.ChangeShapes Go.WideShapes Go.ChangeAt Go.RowKit Go.Proofs.Tryz
set_option linter.unusedSimpArgs false
set_option linter.unusedVariables false
set_option maxRecDepth 100000
set_option maxHeartbeats 16000000

noncomputable def lwR16 : Code := ((Tryz.f3.body.bind (regionNS 16)).getD .skip)
theorem lw_r16 (FB HB CB cb co n cap cc i s r : Nat) (fname : ByteArray) (pa : Option Addr) (pn pc : Nat) (regs frm ent old : Int) (z0z z2z z4z z5z z7z z8z z9z z10z z11z z12z z13z z14z z15z z16z z17z z18z z19z z20z z21z z22z z23z z24z z25z z26z z27z z28z z29z z30z z31z z32z z33z z34z z35z z36z z37z z38z z39z z40z z41z z42z z43z z44z z45z z46z z47z z48z z49z z50z z51z z52z z53z z54z z55z z56z z57z z58z z59z z60z z61z z62z z63z z64z z65z z66z z67z z68z z69z z70z z71z z72z z73z z74z z75z z76z z77z z78z z79z z80z z81z z82z z83z z84z z85z z86z z87z z88z z89z z90z z91z z92z z93z z94z z95z z96z z97z z98z z99z z100z z101z z102z : Value) (DF : List Deferred) (Q0 : Exit → Act → World → Prop) (W : World)
  (hQ0 : ∀ c (a : Act) (dd : Option Tmp) v x, Q0 (.panic c) (a.put dd v) x → Q0 (.panic c) a x)
  (h5 : W.cell? ⟨HB, 5, none⟩ = some (.slice (some ⟨CB, 0, none⟩) n cc)) (f0 : W.cell? ⟨FB, 0, none⟩ = some (.string fname)) (f1 : W.cell? ⟨FB, 1, none⟩ = some (.slice pa pn pc)) (f2 : W.cell? ⟨FB, 2, none⟩ = some (.int .i64 regs)) (f3 : W.cell? ⟨FB, 3, none⟩ = some (.int .i64 frm)) (f4 : W.cell? ⟨FB, 4, none⟩ = some (.int .i64 ent)) (f5 : W.cell? ⟨FB, 5, none⟩ = some (.slice (some ⟨cb, co, none⟩) n cap)) (cs : W.cell? ⟨cb, co + i * 9 + 7, none⟩ = some (.int .i64 (s : Int))) (tc : W.cell? ⟨CB, i * 9 + 7, none⟩ = some (.int .i64 old)) (tz : W.frozen? ⟨CB, i * 9 + 7, none⟩ = false)
  (j0 : (0 : Int) ≤ i) (j1 : (i : Int) < n) (NH : Hid (HB ≠ CB ∧ FB ≠ CB ∧ cb ≠ CB)) (HGO : Hid (∀ W', Below W.heap.size W W' → Calls prog 9 #[.agg #[.string fname, .slice pa pn pc, .int .i64 regs, .int .i64 frm, .int .i64 ent, .slice (some ⟨cb, co, none⟩) n cap], .int .i64 (s : Int)] W' (retP (.int .i64 (r : Int)) W')))
  (HK : Hid (∀ y63 y64 y65 y66 y67 y68 y69 y70 y71 y72 y73 y74 y75 W', Below W.heap.size W W' → Q0 .normal ⟨#[z0z, .pointer (some ⟨FB, 0, none⟩), z2z, .pointer (some ⟨HB, 0, none⟩), z4z, z5z, .int .i64 (i : Int), z7z, z8z, z9z, z10z, z11z, z12z, z13z, z14z, z15z, z16z, z17z, z18z, z19z, z20z, z21z, z22z, z23z, z24z, z25z, z26z, z27z, z28z, z29z, z30z, z31z, z32z, z33z, z34z, z35z, z36z, z37z, z38z, z39z, z40z, z41z, z42z, z43z, z44z, z45z, z46z, z47z, z48z, z49z, z50z, z51z, z52z, z53z, z54z, z55z, z56z, z57z, z58z, z59z, z60z, z61z, z62z, y63, y64, y65, y66, y67, y68, y69, y70, y71, y72, y73, y74, y75, z76z, z77z, z78z, z79z, z80z, z81z, z82z, z83z, z84z, z85z, z86z, z87z, z88z, z89z, z90z, z91z, z92z, z93z, z94z, z95z, z96z, z97z, z98z, z99z, z100z, z101z, z102z], DF⟩ (W'.setCell ⟨CB, i * 9 + 7, none⟩ (.int .i64 (r : Int))))) :
  Code.wp prog lwR16 Q0 ⟨#[z0z, .pointer (some ⟨FB, 0, none⟩), z2z, .pointer (some ⟨HB, 0, none⟩), z4z, z5z, .int .i64 (i : Int), z7z, z8z, z9z, z10z, z11z, z12z, z13z, z14z, z15z, z16z, z17z, z18z, z19z, z20z, z21z, z22z, z23z, z24z, z25z, z26z, z27z, z28z, z29z, z30z, z31z, z32z, z33z, z34z, z35z, z36z, z37z, z38z, z39z, z40z, z41z, z42z, z43z, z44z, z45z, z46z, z47z, z48z, z49z, z50z, z51z, z52z, z53z, z54z, z55z, z56z, z57z, z58z, z59z, z60z, z61z, z62z, z63z, z64z, z65z, z66z, z67z, z68z, z69z, z70z, z71z, z72z, z73z, z74z, z75z, z76z, z77z, z78z, z79z, z80z, z81z, z82z, z83z, z84z, z85z, z86z, z87z, z88z, z89z, z90z, z91z, z92z, z93z, z94z, z95z, z96z, z97z, z98z, z99z, z100z, z101z, z102z], DF⟩ W := by
 conv => arg 2; whnf
 refine wp_region_held_drew (S := (fun w' => w'.cell? ⟨HB, 5, none⟩ = some (.slice (some ⟨CB, 0, none⟩) n cc) ∧ w'.cell? ⟨FB, 0, none⟩ = some (.string fname) ∧ w'.cell? ⟨FB, 1, none⟩ = some (.slice pa pn pc) ∧ w'.cell? ⟨FB, 2, none⟩ = some (.int .i64 regs) ∧ w'.cell? ⟨FB, 3, none⟩ = some (.int .i64 frm) ∧ w'.cell? ⟨FB, 4, none⟩ = some (.int .i64 ent) ∧ w'.cell? ⟨FB, 5, none⟩ = some (.slice (some ⟨cb, co, none⟩) n cap) ∧ w'.cell? ⟨cb, co + i * 9 + 7, none⟩ = some (.int .i64 (s : Int)))) (by kernel_rfl) (⟨h5, f0, f1, f2, f3, f4, f5, cs⟩) (fun hHeld => ?_);refine wpAnyH_take (i := 0) (oi := ?o0) (v := ?v0) ?i0 (by kernel_rfl) (by kernel_rfl) (by kernel_rfl) ?q0 ?y0 hHeld ?_
 case i0 => simp only [zga, zgs, zgz]; rfl
 case q0 => exact fun _ _ _ h => hQ0 _ _ _ _ _ h
 case y0 => refine .inl ⟨by rfl, ?_⟩; intro w' hSw; (try dsimp only at hSw); go_simp; try with_reducible rfl
 simp only [Act.put, zsa, zsz, zss];refine wpAnyH_take (i := 1) (oi := ?o1) (v := ?v1) ?i1 (by kernel_rfl) (by kernel_rfl) (by kernel_rfl) ?q1 ?y1 hHeld ?_
 case i1 => simp only [zga, zgs, zgz]; rfl
 case q1 => exact fun _ _ _ h => hQ0 _ _ _ _ _ h
 case y1 => refine .inl ⟨by rfl, ?_⟩; intro w' hSw; (try dsimp only at hSw); go_simp; try with_reducible rfl
 simp only [Act.put, zsa, zsz, zss];refine wpAnyH_take (i := 2) (oi := ?o2) (v := ?v2) ?i2 (by kernel_rfl) (by kernel_rfl) (by kernel_rfl) ?q2 ?y2 hHeld ?_
 case i2 => simp only [zga, zgs, zgz]; rfl
 case q2 => exact fun _ _ _ h => hQ0 _ _ _ _ _ h
 case y2 => refine .inl ⟨by rfl, ?_⟩; intro w' hSw; (try dsimp only at hSw); go_simp; try with_reducible rfl
 simp only [Act.put, zsa, zsz, zss];refine wpAnyH_take (i := 3) (oi := ?o3) (v := ?v3) ?i3 (by kernel_rfl) (by kernel_rfl) (by kernel_rfl) ?q3 ?y3 hHeld ?_
 case i3 => simp only [zga, zgs, zgz]; rfl
 case q3 => exact fun _ _ _ h => hQ0 _ _ _ _ _ h
 case y3 => refine .inl ⟨by rfl, ?_⟩; intro w' hSw; (try dsimp only at hSw); go_simp; try with_reducible rfl
 simp only [Act.put, zsa, zsz, zss];refine wpAnyH_take (i := 4) (oi := ?o4) (v := ?v4) ?i4 (by kernel_rfl) (by kernel_rfl) (by kernel_rfl) ?q4 ?y4 hHeld ?_
 case i4 => simp only [zga, zgs, zgz]; rfl
 case q4 => exact fun _ _ _ h => hQ0 _ _ _ _ _ h
 case y4 => refine .inl ⟨by rfl, ?_⟩; intro w' hSw; (try dsimp only at hSw); go_simp; try with_reducible rfl
 simp only [Act.put, zsa, zsz, zss];refine wpAnyH_take (i := 5) (oi := ?o5) (v := ?v5) ?i5 (by kernel_rfl) (by kernel_rfl) (by kernel_rfl) ?q5 ?y5 hHeld ?_
 case i5 => simp only [zga, zgs, zgz]; rfl
 case q5 => exact fun _ _ _ h => hQ0 _ _ _ _ _ h
 case y5 => refine .inl ⟨by rfl, ?_⟩; intro w' hSw; (try dsimp only at hSw); go_simp; try with_reducible rfl
 simp only [Act.put, zsa, zsz, zss];refine wpAnyH_take (i := 6) (oi := ?o6) (v := ?v6) ?i6 (by kernel_rfl) (by kernel_rfl) (by kernel_rfl) ?q6 ?y6 hHeld ?_
 case i6 => simp only [zga, zgs, zgz]; rfl
 case q6 => exact fun _ _ _ h => hQ0 _ _ _ _ _ h
 case y6 => refine .inl ⟨by rfl, ?_⟩; intro w' hSw; (try dsimp only at hSw); go_simp; try with_reducible rfl
 simp only [Act.put, zsa, zsz, zss];refine wpAnyH_take (i := 7) (oi := ?o7) (v := ?v7) ?i7 (by kernel_rfl) (by kernel_rfl) (by kernel_rfl) ?q7 ?y7 hHeld ?_
 case i7 => simp only [zga, zgs, zgz]; rfl
 case q7 => exact fun _ _ _ h => hQ0 _ _ _ _ _ h
 case y7 => refine .inl ⟨by rfl, ?_⟩; intro w' hSw; (try dsimp only at hSw); go_simp; try with_reducible rfl
 simp only [Act.put, zsa, zsz, zss];refine wpAnyH_take (i := 8) (oi := ?o8) (v := ?v8) ?i8 (by kernel_rfl) (by kernel_rfl) (by kernel_rfl) ?q8 ?y8 hHeld ?_
 case i8 => simp only [zga, zgs, zgz]; rfl
 case q8 => exact fun _ _ _ h => hQ0 _ _ _ _ _ h
 case y8 => refine .inl ⟨by rfl, ?_⟩; intro w' hSw; (try dsimp only at hSw); go_simp; try with_reducible rfl
 simp only [Act.put, zsa, zsz, zss];refine wpAnyH_take (i := 9) (oi := ?o9) (v := ?v9) ?i9 (by kernel_rfl) (by kernel_rfl) (by kernel_rfl) ?q9 ?y9 hHeld ?_
 case i9 => simp only [zga, zgs, zgz]; rfl
 case q9 => exact fun _ _ _ h => hQ0 _ _ _ _ _ h
 case y9 => refine .inl ⟨by rfl, ?_⟩; intro w' hSw; (try dsimp only at hSw); go_simp; try with_reducible rfl
 simp only [Act.put, zsa, zsz, zss];refine zr (r := 10) (o := ?o10) (by kernel_rfl) ?i10 (fun K hK => ?g10)
 case i10 => simp only [zga, zgs, zgz]; rfl
 case g10 =>
  go_simp;refine (HGO.out _ (Below.drew (Below.refl _ _))).mono ?_;rintro e v1 ⟨rfl, hb1⟩;have HB1 : Hid (Below W.heap.size W v1) := bel_trans (Below.drew (Below.refl _ _)) hb1;have tc1 := keep_cell HB1.out tc;have tz1 := keep_frozen HB1.out tc tz;go_wp2_with fail
  refine hK.out _ _ (⟨keep_cell hb1 hHeld.1, keep_cell hb1 hHeld.2.1, keep_cell hb1 hHeld.2.2.1, keep_cell hb1 hHeld.2.2.2.1, keep_cell hb1 hHeld.2.2.2.2.1, keep_cell hb1 hHeld.2.2.2.2.2.1, keep_cell hb1 hHeld.2.2.2.2.2.2.1, keep_cell hb1 hHeld.2.2.2.2.2.2.2⟩) (fun hN => ?_);clear hK K hHeld;have hHeld := hN;clear hN
  try simp only [Act.put, zsa, zsz, zss]
  refine wpAnyH_take (i := 11) (oi := ?o11) (v := ?v11) ?i11 (by kernel_rfl) (by kernel_rfl) (by kernel_rfl) ?q11 ?y11 hHeld ?_
  case i11 => simp only [zga, zgs, zgz]; rfl
  case q11 => exact fun _ _ _ h => hQ0 _ _ _ _ _ h
  case y11 => refine .inl ⟨by rfl, ?_⟩; intro w' hSw; (try dsimp only at hSw); go_simp; try with_reducible rfl
  simp only [Act.put, zsa, zsz, zss];refine wpAnyH_take (i := 12) (oi := ?o12) (v := ?v12) ?i12 (by kernel_rfl) (by kernel_rfl) (by kernel_rfl) ?q12 ?y12 hHeld ?_
  case i12 => simp only [zga, zgs, zgz]; rfl
  case q12 => exact fun _ _ _ h => hQ0 _ _ _ _ _ h
  case y12 => refine .inl ⟨by rfl, ?_⟩; intro w' hSw; (try dsimp only at hSw); go_simp; try with_reducible rfl
  simp only [Act.put, zsa, zsz, zss];refine zr (r := 13) (o := ?o13) (by kernel_rfl) ?i13 (fun K hK => ?g13)
  case i13 => simp only [zga, zgs, zgz]; rfl
  case g13 =>
   go_simp;refine hK.out _ _ (⟨keep_set hHeld.1 (by first | exact NH.out.1 | exact NH.out.2.1 | exact NH.out.2.2), keep_set hHeld.2.1 (by first | exact NH.out.1 | exact NH.out.2.1 | exact NH.out.2.2), keep_set hHeld.2.2.1 (by first | exact NH.out.1 | exact NH.out.2.1 | exact NH.out.2.2), keep_set hHeld.2.2.2.1 (by first | exact NH.out.1 | exact NH.out.2.1 | exact NH.out.2.2), keep_set hHeld.2.2.2.2.1 (by first | exact NH.out.1 | exact NH.out.2.1 | exact NH.out.2.2), keep_set hHeld.2.2.2.2.2.1 (by first | exact NH.out.1 | exact NH.out.2.1 | exact NH.out.2.2), keep_set hHeld.2.2.2.2.2.2.1 (by first | exact NH.out.1 | exact NH.out.2.1 | exact NH.out.2.2), keep_set hHeld.2.2.2.2.2.2.2 (by first | exact NH.out.1 | exact NH.out.2.1 | exact NH.out.2.2)⟩) (fun hN => ?_);clear hK K hHeld;have hHeld := hN;clear hN
   try simp only [Act.put, zsa, zsz, zss]
   refine wpAnyH_done (by kernel_rfl) ?_ _;exact HK.out _ _ _ _ _ _ _ _ _ _ _ _ _ v1 HB1.out

noncomputable def lwR18 : Code := ((Tryz.f3.body.bind (regionNS 18)).getD .skip)
theorem lw_r18 (FB HB CB cb co n cap cc i s r : Nat) (fname : ByteArray) (pa : Option Addr) (pn pc : Nat) (regs frm ent old : Int) (z0z z2z z4z z5z z7z z8z z9z z10z z11z z12z z13z z14z z15z z16z z17z z18z z19z z20z z21z z22z z23z z24z z25z z26z z27z z28z z29z z30z z31z z32z z33z z34z z35z z36z z37z z38z z39z z40z z41z z42z z43z z44z z45z z46z z47z z48z z49z z50z z51z z52z z53z z54z z55z z56z z57z z58z z59z z60z z61z z62z z63z z64z z65z z66z z67z z68z z69z z70z z71z z72z z73z z74z z75z z76z z77z z78z z79z z80z z81z z82z z83z z84z z85z z86z z87z z88z z89z z90z z91z z92z z93z z94z z95z z96z z97z z98z z99z z100z z101z z102z : Value) (DF : List Deferred) (Q0 : Exit → Act → World → Prop) (W : World)
  (hQ0 : ∀ c (a : Act) (dd : Option Tmp) v x, Q0 (.panic c) (a.put dd v) x → Q0 (.panic c) a x)
  (h5 : W.cell? ⟨HB, 5, none⟩ = some (.slice (some ⟨CB, 0, none⟩) n cc)) (f0 : W.cell? ⟨FB, 0, none⟩ = some (.string fname)) (f1 : W.cell? ⟨FB, 1, none⟩ = some (.slice pa pn pc)) (f2 : W.cell? ⟨FB, 2, none⟩ = some (.int .i64 regs)) (f3 : W.cell? ⟨FB, 3, none⟩ = some (.int .i64 frm)) (f4 : W.cell? ⟨FB, 4, none⟩ = some (.int .i64 ent)) (f5 : W.cell? ⟨FB, 5, none⟩ = some (.slice (some ⟨cb, co, none⟩) n cap)) (cs : W.cell? ⟨cb, co + i * 9 + 8, none⟩ = some (.int .i64 (s : Int))) (tc : W.cell? ⟨CB, i * 9 + 8, none⟩ = some (.int .i64 old)) (tz : W.frozen? ⟨CB, i * 9 + 8, none⟩ = false)
  (j0 : (0 : Int) ≤ i) (j1 : (i : Int) < n) (NH : Hid (HB ≠ CB ∧ FB ≠ CB ∧ cb ≠ CB)) (HGO : Hid (∀ W', Below W.heap.size W W' → Calls prog 9 #[.agg #[.string fname, .slice pa pn pc, .int .i64 regs, .int .i64 frm, .int .i64 ent, .slice (some ⟨cb, co, none⟩) n cap], .int .i64 (s : Int)] W' (retP (.int .i64 (r : Int)) W')))
  (HK : Hid (∀ y83 y84 y85 y86 y87 y88 y89 y90 y91 y92 y93 y94 y95 W', Below W.heap.size W W' → Q0 .normal ⟨#[z0z, .pointer (some ⟨FB, 0, none⟩), z2z, .pointer (some ⟨HB, 0, none⟩), z4z, z5z, .int .i64 (i : Int), z7z, z8z, z9z, z10z, z11z, z12z, z13z, z14z, z15z, z16z, z17z, z18z, z19z, z20z, z21z, z22z, z23z, z24z, z25z, z26z, z27z, z28z, z29z, z30z, z31z, z32z, z33z, z34z, z35z, z36z, z37z, z38z, z39z, z40z, z41z, z42z, z43z, z44z, z45z, z46z, z47z, z48z, z49z, z50z, z51z, z52z, z53z, z54z, z55z, z56z, z57z, z58z, z59z, z60z, z61z, z62z, z63z, z64z, z65z, z66z, z67z, z68z, z69z, z70z, z71z, z72z, z73z, z74z, z75z, z76z, z77z, z78z, z79z, z80z, z81z, z82z, y83, y84, y85, y86, y87, y88, y89, y90, y91, y92, y93, y94, y95, z96z, z97z, z98z, z99z, z100z, z101z, z102z], DF⟩ (W'.setCell ⟨CB, i * 9 + 8, none⟩ (.int .i64 (r : Int))))) :
  Code.wp prog lwR18 Q0 ⟨#[z0z, .pointer (some ⟨FB, 0, none⟩), z2z, .pointer (some ⟨HB, 0, none⟩), z4z, z5z, .int .i64 (i : Int), z7z, z8z, z9z, z10z, z11z, z12z, z13z, z14z, z15z, z16z, z17z, z18z, z19z, z20z, z21z, z22z, z23z, z24z, z25z, z26z, z27z, z28z, z29z, z30z, z31z, z32z, z33z, z34z, z35z, z36z, z37z, z38z, z39z, z40z, z41z, z42z, z43z, z44z, z45z, z46z, z47z, z48z, z49z, z50z, z51z, z52z, z53z, z54z, z55z, z56z, z57z, z58z, z59z, z60z, z61z, z62z, z63z, z64z, z65z, z66z, z67z, z68z, z69z, z70z, z71z, z72z, z73z, z74z, z75z, z76z, z77z, z78z, z79z, z80z, z81z, z82z, z83z, z84z, z85z, z86z, z87z, z88z, z89z, z90z, z91z, z92z, z93z, z94z, z95z, z96z, z97z, z98z, z99z, z100z, z101z, z102z], DF⟩ W := by
 conv => arg 2; whnf
 refine wp_region_held_drew (S := (fun w' => w'.cell? ⟨HB, 5, none⟩ = some (.slice (some ⟨CB, 0, none⟩) n cc) ∧ w'.cell? ⟨FB, 0, none⟩ = some (.string fname) ∧ w'.cell? ⟨FB, 1, none⟩ = some (.slice pa pn pc) ∧ w'.cell? ⟨FB, 2, none⟩ = some (.int .i64 regs) ∧ w'.cell? ⟨FB, 3, none⟩ = some (.int .i64 frm) ∧ w'.cell? ⟨FB, 4, none⟩ = some (.int .i64 ent) ∧ w'.cell? ⟨FB, 5, none⟩ = some (.slice (some ⟨cb, co, none⟩) n cap) ∧ w'.cell? ⟨cb, co + i * 9 + 8, none⟩ = some (.int .i64 (s : Int)))) (by kernel_rfl) (⟨h5, f0, f1, f2, f3, f4, f5, cs⟩) (fun hHeld => ?_);refine wpAnyH_take (i := 0) (oi := ?o0) (v := ?v0) ?i0 (by kernel_rfl) (by kernel_rfl) (by kernel_rfl) ?q0 ?y0 hHeld ?_
 case i0 => simp only [zga, zgs, zgz]; rfl
 case q0 => exact fun _ _ _ h => hQ0 _ _ _ _ _ h
 case y0 => refine .inl ⟨by rfl, ?_⟩; intro w' hSw; (try dsimp only at hSw); go_simp; try with_reducible rfl
 simp only [Act.put, zsa, zsz, zss];refine wpAnyH_take (i := 1) (oi := ?o1) (v := ?v1) ?i1 (by kernel_rfl) (by kernel_rfl) (by kernel_rfl) ?q1 ?y1 hHeld ?_
 case i1 => simp only [zga, zgs, zgz]; rfl
 case q1 => exact fun _ _ _ h => hQ0 _ _ _ _ _ h
 case y1 => refine .inl ⟨by rfl, ?_⟩; intro w' hSw; (try dsimp only at hSw); go_simp; try with_reducible rfl
 simp only [Act.put, zsa, zsz, zss];refine wpAnyH_take (i := 2) (oi := ?o2) (v := ?v2) ?i2 (by kernel_rfl) (by kernel_rfl) (by kernel_rfl) ?q2 ?y2 hHeld ?_
 case i2 => simp only [zga, zgs, zgz]; rfl
 case q2 => exact fun _ _ _ h => hQ0 _ _ _ _ _ h
 case y2 => refine .inl ⟨by rfl, ?_⟩; intro w' hSw; (try dsimp only at hSw); go_simp; try with_reducible rfl
 simp only [Act.put, zsa, zsz, zss];refine wpAnyH_take (i := 3) (oi := ?o3) (v := ?v3) ?i3 (by kernel_rfl) (by kernel_rfl) (by kernel_rfl) ?q3 ?y3 hHeld ?_
 case i3 => simp only [zga, zgs, zgz]; rfl
 case q3 => exact fun _ _ _ h => hQ0 _ _ _ _ _ h
 case y3 => refine .inl ⟨by rfl, ?_⟩; intro w' hSw; (try dsimp only at hSw); go_simp; try with_reducible rfl
 simp only [Act.put, zsa, zsz, zss];refine wpAnyH_take (i := 4) (oi := ?o4) (v := ?v4) ?i4 (by kernel_rfl) (by kernel_rfl) (by kernel_rfl) ?q4 ?y4 hHeld ?_
 case i4 => simp only [zga, zgs, zgz]; rfl
 case q4 => exact fun _ _ _ h => hQ0 _ _ _ _ _ h
 case y4 => refine .inl ⟨by rfl, ?_⟩; intro w' hSw; (try dsimp only at hSw); go_simp; try with_reducible rfl
 simp only [Act.put, zsa, zsz, zss];refine wpAnyH_take (i := 5) (oi := ?o5) (v := ?v5) ?i5 (by kernel_rfl) (by kernel_rfl) (by kernel_rfl) ?q5 ?y5 hHeld ?_
 case i5 => simp only [zga, zgs, zgz]; rfl
 case q5 => exact fun _ _ _ h => hQ0 _ _ _ _ _ h
 case y5 => refine .inl ⟨by rfl, ?_⟩; intro w' hSw; (try dsimp only at hSw); go_simp; try with_reducible rfl
 simp only [Act.put, zsa, zsz, zss];refine wpAnyH_take (i := 6) (oi := ?o6) (v := ?v6) ?i6 (by kernel_rfl) (by kernel_rfl) (by kernel_rfl) ?q6 ?y6 hHeld ?_
 case i6 => simp only [zga, zgs, zgz]; rfl
 case q6 => exact fun _ _ _ h => hQ0 _ _ _ _ _ h
 case y6 => refine .inl ⟨by rfl, ?_⟩; intro w' hSw; (try dsimp only at hSw); go_simp; try with_reducible rfl
 simp only [Act.put, zsa, zsz, zss];refine wpAnyH_take (i := 7) (oi := ?o7) (v := ?v7) ?i7 (by kernel_rfl) (by kernel_rfl) (by kernel_rfl) ?q7 ?y7 hHeld ?_
 case i7 => simp only [zga, zgs, zgz]; rfl
 case q7 => exact fun _ _ _ h => hQ0 _ _ _ _ _ h
 case y7 => refine .inl ⟨by rfl, ?_⟩; intro w' hSw; (try dsimp only at hSw); go_simp; try with_reducible rfl
 simp only [Act.put, zsa, zsz, zss];refine wpAnyH_take (i := 8) (oi := ?o8) (v := ?v8) ?i8 (by kernel_rfl) (by kernel_rfl) (by kernel_rfl) ?q8 ?y8 hHeld ?_
 case i8 => simp only [zga, zgs, zgz]; rfl
 case q8 => exact fun _ _ _ h => hQ0 _ _ _ _ _ h
 case y8 => refine .inl ⟨by rfl, ?_⟩; intro w' hSw; (try dsimp only at hSw); go_simp; try with_reducible rfl
 simp only [Act.put, zsa, zsz, zss];refine wpAnyH_take (i := 9) (oi := ?o9) (v := ?v9) ?i9 (by kernel_rfl) (by kernel_rfl) (by kernel_rfl) ?q9 ?y9 hHeld ?_
 case i9 => simp only [zga, zgs, zgz]; rfl
 case q9 => exact fun _ _ _ h => hQ0 _ _ _ _ _ h
 case y9 => refine .inl ⟨by rfl, ?_⟩; intro w' hSw; (try dsimp only at hSw); go_simp; try with_reducible rfl
 simp only [Act.put, zsa, zsz, zss];refine zr (r := 10) (o := ?o10) (by kernel_rfl) ?i10 (fun K hK => ?g10)
 case i10 => simp only [zga, zgs, zgz]; rfl
 case g10 =>
  go_simp;refine (HGO.out _ (Below.drew (Below.refl _ _))).mono ?_;rintro e v1 ⟨rfl, hb1⟩;have HB1 : Hid (Below W.heap.size W v1) := bel_trans (Below.drew (Below.refl _ _)) hb1;have tc1 := keep_cell HB1.out tc;have tz1 := keep_frozen HB1.out tc tz;go_wp2_with fail
  refine hK.out _ _ (⟨keep_cell hb1 hHeld.1, keep_cell hb1 hHeld.2.1, keep_cell hb1 hHeld.2.2.1, keep_cell hb1 hHeld.2.2.2.1, keep_cell hb1 hHeld.2.2.2.2.1, keep_cell hb1 hHeld.2.2.2.2.2.1, keep_cell hb1 hHeld.2.2.2.2.2.2.1, keep_cell hb1 hHeld.2.2.2.2.2.2.2⟩) (fun hN => ?_);clear hK K hHeld;have hHeld := hN;clear hN
  try simp only [Act.put, zsa, zsz, zss]
  refine wpAnyH_take (i := 11) (oi := ?o11) (v := ?v11) ?i11 (by kernel_rfl) (by kernel_rfl) (by kernel_rfl) ?q11 ?y11 hHeld ?_
  case i11 => simp only [zga, zgs, zgz]; rfl
  case q11 => exact fun _ _ _ h => hQ0 _ _ _ _ _ h
  case y11 => refine .inl ⟨by rfl, ?_⟩; intro w' hSw; (try dsimp only at hSw); go_simp; try with_reducible rfl
  simp only [Act.put, zsa, zsz, zss];refine wpAnyH_take (i := 12) (oi := ?o12) (v := ?v12) ?i12 (by kernel_rfl) (by kernel_rfl) (by kernel_rfl) ?q12 ?y12 hHeld ?_
  case i12 => simp only [zga, zgs, zgz]; rfl
  case q12 => exact fun _ _ _ h => hQ0 _ _ _ _ _ h
  case y12 => refine .inl ⟨by rfl, ?_⟩; intro w' hSw; (try dsimp only at hSw); go_simp; try with_reducible rfl
  simp only [Act.put, zsa, zsz, zss];refine zr (r := 13) (o := ?o13) (by kernel_rfl) ?i13 (fun K hK => ?g13)
  case i13 => simp only [zga, zgs, zgz]; rfl
  case g13 =>
   go_simp;refine hK.out _ _ (⟨keep_set hHeld.1 (by first | exact NH.out.1 | exact NH.out.2.1 | exact NH.out.2.2), keep_set hHeld.2.1 (by first | exact NH.out.1 | exact NH.out.2.1 | exact NH.out.2.2), keep_set hHeld.2.2.1 (by first | exact NH.out.1 | exact NH.out.2.1 | exact NH.out.2.2), keep_set hHeld.2.2.2.1 (by first | exact NH.out.1 | exact NH.out.2.1 | exact NH.out.2.2), keep_set hHeld.2.2.2.2.1 (by first | exact NH.out.1 | exact NH.out.2.1 | exact NH.out.2.2), keep_set hHeld.2.2.2.2.2.1 (by first | exact NH.out.1 | exact NH.out.2.1 | exact NH.out.2.2), keep_set hHeld.2.2.2.2.2.2.1 (by first | exact NH.out.1 | exact NH.out.2.1 | exact NH.out.2.2), keep_set hHeld.2.2.2.2.2.2.2 (by first | exact NH.out.1 | exact NH.out.2.1 | exact NH.out.2.2)⟩) (fun hN => ?_);clear hK K hHeld;have hHeld := hN;clear hN
   try simp only [Act.put, zsa, zsz, zss]
   refine wpAnyH_done (by kernel_rfl) ?_ _;exact HK.out _ _ _ _ _ _ _ _ _ _ _ _ _ v1 HB1.out

end Go.Proofs.YtncondlfngeilaaGreatDoor
