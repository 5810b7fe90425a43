
import Derived.Test.YtfeglcpipcjaeaaGreatDoorFyH
namespace Go.Proofs.YtfeglcpipcjaeaaGreatDoor
open Go.ChangeShapes Go.WideShapes Go.ChangeAt Go.RowKit Go.Proofs.Tryz
set_option linter.unusedSimpArgs false
set_option linter.unusedVariables false
set_option maxRecDepth 100000
set_option maxHeartbeats 8000000

noncomputable def leR16 : Code := ((Tryz.f4.body.bind (regionNF 16)).getD .skip)
noncomputable def leR18 : Code := ((Tryz.f4.body.bind (regionNF 18)).getD .skip)
noncomputable def leR32 : Code := ((Tryz.f4.body.bind (regionNF 32)).getD .skip)

theorem le_r16a (FB NB N n rb ro rn rc R x : Nat) (z0z z2z z4z z5z z8z z9z z10z z11z z12z z13z z14z z15z z16z z17z z18z z19z z20z z21z z22z z23z z24z z25z z26z z27z z28z z29z z30z z31z z32z z33z z34z z35z z36z z37z z38z z39z z40z z41z z42z z43z z44z z45z z46z z47z z48z z49z z50z z51z z52z z53z z54z z55z z56z z57z z58z z59z z60z z61z z62z z63z z64z z65z z66z z67z z68z z69z z70z z71z z72z z73z z74z z75z z76z z77z z78z z79z z80z z81z z82z z83z z84z z85z z86z z87z z88z z89z z90z z91z z92z z93z z94z z95z z96z z97z z98z z99z z100z z101z z102z z103z z104z z105z z106z z107z z108z z109z z110z z111z z112z z113z z114z z115z z116z z117z z118z z119z z120z z121z z122z z123z z124z z125z z126z z127z z128z z129z z130z z131z z132z z133z z134z z135z z136z z137z z138z z139z z140z z141z z142z z143z z144z z145z z146z z147z z148z z149z z150z z151z z152z z153z z154z z155z z156z z157z z158z z159z z160z z161z z162z z163z z164z z165z z166z z167z z168z z169z z170z z171z z172z z173z z174z z175z z176z z177z z178z z179z z180z z181z z182z z183z z184z z185z z186z z187z z188z z189z z190z z191z z192z z193z z194z z195z : Value) (DF : List Deferred) (Q0 : Exit → Act → World → Prop) (w1 : World) (hQ0 : ∀ c (a : Act) (dd : Option Tmp) v x, Q0 (.panic c) (a.put dd v) x → Q0 (.panic c) a x) (h0 : w1.cell? ⟨NB, n, none⟩ = some (.slice (some ⟨rb, ro, none⟩) rn rc)) (h1 : w1.cell? ⟨rb, ro, none⟩ = some (.int .i64 (x : Int))) (h2 : w1.cell? ⟨FB, 2, none⟩ = some (.int .i64 (R : Int))) (hn : n < N) (hk : 0 < rn) (hrn : rn ≤ 100) (hx : x < R)
  (HK : Hid (∀ y63 y64 y65 y66 y67 y68 y69 y70 y71 y72 y73 y74 y75 y76 y77 y78 y79 y80 y81 y82 y83 y84 y85 y86 y87 y88 y89 y90 y91 y92 y93 y94 y95 y96 y97 y98 y99 y100 y101 y102 y103 (W : World), (∀ q : Nat, W.heap[q]? = w1.heap[q]?) → W.heap.size = w1.heap.size → W.os = w1.os → W.tape = w1.tape → W.output = w1.output → Q0 .normal ⟨#[z0z, .pointer (some ⟨FB, 0, none⟩), z2z, .slice (some ⟨NB, 0, none⟩) N N, z4z, z5z, .int .i64 (n : Int), .int .i64 0, z8z, z9z, z10z, z11z, z12z, z13z, z14z, z15z, z16z, z17z, z18z, z19z, z20z, z21z, z22z, z23z, z24z, z25z, z26z, z27z, z28z, z29z, z30z, z31z, z32z, z33z, z34z, z35z, z36z, z37z, z38z, z39z, z40z, z41z, z42z, z43z, z44z, z45z, z46z, z47z, z48z, z49z, z50z, z51z, z52z, z53z, z54z, z55z, z56z, z57z, z58z, z59z, z60z, z61z, z62z, y63, y64, y65, y66, y67, y68, y69, y70, y71, y72, y73, y74, y75, y76, y77, y78, y79, y80, y81, y82, y83, y84, y85, y86, y87, y88, y89, y90, y91, y92, y93, y94, y95, y96, y97, y98, y99, y100, y101, y102, y103, .bool false, z105z, z106z, z107z, z108z, z109z, z110z, z111z, z112z, z113z, z114z, z115z, z116z, z117z, z118z, z119z, z120z, z121z, z122z, z123z, z124z, z125z, z126z, z127z, z128z, z129z, z130z, z131z, z132z, z133z, z134z, z135z, z136z, z137z, z138z, z139z, z140z, z141z, z142z, z143z, z144z, z145z, z146z, z147z, z148z, z149z, z150z, z151z, z152z, z153z, z154z, z155z, z156z, z157z, z158z, z159z, z160z, z161z, z162z, z163z, z164z, z165z, z166z, z167z, z168z, z169z, z170z, z171z, z172z, z173z, z174z, z175z, z176z, z177z, z178z, z179z, z180z, z181z, z182z, z183z, z184z, z185z, z186z, z187z, z188z, z189z, z190z, z191z, z192z, z193z, z194z, z195z], DF⟩ W)) :
  Code.wp prog leR16 Q0 ⟨#[z0z, .pointer (some ⟨FB, 0, none⟩), z2z, .slice (some ⟨NB, 0, none⟩) N N, z4z, z5z, .int .i64 (n : Int), .int .i64 0, z8z, z9z, z10z, z11z, z12z, z13z, z14z, z15z, z16z, z17z, z18z, z19z, z20z, z21z, z22z, z23z, z24z, z25z, z26z, z27z, z28z, z29z, z30z, z31z, z32z, z33z, z34z, z35z, z36z, z37z, z38z, z39z, z40z, z41z, z42z, z43z, z44z, z45z, z46z, z47z, z48z, z49z, z50z, z51z, z52z, z53z, z54z, z55z, z56z, z57z, z58z, z59z, z60z, z61z, z62z, z63z, z64z, z65z, z66z, z67z, z68z, z69z, z70z, z71z, z72z, z73z, z74z, z75z, z76z, z77z, z78z, z79z, z80z, z81z, z82z, z83z, z84z, z85z, z86z, z87z, z88z, z89z, z90z, z91z, z92z, z93z, z94z, z95z, z96z, z97z, z98z, z99z, z100z, z101z, z102z, z103z, z104z, z105z, z106z, z107z, z108z, z109z, z110z, z111z, z112z, z113z, z114z, z115z, z116z, z117z, z118z, z119z, z120z, z121z, z122z, z123z, z124z, z125z, z126z, z127z, z128z, z129z, z130z, z131z, z132z, z133z, z134z, z135z, z136z, z137z, z138z, z139z, z140z, z141z, z142z, z143z, z144z, z145z, z146z, z147z, z148z, z149z, z150z, z151z, z152z, z153z, z154z, z155z, z156z, z157z, z158z, z159z, z160z, z161z, z162z, z163z, z164z, z165z, z166z, z167z, z168z, z169z, z170z, z171z, z172z, z173z, z174z, z175z, z176z, z177z, z178z, z179z, z180z, z181z, z182z, z183z, z184z, z185z, z186z, z187z, z188z, z189z, z190z, z191z, z192z, z193z, z194z, z195z], DF⟩ w1 := by
 have n0 : (0 : Int) ≤ n := by omega
 have n1 : (n : Int) < N := by omega
 have a0 : decide ((x : Int) < 0) = false := by first | (simp; done) | (simp; omega)
 have a1 : decide ((R : Int) ≤ (x : Int)) = false := by first | (simp; done) | (simp; omega)
 have b0 : (0 : Int) < rn := by omega
 have b1 : decide (R ≤ x) = false := by first | (simp; done) | (simp; omega)
 have b2 : ¬ R ≤ x := by omega
 have b3 : 0 < rn := by omega
 conv => arg 2; whnf
 refine wp_region_held_drew (S := (fun w' => w'.cell? ⟨NB, n, none⟩ = some (.slice (some ⟨rb, ro, none⟩) rn rc) ∧ w'.cell? ⟨rb, ro, none⟩ = some (.int .i64 (x : Int)) ∧ w'.cell? ⟨FB, 2, none⟩ = some (.int .i64 (R : Int)))) (by kernel_rfl) (⟨h0, h1, h2⟩) (fun hHeld => ?_);refine wpAnyH_take (i := 0) (oi := ?oia0) (v := ?vva0) ?hia0 (by kernel_rfl) (by kernel_rfl) (by kernel_rfl) ?hqa0 ?hya0 hHeld ?_
 case hia0 => simp only [zga, zgs, zgz]; rfl
 case hqa0 => exact fun _ _ _ h => hQ0 _ _ _ _ _ h
 case hya0 => refine .inl ⟨by rfl, ?_⟩; intro w' hSw; (try dsimp only at hSw); go_simp; try with_reducible rfl
 simp only [Act.put, zsa, zsz, zss];refine wpAnyH_take (i := 1) (oi := ?oia1) (v := ?vva1) ?hia1 (by kernel_rfl) (by kernel_rfl) (by kernel_rfl) ?hqa1 ?hya1 hHeld ?_
 case hia1 => simp only [zga, zgs, zgz]; rfl
 case hqa1 => exact fun _ _ _ h => hQ0 _ _ _ _ _ h
 case hya1 => refine .inl ⟨by rfl, ?_⟩; intro w' hSw; (try dsimp only at hSw); go_simp; try with_reducible rfl
 simp only [Act.put, zsa, zsz, zss];refine wpAnyH_take (i := 2) (oi := ?oia2) (v := ?vva2) ?hia2 (by kernel_rfl) (by kernel_rfl) (by kernel_rfl) ?hqa2 ?hya2 hHeld ?_
 case hia2 => simp only [zga, zgs, zgz]; rfl
 case hqa2 => exact fun _ _ _ h => hQ0 _ _ _ _ _ h
 case hya2 => refine .inl ⟨by rfl, ?_⟩; intro w' hSw; (try dsimp only at hSw); go_simp; try with_reducible rfl
 simp only [Act.put, zsa, zsz, zss];refine wpAnyH_take (i := 3) (oi := ?oia3) (v := ?vva3) ?hia3 (by kernel_rfl) (by kernel_rfl) (by kernel_rfl) ?hqa3 ?hya3 hHeld ?_
 case hia3 => simp only [zga, zgs, zgz]; rfl
 case hqa3 => exact fun _ _ _ h => hQ0 _ _ _ _ _ h
 case hya3 => refine .inl ⟨by rfl, ?_⟩; intro w' hSw; (try dsimp only at hSw); go_simp; try with_reducible rfl
 simp only [Act.put, zsa, zsz, zss];refine wpAnyH_take (i := 4) (oi := ?oia4) (v := ?vva4) ?hia4 (by kernel_rfl) (by kernel_rfl) (by kernel_rfl) ?hqa4 ?hya4 hHeld ?_
 case hia4 => simp only [zga, zgs, zgz]; rfl
 case hqa4 => exact fun _ _ _ h => hQ0 _ _ _ _ _ h
 case hya4 => refine .inl ⟨by rfl, ?_⟩; intro w' hSw; (try dsimp only at hSw); go_simp; try with_reducible rfl
 simp only [Act.put, zsa, zsz, zss];refine wpAnyH_take (i := 5) (oi := ?oia5) (v := ?vva5) ?hia5 (by kernel_rfl) (by kernel_rfl) (by kernel_rfl) ?hqa5 ?hya5 hHeld ?_
 case hia5 => simp only [zga, zgs, zgz]; rfl
 case hqa5 => exact fun _ _ _ h => hQ0 _ _ _ _ _ h
 case hya5 => refine .inl ⟨by rfl, ?_⟩; intro w' hSw; (try dsimp only at hSw); go_simp; try with_reducible rfl
 simp only [Act.put, zsa, zsz, zss];refine wpAnyH_take (i := 6) (oi := ?oia6) (v := ?vva6) ?hia6 (by kernel_rfl) (by kernel_rfl) (by kernel_rfl) ?hqa6 ?hya6 hHeld ?_
 case hia6 => simp only [zga, zgs, zgz]; rfl
 case hqa6 => exact fun _ _ _ h => hQ0 _ _ _ _ _ h
 case hya6 => refine .inl ⟨by rfl, ?_⟩; intro w' hSw; (try dsimp only at hSw); go_simp; try with_reducible rfl
 simp only [Act.put, zsa, zsz, zss];refine wpAnyH_take (i := 7) (oi := ?oia7) (v := ?vva7) ?hia7 (by kernel_rfl) (by kernel_rfl) (by kernel_rfl) ?hqa7 ?hya7 hHeld ?_
 case hia7 => simp only [zga, zgs, zgz]; rfl
 case hqa7 => exact fun _ _ _ h => hQ0 _ _ _ _ _ h
 case hya7 => refine .inl ⟨by rfl, ?_⟩; intro w' hSw; (try dsimp only at hSw); go_simp; try with_reducible rfl
 simp only [Act.put, zsa, zsz, zss];refine wpAnyH_take (i := 8) (oi := ?oia8) (v := ?vva8) ?hia8 (by kernel_rfl) (by kernel_rfl) (by kernel_rfl) ?hqa8 ?hya8 hHeld ?_
 case hia8 => simp only [zga, zgs, zgz]; rfl
 case hqa8 => exact fun _ _ _ h => hQ0 _ _ _ _ _ h
 case hya8 => refine .inl ⟨by rfl, ?_⟩; intro w' hSw; (try dsimp only at hSw); go_simp; try with_reducible rfl
 simp only [Act.put, zsa, zsz, zss];refine wpAnyH_take (i := 9) (oi := ?oia9) (v := ?vva9) ?hia9 (by kernel_rfl) (by kernel_rfl) (by kernel_rfl) ?hqa9 ?hya9 hHeld ?_
 case hia9 => simp only [zga, zgs, zgz]; rfl
 case hqa9 => exact fun _ _ _ h => hQ0 _ _ _ _ _ h
 case hya9 => refine .inl ⟨by rfl, ?_⟩; intro w' hSw; (try dsimp only at hSw); go_simp; try with_reducible rfl
 simp only [Act.put, zsa, zsz, zss];refine wpAnyH_take (i := 10) (oi := ?oia10) (v := ?vva10) ?hia10 (by kernel_rfl) (by kernel_rfl) (by kernel_rfl) ?hqa10 ?hya10 hHeld ?_
 case hia10 => simp only [zga, zgs, zgz]; rfl
 case hqa10 => exact fun _ _ _ h => hQ0 _ _ _ _ _ h
 case hya10 => refine .inl ⟨by rfl, ?_⟩; intro w' hSw; (try dsimp only at hSw); go_simp; try with_reducible rfl
 simp only [Act.put, zsa, zsz, zss];refine wpAnyH_take (i := 11) (oi := ?oia11) (v := ?vva11) ?hia11 (by kernel_rfl) (by kernel_rfl) (by kernel_rfl) ?hqa11 ?hya11 hHeld ?_
 case hia11 => simp only [zga, zgs, zgz]; rfl
 case hqa11 => exact fun _ _ _ h => hQ0 _ _ _ _ _ h
 case hya11 => refine .inl ⟨by rfl, ?_⟩; intro w' hSw; (try dsimp only at hSw); go_simp; try with_reducible rfl
 simp only [Act.put, zsa, zsz, zss];refine wpAnyH_take (i := 12) (oi := ?oia12) (v := ?vva12) ?hia12 (by kernel_rfl) (by kernel_rfl) (by kernel_rfl) ?hqa12 ?hya12 hHeld ?_
 case hia12 => simp only [zga, zgs, zgz]; rfl
 case hqa12 => exact fun _ _ _ h => hQ0 _ _ _ _ _ h
 case hya12 => refine .inl ⟨by rfl, ?_⟩; intro w' hSw; (try dsimp only at hSw); go_simp; try with_reducible rfl
 simp only [Act.put, zsa, zsz, zss];refine wpAnyH_take (i := 13) (oi := ?oia13) (v := ?vva13) ?hia13 (by kernel_rfl) (by kernel_rfl) (by kernel_rfl) ?hqa13 ?hya13 hHeld ?_
 case hia13 => simp only [zga, zgs, zgz]; rfl
 case hqa13 => exact fun _ _ _ h => hQ0 _ _ _ _ _ h
 case hya13 => refine .inl ⟨by rfl, ?_⟩; intro w' hSw; (try dsimp only at hSw); go_simp; try with_reducible rfl
 simp only [Act.put, zsa, zsz, zss];refine wpAnyH_take (i := 14) (oi := ?oia14) (v := ?vva14) ?hia14 (by kernel_rfl) (by kernel_rfl) (by kernel_rfl) ?hqa14 ?hya14 hHeld ?_
 case hia14 => simp only [zga, zgs, zgz]; rfl
 case hqa14 => exact fun _ _ _ h => hQ0 _ _ _ _ _ h
 case hya14 => refine .inl ⟨by rfl, ?_⟩; intro w' hSw; (try dsimp only at hSw); go_simp; try with_reducible rfl
 simp only [Act.put, zsa, zsz, zss];refine wpAnyH_take (i := 15) (oi := ?oia15) (v := ?vva15) ?hia15 (by kernel_rfl) (by kernel_rfl) (by kernel_rfl) ?hqa15 ?hya15 hHeld ?_
 case hia15 => simp only [zga, zgs, zgz]; rfl
 case hqa15 => exact fun _ _ _ h => hQ0 _ _ _ _ _ h
 case hya15 => refine .inl ⟨by rfl, ?_⟩; intro w' hSw; (try dsimp only at hSw); go_simp; try with_reducible rfl
 simp only [Act.put, zsa, zsz, zss];refine wpAnyH_take (i := 16) (oi := ?oia16) (v := ?vva16) ?hia16 (by kernel_rfl) (by kernel_rfl) (by kernel_rfl) ?hqa16 ?hya16 hHeld ?_
 case hia16 => simp only [zga, zgs, zgz]; rfl
 case hqa16 => exact fun _ _ _ h => hQ0 _ _ _ _ _ h
 case hya16 => refine .inl ⟨by rfl, ?_⟩; intro w' hSw; (try dsimp only at hSw); go_simp; try with_reducible rfl
 simp only [Act.put, zsa, zsz, zss];refine wpAnyH_take (i := 17) (oi := ?oia17) (v := ?vva17) ?hia17 (by kernel_rfl) (by kernel_rfl) (by kernel_rfl) ?hqa17 ?hya17 hHeld ?_
 case hia17 => simp only [zga, zgs, zgz]; rfl
 case hqa17 => exact fun _ _ _ h => hQ0 _ _ _ _ _ h
 case hya17 => refine .inl ⟨by rfl, ?_⟩; intro w' hSw; (try dsimp only at hSw); go_simp; try with_reducible rfl
 simp only [Act.put, zsa, zsz, zss];refine wpAnyH_take (i := 18) (oi := ?oia18) (v := ?vva18) ?hia18 (by kernel_rfl) (by kernel_rfl) (by kernel_rfl) ?hqa18 ?hya18 hHeld ?_
 case hia18 => simp only [zga, zgs, zgz]; rfl
 case hqa18 => exact fun _ _ _ h => hQ0 _ _ _ _ _ h
 case hya18 => refine .inl ⟨by rfl, ?_⟩; intro w' hSw; (try dsimp only at hSw); go_simp; try with_reducible rfl
 simp only [Act.put, zsa, zsz, zss];refine wpAnyH_take (i := 19) (oi := ?oia19) (v := ?vva19) ?hia19 (by kernel_rfl) (by kernel_rfl) (by kernel_rfl) ?hqa19 ?hya19 hHeld ?_
 case hia19 => simp only [zga, zgs, zgz]; rfl
 case hqa19 => exact fun _ _ _ h => hQ0 _ _ _ _ _ h
 case hya19 => refine .inl ⟨by rfl, ?_⟩; intro w' hSw; (try dsimp only at hSw); go_simp; try with_reducible rfl
 simp only [Act.put, zsa, zsz, zss];refine wpAnyH_take (i := 20) (oi := ?oia20) (v := ?vva20) ?hia20 (by kernel_rfl) (by kernel_rfl) (by kernel_rfl) ?hqa20 ?hya20 hHeld ?_
 case hia20 => simp only [zga, zgs, zgz]; rfl
 case hqa20 => exact fun _ _ _ h => hQ0 _ _ _ _ _ h
 case hya20 => refine .inl ⟨by rfl, ?_⟩; intro w' hSw; (try dsimp only at hSw); go_simp; try with_reducible rfl
 simp only [Act.put, zsa, zsz, zss];refine wpAnyH_take (i := 21) (oi := ?oia21) (v := ?vva21) ?hia21 (by kernel_rfl) (by kernel_rfl) (by kernel_rfl) ?hqa21 ?hya21 hHeld ?_
 case hia21 => simp only [zga, zgs, zgz]; rfl
 case hqa21 => exact fun _ _ _ h => hQ0 _ _ _ _ _ h
 case hya21 => refine .inl ⟨by rfl, ?_⟩; intro w' hSw; (try dsimp only at hSw); go_simp; try with_reducible rfl
 simp only [Act.put, zsa, zsz, zss];refine wpAnyH_take (i := 22) (oi := ?oia22) (v := ?vva22) ?hia22 (by kernel_rfl) (by kernel_rfl) (by kernel_rfl) ?hqa22 ?hya22 hHeld ?_
 case hia22 => simp only [zga, zgs, zgz]; rfl
 case hqa22 => exact fun _ _ _ h => hQ0 _ _ _ _ _ h
 case hya22 => refine .inl ⟨by rfl, ?_⟩; intro w' hSw; (try dsimp only at hSw); go_simp; try with_reducible rfl
 simp only [Act.put, zsa, zsz, zss];refine wpAnyH_take (i := 23) (oi := ?oia23) (v := ?vva23) ?hia23 (by kernel_rfl) (by kernel_rfl) (by kernel_rfl) ?hqa23 ?hya23 hHeld ?_
 case hia23 => simp only [zga, zgs, zgz]; rfl
 case hqa23 => exact fun _ _ _ h => hQ0 _ _ _ _ _ h
 case hya23 => refine .inl ⟨by rfl, ?_⟩; intro w' hSw; (try dsimp only at hSw); go_simp; try with_reducible rfl
 simp only [Act.put, zsa, zsz, zss];refine wpAnyH_take (i := 24) (oi := ?oia24) (v := undef) ?hia24 (by kernel_rfl) (by kernel_rfl) (by kernel_rfl) ?hqa24 ?hya24 hHeld ?_
 case hia24 => simp only [zga, zgs, zgz]; rfl
 case hqa24 => exact fun _ _ _ h => hQ0 _ _ _ _ _ h
 case hya24 => exact Or.inr ⟨by rfl, rfl⟩
 simp only [Act.put, zsa, zsz, zss];refine wpAnyH_take (i := 25) (oi := ?oia25) (v := undef) ?hia25 (by kernel_rfl) (by kernel_rfl) (by kernel_rfl) ?hqa25 ?hya25 hHeld ?_
 case hia25 => simp only [zga, zgs, zgz]; rfl
 case hqa25 => exact fun _ _ _ h => hQ0 _ _ _ _ _ h
 case hya25 => exact Or.inr ⟨by rfl, rfl⟩
 simp only [Act.put, zsa, zsz, zss];refine wpAnyH_take (i := 26) (oi := ?oia26) (v := undef) ?hia26 (by kernel_rfl) (by kernel_rfl) (by kernel_rfl) ?hqa26 ?hya26 hHeld ?_
 case hia26 => simp only [zga, zgs, zgz]; rfl
 case hqa26 => exact fun _ _ _ h => hQ0 _ _ _ _ _ h
 case hya26 => exact Or.inr ⟨by rfl, rfl⟩
 simp only [Act.put, zsa, zsz, zss];refine wpAnyH_take (i := 27) (oi := ?oia27) (v := undef) ?hia27 (by kernel_rfl) (by kernel_rfl) (by kernel_rfl) ?hqa27 ?hya27 hHeld ?_
 case hia27 => simp only [zga, zgs, zgz]; rfl
 case hqa27 => exact fun _ _ _ h => hQ0 _ _ _ _ _ h
 case hya27 => exact Or.inr ⟨by rfl, rfl⟩
 simp only [Act.put, zsa, zsz, zss];refine wpAnyH_take (i := 28) (oi := ?oia28) (v := undef) ?hia28 (by kernel_rfl) (by kernel_rfl) (by kernel_rfl) ?hqa28 ?hya28 hHeld ?_
 case hia28 => simp only [zga, zgs, zgz]; rfl
 case hqa28 => exact fun _ _ _ h => hQ0 _ _ _ _ _ h
 case hya28 => exact Or.inr ⟨by rfl, rfl⟩
 simp only [Act.put, zsa, zsz, zss];refine wpAnyH_take (i := 29) (oi := ?oia29) (v := undef) ?hia29 (by kernel_rfl) (by kernel_rfl) (by kernel_rfl) ?hqa29 ?hya29 hHeld ?_
 case hia29 => simp only [zga, zgs, zgz]; rfl
 case hqa29 => exact fun _ _ _ h => hQ0 _ _ _ _ _ h
 case hya29 => exact Or.inr ⟨by rfl, rfl⟩
 simp only [Act.put, zsa, zsz, zss];refine wpAnyH_take (i := 30) (oi := ?oia30) (v := undef) ?hia30 (by kernel_rfl) (by kernel_rfl) (by kernel_rfl) ?hqa30 ?hya30 hHeld ?_
 case hia30 => simp only [zga, zgs, zgz]; rfl
 case hqa30 => exact fun _ _ _ h => hQ0 _ _ _ _ _ h
 case hya30 => exact Or.inr ⟨by rfl, rfl⟩
 simp only [Act.put, zsa, zsz, zss];refine wpAnyH_take (i := 31) (oi := ?oia31) (v := undef) ?hia31 (by kernel_rfl) (by kernel_rfl) (by kernel_rfl) ?hqa31 ?hya31 hHeld ?_
 case hia31 => simp only [zga, zgs, zgz]; rfl
 case hqa31 => exact fun _ _ _ h => hQ0 _ _ _ _ _ h
 case hya31 => exact Or.inr ⟨by rfl, rfl⟩
 simp only [Act.put, zsa, zsz, zss];refine wpAnyH_take (i := 32) (oi := ?oia32) (v := undef) ?hia32 (by kernel_rfl) (by kernel_rfl) (by kernel_rfl) ?hqa32 ?hya32 hHeld ?_
 case hia32 => simp only [zga, zgs, zgz]; rfl
 case hqa32 => exact fun _ _ _ h => hQ0 _ _ _ _ _ h
 case hya32 => exact Or.inr ⟨by rfl, rfl⟩
 simp only [Act.put, zsa, zsz, zss];refine wpAnyH_take (i := 33) (oi := ?oia33) (v := undef) ?hia33 (by kernel_rfl) (by kernel_rfl) (by kernel_rfl) ?hqa33 ?hya33 hHeld ?_
 case hia33 => simp only [zga, zgs, zgz]; rfl
 case hqa33 => exact fun _ _ _ h => hQ0 _ _ _ _ _ h
 case hya33 => exact Or.inr ⟨by rfl, rfl⟩
 simp only [Act.put, zsa, zsz, zss];refine wpAnyH_take (i := 34) (oi := ?oia34) (v := undef) ?hia34 (by kernel_rfl) (by kernel_rfl) (by kernel_rfl) ?hqa34 ?hya34 hHeld ?_
 case hia34 => simp only [zga, zgs, zgz]; rfl
 case hqa34 => exact fun _ _ _ h => hQ0 _ _ _ _ _ h
 case hya34 => exact Or.inr ⟨by rfl, rfl⟩
 simp only [Act.put, zsa, zsz, zss];refine wpAnyH_take (i := 35) (oi := ?oia35) (v := undef) ?hia35 (by kernel_rfl) (by kernel_rfl) (by kernel_rfl) ?hqa35 ?hya35 hHeld ?_
 case hia35 => simp only [zga, zgs, zgz]; rfl
 case hqa35 => exact fun _ _ _ h => hQ0 _ _ _ _ _ h
 case hya35 => exact Or.inr ⟨by rfl, rfl⟩
 simp only [Act.put, zsa, zsz, zss];refine wpAnyH_take (i := 36) (oi := ?oia36) (v := undef) ?hia36 (by kernel_rfl) (by kernel_rfl) (by kernel_rfl) ?hqa36 ?hya36 hHeld ?_
 case hia36 => simp only [zga, zgs, zgz]; rfl
 case hqa36 => exact fun _ _ _ h => hQ0 _ _ _ _ _ h
 case hya36 => exact Or.inr ⟨by rfl, rfl⟩
 simp only [Act.put, zsa, zsz, zss];refine wpAnyH_take (i := 37) (oi := ?oia37) (v := undef) ?hia37 (by kernel_rfl) (by kernel_rfl) (by kernel_rfl) ?hqa37 ?hya37 hHeld ?_
 case hia37 => simp only [zga, zgs, zgz]; rfl
 case hqa37 => exact fun _ _ _ h => hQ0 _ _ _ _ _ h
 case hya37 => exact Or.inr ⟨by rfl, rfl⟩
 simp only [Act.put, zsa, zsz, zss];refine wpAnyH_take (i := 38) (oi := ?oia38) (v := undef) ?hia38 (by kernel_rfl) (by kernel_rfl) (by kernel_rfl) ?hqa38 ?hya38 hHeld ?_
 case hia38 => simp only [zga, zgs, zgz]; rfl
 case hqa38 => exact fun _ _ _ h => hQ0 _ _ _ _ _ h
 case hya38 => exact Or.inr ⟨by rfl, rfl⟩
 simp only [Act.put, zsa, zsz, zss];refine wpAnyH_take (i := 39) (oi := ?oia39) (v := undef) ?hia39 (by kernel_rfl) (by kernel_rfl) (by kernel_rfl) ?hqa39 ?hya39 hHeld ?_
 case hia39 => simp only [zga, zgs, zgz]; rfl
 case hqa39 => exact fun _ _ _ h => hQ0 _ _ _ _ _ h
 case hya39 => exact Or.inr ⟨by rfl, rfl⟩
 simp only [Act.put, zsa, zsz, zss];refine wpAnyH_take (i := 40) (oi := ?oia40) (v := ?vva40) ?hia40 (by kernel_rfl) (by kernel_rfl) (by kernel_rfl) ?hqa40 ?hya40 hHeld ?_
 case hia40 => simp only [zga, zgs, zgz]; rfl
 case hqa40 => exact fun _ _ _ h => hQ0 _ _ _ _ _ h
 case hya40 => refine .inl ⟨by rfl, ?_⟩; intro w' hSw; (try dsimp only at hSw); go_simp; try with_reducible rfl
 simp only [Act.put, zsa, zsz, zss];refine wpAnyH_take (i := 41) (oi := ?oia41) (v := ?vva41) ?hia41 (by kernel_rfl) (by kernel_rfl) (by kernel_rfl) ?hqa41 ?hya41 hHeld ?_
 case hia41 => simp only [zga, zgs, zgz]; rfl
 case hqa41 => exact fun _ _ _ h => hQ0 _ _ _ _ _ h
 case hya41 => refine .inl ⟨by rfl, ?_⟩; intro w' hSw; (try dsimp only at hSw); go_simp; try with_reducible rfl
 simp only [Act.put, zsa, zsz, zss];refine wpAnyH_done (by kernel_rfl) ?_ _;exact HK.out _ _ _ _ _ _ _ _ _ _ _ _ _ _ _ _ _ _ _ _ _ _ _ _ _ _ _ _ _ _ _ _ _ _ _ _ _ _ _ _ _ _ (fun _ => rfl) rfl rfl rfl rfl

theorem le_r16b (FB NB N n rb ro rn rc R x y k K : Nat) (z0z z2z z4z z5z z8z z9z z10z z11z z12z z13z z14z z15z z16z z17z z18z z19z z20z z21z z22z z23z z24z z25z z26z z27z z28z z29z z30z z31z z32z z33z z34z z35z z36z z37z z38z z39z z40z z41z z42z z43z z44z z45z z46z z47z z48z z49z z50z z51z z52z z53z z54z z55z z56z z57z z58z z59z z60z z61z z62z z63z z64z z65z z66z z67z z68z z69z z70z z71z z72z z73z z74z z75z z76z z77z z78z z79z z80z z81z z82z z83z z84z z85z z86z z87z z88z z89z z90z z91z z92z z93z z94z z95z z96z z97z z98z z99z z100z z101z z102z z103z z104z z105z z106z z107z z108z z109z z110z z111z z112z z113z z114z z115z z116z z117z z118z z119z z120z z121z z122z z123z z124z z125z z126z z127z z128z z129z z130z z131z z132z z133z z134z z135z z136z z137z z138z z139z z140z z141z z142z z143z z144z z145z z146z z147z z148z z149z z150z z151z z152z z153z z154z z155z z156z z157z z158z z159z z160z z161z z162z z163z z164z z165z z166z z167z z168z z169z z170z z171z z172z z173z z174z z175z z176z z177z z178z z179z z180z z181z z182z z183z z184z z185z z186z z187z z188z z189z z190z z191z z192z z193z z194z z195z : Value) (DF : List Deferred) (Q0 : Exit → Act → World → Prop) (w1 : World) (hQ0 : ∀ c (a : Act) (dd : Option Tmp) v x, Q0 (.panic c) (a.put dd v) x → Q0 (.panic c) a x) (h0 : w1.cell? ⟨NB, n, none⟩ = some (.slice (some ⟨rb, ro, none⟩) rn rc)) (h1 : w1.cell? ⟨rb, ro + K, none⟩ = some (.int .i64 (x : Int))) (h2 : w1.cell? ⟨FB, 2, none⟩ = some (.int .i64 (R : Int))) (h3 : w1.cell? ⟨rb, ro + k, none⟩ = some (.int .i64 (y : Int))) (hyx : y < x) (HKK : Hid (K = k + 1)) (hn : n < N) (hk : K < rn) (hrn : rn ≤ 100) (hx : x < R)
  (HK : Hid (∀ y63 y64 y65 y66 y67 y68 y69 y70 y71 y72 y73 y74 y75 y76 y77 y78 y79 y80 y81 y82 y83 y84 y85 y86 y87 y88 y89 y90 y91 y92 y93 y94 y95 y96 y97 y98 y99 y100 y101 y102 y103 (W : World), (∀ q : Nat, W.heap[q]? = w1.heap[q]?) → W.heap.size = w1.heap.size → W.os = w1.os → W.tape = w1.tape → W.output = w1.output → Q0 .normal ⟨#[z0z, .pointer (some ⟨FB, 0, none⟩), z2z, .slice (some ⟨NB, 0, none⟩) N N, z4z, z5z, .int .i64 (n : Int), .int .i64 (K : Int), z8z, z9z, z10z, z11z, z12z, z13z, z14z, z15z, z16z, z17z, z18z, z19z, z20z, z21z, z22z, z23z, z24z, z25z, z26z, z27z, z28z, z29z, z30z, z31z, z32z, z33z, z34z, z35z, z36z, z37z, z38z, z39z, z40z, z41z, z42z, z43z, z44z, z45z, z46z, z47z, z48z, z49z, z50z, z51z, z52z, z53z, z54z, z55z, z56z, z57z, z58z, z59z, z60z, z61z, z62z, y63, y64, y65, y66, y67, y68, y69, y70, y71, y72, y73, y74, y75, y76, y77, y78, y79, y80, y81, y82, y83, y84, y85, y86, y87, y88, y89, y90, y91, y92, y93, y94, y95, y96, y97, y98, y99, y100, y101, y102, y103, .bool false, z105z, z106z, z107z, z108z, z109z, z110z, z111z, z112z, z113z, z114z, z115z, z116z, z117z, z118z, z119z, z120z, z121z, z122z, z123z, z124z, z125z, z126z, z127z, z128z, z129z, z130z, z131z, z132z, z133z, z134z, z135z, z136z, z137z, z138z, z139z, z140z, z141z, z142z, z143z, z144z, z145z, z146z, z147z, z148z, z149z, z150z, z151z, z152z, z153z, z154z, z155z, z156z, z157z, z158z, z159z, z160z, z161z, z162z, z163z, z164z, z165z, z166z, z167z, z168z, z169z, z170z, z171z, z172z, z173z, z174z, z175z, z176z, z177z, z178z, z179z, z180z, z181z, z182z, z183z, z184z, z185z, z186z, z187z, z188z, z189z, z190z, z191z, z192z, z193z, z194z, z195z], DF⟩ W)) :
  Code.wp prog leR16 Q0 ⟨#[z0z, .pointer (some ⟨FB, 0, none⟩), z2z, .slice (some ⟨NB, 0, none⟩) N N, z4z, z5z, .int .i64 (n : Int), .int .i64 (K : Int), z8z, z9z, z10z, z11z, z12z, z13z, z14z, z15z, z16z, z17z, z18z, z19z, z20z, z21z, z22z, z23z, z24z, z25z, z26z, z27z, z28z, z29z, z30z, z31z, z32z, z33z, z34z, z35z, z36z, z37z, z38z, z39z, z40z, z41z, z42z, z43z, z44z, z45z, z46z, z47z, z48z, z49z, z50z, z51z, z52z, z53z, z54z, z55z, z56z, z57z, z58z, z59z, z60z, z61z, z62z, z63z, z64z, z65z, z66z, z67z, z68z, z69z, z70z, z71z, z72z, z73z, z74z, z75z, z76z, z77z, z78z, z79z, z80z, z81z, z82z, z83z, z84z, z85z, z86z, z87z, z88z, z89z, z90z, z91z, z92z, z93z, z94z, z95z, z96z, z97z, z98z, z99z, z100z, z101z, z102z, z103z, z104z, z105z, z106z, z107z, z108z, z109z, z110z, z111z, z112z, z113z, z114z, z115z, z116z, z117z, z118z, z119z, z120z, z121z, z122z, z123z, z124z, z125z, z126z, z127z, z128z, z129z, z130z, z131z, z132z, z133z, z134z, z135z, z136z, z137z, z138z, z139z, z140z, z141z, z142z, z143z, z144z, z145z, z146z, z147z, z148z, z149z, z150z, z151z, z152z, z153z, z154z, z155z, z156z, z157z, z158z, z159z, z160z, z161z, z162z, z163z, z164z, z165z, z166z, z167z, z168z, z169z, z170z, z171z, z172z, z173z, z174z, z175z, z176z, z177z, z178z, z179z, z180z, z181z, z182z, z183z, z184z, z185z, z186z, z187z, z188z, z189z, z190z, z191z, z192z, z193z, z194z, z195z], DF⟩ w1 := by
 have n0 : (0 : Int) ≤ n := by omega
 have n1 : (n : Int) < N := by omega
 have a0 : decide ((x : Int) < 0) = false := by first | (simp; done) | (simp; omega)
 have a1 : decide ((R : Int) ≤ (x : Int)) = false := by first | (simp; done) | (simp; omega)
 have b0 : (0 : Int) < rn := by omega
 have b1 : decide (R ≤ x) = false := by first | (simp; done) | (simp; omega)
 have b2 : ¬ R ≤ x := by omega
 have b3 : 0 < rn := by omega
 have a2 : decide ((x : Int) ≤ (y : Int)) = false := by first | (simp; done) | (simp; omega)
 have hkk := HKK.out;have a3 : decide (0 < (K : Int)) = true := by first | (simp; done) | (simp; omega)
 have a7 : decide (0 < K) = true := by first | (simp; done) | (simp; omega)
 have a8 : 0 < K := by omega
 have a4 : IntKind.i64.wrap ((K : Int) - 1) = (k : Int) := by
  have e : ((K : Int) - 1) = (k : Int) := by omega
  rw [e];rw [wrap_i64]; unfold wrap64; omega
 have a5 : decide (x ≤ y) = false := by first | (simp; done) | (simp; omega)
 have a6 : ¬ x ≤ y := by omega
 have k0 : (0 : Int) ≤ (K : Int) := by omega
 have k1 : (K : Int) < rn := by omega
 have k2 : (0 : Int) ≤ (k : Int) := by omega
 have k3 : (k : Int) < rn := by omega
 clear hkk
 conv => arg 2; whnf
 refine wp_region_held_drew (S := (fun w' => w'.cell? ⟨NB, n, none⟩ = some (.slice (some ⟨rb, ro, none⟩) rn rc) ∧ w'.cell? ⟨rb, ro + K, none⟩ = some (.int .i64 (x : Int)) ∧ w'.cell? ⟨FB, 2, none⟩ = some (.int .i64 (R : Int)) ∧ w'.cell? ⟨rb, ro + k, none⟩ = some (.int .i64 (y : Int)))) (by kernel_rfl) (⟨h0, h1, h2, h3⟩) (fun hHeld => ?_);refine wpAnyH_take (i := 0) (oi := ?oib0) (v := ?vvb0) ?hib0 (by kernel_rfl) (by kernel_rfl) (by kernel_rfl) ?hqb0 ?hyb0 hHeld ?_
 case hib0 => simp only [zga, zgs, zgz]; rfl
 case hqb0 => exact fun _ _ _ h => hQ0 _ _ _ _ _ h
 case hyb0 => refine .inl ⟨by rfl, ?_⟩; intro w' hSw; (try dsimp only at hSw); go_simp; try with_reducible rfl
 simp only [Act.put, zsa, zsz, zss];refine wpAnyH_take (i := 1) (oi := ?oib1) (v := ?vvb1) ?hib1 (by kernel_rfl) (by kernel_rfl) (by kernel_rfl) ?hqb1 ?hyb1 hHeld ?_
 case hib1 => simp only [zga, zgs, zgz]; rfl
 case hqb1 => exact fun _ _ _ h => hQ0 _ _ _ _ _ h
 case hyb1 => refine .inl ⟨by rfl, ?_⟩; intro w' hSw; (try dsimp only at hSw); go_simp; try with_reducible rfl
 simp only [Act.put, zsa, zsz, zss];refine wpAnyH_take (i := 2) (oi := ?oib2) (v := ?vvb2) ?hib2 (by kernel_rfl) (by kernel_rfl) (by kernel_rfl) ?hqb2 ?hyb2 hHeld ?_
 case hib2 => simp only [zga, zgs, zgz]; rfl
 case hqb2 => exact fun _ _ _ h => hQ0 _ _ _ _ _ h
 case hyb2 => refine .inl ⟨by rfl, ?_⟩; intro w' hSw; (try dsimp only at hSw); go_simp; try with_reducible rfl
 simp only [Act.put, zsa, zsz, zss];refine wpAnyH_take (i := 3) (oi := ?oib3) (v := ?vvb3) ?hib3 (by kernel_rfl) (by kernel_rfl) (by kernel_rfl) ?hqb3 ?hyb3 hHeld ?_
 case hib3 => simp only [zga, zgs, zgz]; rfl
 case hqb3 => exact fun _ _ _ h => hQ0 _ _ _ _ _ h
 case hyb3 => refine .inl ⟨by rfl, ?_⟩; intro w' hSw; (try dsimp only at hSw); go_simp; try with_reducible rfl
 simp only [Act.put, zsa, zsz, zss];refine wpAnyH_take (i := 4) (oi := ?oib4) (v := ?vvb4) ?hib4 (by kernel_rfl) (by kernel_rfl) (by kernel_rfl) ?hqb4 ?hyb4 hHeld ?_
 case hib4 => simp only [zga, zgs, zgz]; rfl
 case hqb4 => exact fun _ _ _ h => hQ0 _ _ _ _ _ h
 case hyb4 => refine .inl ⟨by rfl, ?_⟩; intro w' hSw; (try dsimp only at hSw); go_simp; try with_reducible rfl
 simp only [Act.put, zsa, zsz, zss];refine wpAnyH_take (i := 5) (oi := ?oib5) (v := ?vvb5) ?hib5 (by kernel_rfl) (by kernel_rfl) (by kernel_rfl) ?hqb5 ?hyb5 hHeld ?_
 case hib5 => simp only [zga, zgs, zgz]; rfl
 case hqb5 => exact fun _ _ _ h => hQ0 _ _ _ _ _ h
 case hyb5 => refine .inl ⟨by rfl, ?_⟩; intro w' hSw; (try dsimp only at hSw); go_simp; try with_reducible rfl
 simp only [Act.put, zsa, zsz, zss];refine wpAnyH_take (i := 6) (oi := ?oib6) (v := ?vvb6) ?hib6 (by kernel_rfl) (by kernel_rfl) (by kernel_rfl) ?hqb6 ?hyb6 hHeld ?_
 case hib6 => simp only [zga, zgs, zgz]; rfl
 case hqb6 => exact fun _ _ _ h => hQ0 _ _ _ _ _ h
 case hyb6 => refine .inl ⟨by rfl, ?_⟩; intro w' hSw; (try dsimp only at hSw); go_simp; try with_reducible rfl
 simp only [Act.put, zsa, zsz, zss];refine wpAnyH_take (i := 7) (oi := ?oib7) (v := ?vvb7) ?hib7 (by kernel_rfl) (by kernel_rfl) (by kernel_rfl) ?hqb7 ?hyb7 hHeld ?_
 case hib7 => simp only [zga, zgs, zgz]; rfl
 case hqb7 => exact fun _ _ _ h => hQ0 _ _ _ _ _ h
 case hyb7 => refine .inl ⟨by rfl, ?_⟩; intro w' hSw; (try dsimp only at hSw); go_simp; try with_reducible rfl
 simp only [Act.put, zsa, zsz, zss];refine wpAnyH_take (i := 8) (oi := ?oib8) (v := ?vvb8) ?hib8 (by kernel_rfl) (by kernel_rfl) (by kernel_rfl) ?hqb8 ?hyb8 hHeld ?_
 case hib8 => simp only [zga, zgs, zgz]; rfl
 case hqb8 => exact fun _ _ _ h => hQ0 _ _ _ _ _ h
 case hyb8 => refine .inl ⟨by rfl, ?_⟩; intro w' hSw; (try dsimp only at hSw); go_simp; try with_reducible rfl
 simp only [Act.put, zsa, zsz, zss];refine wpAnyH_take (i := 9) (oi := ?oib9) (v := ?vvb9) ?hib9 (by kernel_rfl) (by kernel_rfl) (by kernel_rfl) ?hqb9 ?hyb9 hHeld ?_
 case hib9 => simp only [zga, zgs, zgz]; rfl
 case hqb9 => exact fun _ _ _ h => hQ0 _ _ _ _ _ h
 case hyb9 => refine .inl ⟨by rfl, ?_⟩; intro w' hSw; (try dsimp only at hSw); go_simp; try with_reducible rfl
 simp only [Act.put, zsa, zsz, zss];refine wpAnyH_take (i := 10) (oi := ?oib10) (v := ?vvb10) ?hib10 (by kernel_rfl) (by kernel_rfl) (by kernel_rfl) ?hqb10 ?hyb10 hHeld ?_
 case hib10 => simp only [zga, zgs, zgz]; rfl
 case hqb10 => exact fun _ _ _ h => hQ0 _ _ _ _ _ h
 case hyb10 => refine .inl ⟨by rfl, ?_⟩; intro w' hSw; (try dsimp only at hSw); go_simp; try with_reducible rfl
 simp only [Act.put, zsa, zsz, zss];refine wpAnyH_take (i := 11) (oi := ?oib11) (v := ?vvb11) ?hib11 (by kernel_rfl) (by kernel_rfl) (by kernel_rfl) ?hqb11 ?hyb11 hHeld ?_
 case hib11 => simp only [zga, zgs, zgz]; rfl
 case hqb11 => exact fun _ _ _ h => hQ0 _ _ _ _ _ h
 case hyb11 => refine .inl ⟨by rfl, ?_⟩; intro w' hSw; (try dsimp only at hSw); go_simp; try with_reducible rfl
 simp only [Act.put, zsa, zsz, zss];refine wpAnyH_take (i := 12) (oi := ?oib12) (v := ?vvb12) ?hib12 (by kernel_rfl) (by kernel_rfl) (by kernel_rfl) ?hqb12 ?hyb12 hHeld ?_
 case hib12 => simp only [zga, zgs, zgz]; rfl
 case hqb12 => exact fun _ _ _ h => hQ0 _ _ _ _ _ h
 case hyb12 => refine .inl ⟨by rfl, ?_⟩; intro w' hSw; (try dsimp only at hSw); go_simp; try with_reducible rfl
 simp only [Act.put, zsa, zsz, zss];refine wpAnyH_take (i := 13) (oi := ?oib13) (v := ?vvb13) ?hib13 (by kernel_rfl) (by kernel_rfl) (by kernel_rfl) ?hqb13 ?hyb13 hHeld ?_
 case hib13 => simp only [zga, zgs, zgz]; rfl
 case hqb13 => exact fun _ _ _ h => hQ0 _ _ _ _ _ h
 case hyb13 => refine .inl ⟨by rfl, ?_⟩; intro w' hSw; (try dsimp only at hSw); go_simp; try with_reducible rfl
 simp only [Act.put, zsa, zsz, zss];refine wpAnyH_take (i := 14) (oi := ?oib14) (v := ?vvb14) ?hib14 (by kernel_rfl) (by kernel_rfl) (by kernel_rfl) ?hqb14 ?hyb14 hHeld ?_
 case hib14 => simp only [zga, zgs, zgz]; rfl
 case hqb14 => exact fun _ _ _ h => hQ0 _ _ _ _ _ h
 case hyb14 => refine .inl ⟨by rfl, ?_⟩; intro w' hSw; (try dsimp only at hSw); go_simp; try with_reducible rfl
 simp only [Act.put, zsa, zsz, zss];refine wpAnyH_take (i := 15) (oi := ?oib15) (v := ?vvb15) ?hib15 (by kernel_rfl) (by kernel_rfl) (by kernel_rfl) ?hqb15 ?hyb15 hHeld ?_
 case hib15 => simp only [zga, zgs, zgz]; rfl
 case hqb15 => exact fun _ _ _ h => hQ0 _ _ _ _ _ h
 case hyb15 => refine .inl ⟨by rfl, ?_⟩; intro w' hSw; (try dsimp only at hSw); go_simp; try with_reducible rfl
 simp only [Act.put, zsa, zsz, zss];refine wpAnyH_take (i := 16) (oi := ?oib16) (v := ?vvb16) ?hib16 (by kernel_rfl) (by kernel_rfl) (by kernel_rfl) ?hqb16 ?hyb16 hHeld ?_
 case hib16 => simp only [zga, zgs, zgz]; rfl
 case hqb16 => exact fun _ _ _ h => hQ0 _ _ _ _ _ h
 case hyb16 => refine .inl ⟨by rfl, ?_⟩; intro w' hSw; (try dsimp only at hSw); go_simp; try with_reducible rfl
 simp only [Act.put, zsa, zsz, zss];refine wpAnyH_take (i := 17) (oi := ?oib17) (v := ?vvb17) ?hib17 (by kernel_rfl) (by kernel_rfl) (by kernel_rfl) ?hqb17 ?hyb17 hHeld ?_
 case hib17 => simp only [zga, zgs, zgz]; rfl
 case hqb17 => exact fun _ _ _ h => hQ0 _ _ _ _ _ h
 case hyb17 => refine .inl ⟨by rfl, ?_⟩; intro w' hSw; (try dsimp only at hSw); go_simp; try with_reducible rfl
 simp only [Act.put, zsa, zsz, zss];refine wpAnyH_take (i := 18) (oi := ?oib18) (v := ?vvb18) ?hib18 (by kernel_rfl) (by kernel_rfl) (by kernel_rfl) ?hqb18 ?hyb18 hHeld ?_
 case hib18 => simp only [zga, zgs, zgz]; rfl
 case hqb18 => exact fun _ _ _ h => hQ0 _ _ _ _ _ h
 case hyb18 => refine .inl ⟨by rfl, ?_⟩; intro w' hSw; (try dsimp only at hSw); go_simp; try with_reducible rfl
 simp only [Act.put, zsa, zsz, zss];refine wpAnyH_take (i := 19) (oi := ?oib19) (v := ?vvb19) ?hib19 (by kernel_rfl) (by kernel_rfl) (by kernel_rfl) ?hqb19 ?hyb19 hHeld ?_
 case hib19 => simp only [zga, zgs, zgz]; rfl
 case hqb19 => exact fun _ _ _ h => hQ0 _ _ _ _ _ h
 case hyb19 => refine .inl ⟨by rfl, ?_⟩; intro w' hSw; (try dsimp only at hSw); go_simp; try with_reducible rfl
 simp only [Act.put, zsa, zsz, zss];refine wpAnyH_take (i := 20) (oi := ?oib20) (v := ?vvb20) ?hib20 (by kernel_rfl) (by kernel_rfl) (by kernel_rfl) ?hqb20 ?hyb20 hHeld ?_
 case hib20 => simp only [zga, zgs, zgz]; rfl
 case hqb20 => exact fun _ _ _ h => hQ0 _ _ _ _ _ h
 case hyb20 => refine .inl ⟨by rfl, ?_⟩; intro w' hSw; (try dsimp only at hSw); go_simp; try with_reducible rfl
 simp only [Act.put, zsa, zsz, zss];refine wpAnyH_take (i := 21) (oi := ?oib21) (v := ?vvb21) ?hib21 (by kernel_rfl) (by kernel_rfl) (by kernel_rfl) ?hqb21 ?hyb21 hHeld ?_
 case hib21 => simp only [zga, zgs, zgz]; rfl
 case hqb21 => exact fun _ _ _ h => hQ0 _ _ _ _ _ h
 case hyb21 => refine .inl ⟨by rfl, ?_⟩; intro w' hSw; (try dsimp only at hSw); go_simp; try with_reducible rfl
 simp only [Act.put, zsa, zsz, zss];refine wpAnyH_take (i := 22) (oi := ?oib22) (v := ?vvb22) ?hib22 (by kernel_rfl) (by kernel_rfl) (by kernel_rfl) ?hqb22 ?hyb22 hHeld ?_
 case hib22 => simp only [zga, zgs, zgz]; rfl
 case hqb22 => exact fun _ _ _ h => hQ0 _ _ _ _ _ h
 case hyb22 => refine .inl ⟨by rfl, ?_⟩; intro w' hSw; (try dsimp only at hSw); go_simp; try with_reducible rfl
 simp only [Act.put, zsa, zsz, zss];refine wpAnyH_take (i := 23) (oi := ?oib23) (v := ?vvb23) ?hib23 (by kernel_rfl) (by kernel_rfl) (by kernel_rfl) ?hqb23 ?hyb23 hHeld ?_
 case hib23 => simp only [zga, zgs, zgz]; rfl
 case hqb23 => exact fun _ _ _ h => hQ0 _ _ _ _ _ h
 case hyb23 => refine .inl ⟨by rfl, ?_⟩; intro w' hSw; (try dsimp only at hSw); go_simp; try with_reducible rfl
 simp only [Act.put, zsa, zsz, zss];refine wpAnyH_take (i := 24) (oi := ?oib24) (v := ?vvb24) ?hib24 (by kernel_rfl) (by kernel_rfl) (by kernel_rfl) ?hqb24 ?hyb24 hHeld ?_
 case hib24 => simp only [zga, zgs, zgz]; rfl
 case hqb24 => exact fun _ _ _ h => hQ0 _ _ _ _ _ h
 case hyb24 => refine .inl ⟨by rfl, ?_⟩; intro w' hSw; (try dsimp only at hSw); go_simp; try with_reducible rfl
 simp only [Act.put, zsa, zsz, zss];refine wpAnyH_take (i := 25) (oi := ?oib25) (v := ?vvb25) ?hib25 (by kernel_rfl) (by kernel_rfl) (by kernel_rfl) ?hqb25 ?hyb25 hHeld ?_
 case hib25 => simp only [zga, zgs, zgz]; rfl
 case hqb25 => exact fun _ _ _ h => hQ0 _ _ _ _ _ h
 case hyb25 => refine .inl ⟨by rfl, ?_⟩; intro w' hSw; (try dsimp only at hSw); go_simp; try with_reducible rfl
 simp only [Act.put, zsa, zsz, zss];refine wpAnyH_take (i := 26) (oi := ?oib26) (v := ?vvb26) ?hib26 (by kernel_rfl) (by kernel_rfl) (by kernel_rfl) ?hqb26 ?hyb26 hHeld ?_
 case hib26 => simp only [zga, zgs, zgz]; rfl
 case hqb26 => exact fun _ _ _ h => hQ0 _ _ _ _ _ h
 case hyb26 => refine .inl ⟨by rfl, ?_⟩; intro w' hSw; (try dsimp only at hSw); go_simp; try with_reducible rfl
 simp only [Act.put, zsa, zsz, zss];refine wpAnyH_take (i := 27) (oi := ?oib27) (v := ?vvb27) ?hib27 (by kernel_rfl) (by kernel_rfl) (by kernel_rfl) ?hqb27 ?hyb27 hHeld ?_
 case hib27 => simp only [zga, zgs, zgz]; rfl
 case hqb27 => exact fun _ _ _ h => hQ0 _ _ _ _ _ h
 case hyb27 => refine .inl ⟨by rfl, ?_⟩; intro w' hSw; (try dsimp only at hSw); go_simp; try with_reducible rfl
 simp only [Act.put, zsa, zsz, zss];refine wpAnyH_take (i := 28) (oi := ?oib28) (v := ?vvb28) ?hib28 (by kernel_rfl) (by kernel_rfl) (by kernel_rfl) ?hqb28 ?hyb28 hHeld ?_
 case hib28 => simp only [zga, zgs, zgz]; rfl
 case hqb28 => exact fun _ _ _ h => hQ0 _ _ _ _ _ h
 case hyb28 => refine .inl ⟨by rfl, ?_⟩; intro w' hSw; (try dsimp only at hSw); go_simp; try with_reducible rfl
 simp only [Act.put, zsa, zsz, zss];refine wpAnyH_take (i := 29) (oi := ?oib29) (v := ?vvb29) ?hib29 (by kernel_rfl) (by kernel_rfl) (by kernel_rfl) ?hqb29 ?hyb29 hHeld ?_
 case hib29 => simp only [zga, zgs, zgz]; rfl
 case hqb29 => exact fun _ _ _ h => hQ0 _ _ _ _ _ h
 case hyb29 => refine .inl ⟨by rfl, ?_⟩; intro w' hSw; (try dsimp only at hSw); go_simp; try with_reducible rfl
 simp only [Act.put, zsa, zsz, zss];refine wpAnyH_take (i := 30) (oi := ?oib30) (v := ?vvb30) ?hib30 (by kernel_rfl) (by kernel_rfl) (by kernel_rfl) ?hqb30 ?hyb30 hHeld ?_
 case hib30 => simp only [zga, zgs, zgz]; rfl
 case hqb30 => exact fun _ _ _ h => hQ0 _ _ _ _ _ h
 case hyb30 => refine .inl ⟨by rfl, ?_⟩; intro w' hSw; (try dsimp only at hSw); go_simp; try with_reducible rfl
 simp only [Act.put, zsa, zsz, zss];refine wpAnyH_take (i := 31) (oi := ?oib31) (v := ?vvb31) ?hib31 (by kernel_rfl) (by kernel_rfl) (by kernel_rfl) ?hqb31 ?hyb31 hHeld ?_
 case hib31 => simp only [zga, zgs, zgz]; rfl
 case hqb31 => exact fun _ _ _ h => hQ0 _ _ _ _ _ h
 case hyb31 => refine .inl ⟨by rfl, ?_⟩; intro w' hSw; (try dsimp only at hSw); go_simp; try with_reducible rfl
 simp only [Act.put, zsa, zsz, zss];refine wpAnyH_take (i := 32) (oi := ?oib32) (v := ?vvb32) ?hib32 (by kernel_rfl) (by kernel_rfl) (by kernel_rfl) ?hqb32 ?hyb32 hHeld ?_
 case hib32 => simp only [zga, zgs, zgz]; rfl
 case hqb32 => exact fun _ _ _ h => hQ0 _ _ _ _ _ h
 case hyb32 => refine .inl ⟨by rfl, ?_⟩; intro w' hSw; (try dsimp only at hSw); go_simp; try with_reducible rfl
 simp only [Act.put, zsa, zsz, zss];refine wpAnyH_take (i := 33) (oi := ?oib33) (v := ?vvb33) ?hib33 (by kernel_rfl) (by kernel_rfl) (by kernel_rfl) ?hqb33 ?hyb33 hHeld ?_
 case hib33 => simp only [zga, zgs, zgz]; rfl
 case hqb33 => exact fun _ _ _ h => hQ0 _ _ _ _ _ h
 case hyb33 => refine .inl ⟨by rfl, ?_⟩; intro w' hSw; (try dsimp only at hSw); go_simp; try with_reducible rfl
 simp only [Act.put, zsa, zsz, zss];refine wpAnyH_take (i := 34) (oi := ?oib34) (v := ?vvb34) ?hib34 (by kernel_rfl) (by kernel_rfl) (by kernel_rfl) ?hqb34 ?hyb34 hHeld ?_
 case hib34 => simp only [zga, zgs, zgz]; rfl
 case hqb34 => exact fun _ _ _ h => hQ0 _ _ _ _ _ h
 case hyb34 => refine .inl ⟨by rfl, ?_⟩; intro w' hSw; (try dsimp only at hSw); go_simp; try with_reducible rfl
 simp only [Act.put, zsa, zsz, zss];refine wpAnyH_take (i := 35) (oi := ?oib35) (v := ?vvb35) ?hib35 (by kernel_rfl) (by kernel_rfl) (by kernel_rfl) ?hqb35 ?hyb35 hHeld ?_
 case hib35 => simp only [zga, zgs, zgz]; rfl
 case hqb35 => exact fun _ _ _ h => hQ0 _ _ _ _ _ h
 case hyb35 => refine .inl ⟨by rfl, ?_⟩; intro w' hSw; (try dsimp only at hSw); go_simp; try with_reducible rfl
 simp only [Act.put, zsa, zsz, zss];refine wpAnyH_take (i := 36) (oi := ?oib36) (v := ?vvb36) ?hib36 (by kernel_rfl) (by kernel_rfl) (by kernel_rfl) ?hqb36 ?hyb36 hHeld ?_
 case hib36 => simp only [zga, zgs, zgz]; rfl
 case hqb36 => exact fun _ _ _ h => hQ0 _ _ _ _ _ h
 case hyb36 => refine .inl ⟨by rfl, ?_⟩; intro w' hSw; (try dsimp only at hSw); go_simp; try with_reducible rfl
 simp only [Act.put, zsa, zsz, zss];refine wpAnyH_take (i := 37) (oi := ?oib37) (v := ?vvb37) ?hib37 (by kernel_rfl) (by kernel_rfl) (by kernel_rfl) ?hqb37 ?hyb37 hHeld ?_
 case hib37 => simp only [zga, zgs, zgz]; rfl
 case hqb37 => exact fun _ _ _ h => hQ0 _ _ _ _ _ h
 case hyb37 => refine .inl ⟨by rfl, ?_⟩; intro w' hSw; (try dsimp only at hSw); go_simp; try with_reducible rfl
 simp only [Act.put, zsa, zsz, zss];refine wpAnyH_take (i := 38) (oi := ?oib38) (v := ?vvb38) ?hib38 (by kernel_rfl) (by kernel_rfl) (by kernel_rfl) ?hqb38 ?hyb38 hHeld ?_
 case hib38 => simp only [zga, zgs, zgz]; rfl
 case hqb38 => exact fun _ _ _ h => hQ0 _ _ _ _ _ h
 case hyb38 => refine .inl ⟨by rfl, ?_⟩; intro w' hSw; (try dsimp only at hSw); go_simp; try with_reducible rfl
 simp only [Act.put, zsa, zsz, zss];refine wpAnyH_take (i := 39) (oi := ?oib39) (v := ?vvb39) ?hib39 (by kernel_rfl) (by kernel_rfl) (by kernel_rfl) ?hqb39 ?hyb39 hHeld ?_
 case hib39 => simp only [zga, zgs, zgz]; rfl
 case hqb39 => exact fun _ _ _ h => hQ0 _ _ _ _ _ h
 case hyb39 => refine .inl ⟨by rfl, ?_⟩; intro w' hSw; (try dsimp only at hSw); go_simp; try with_reducible rfl
 simp only [Act.put, zsa, zsz, zss];refine wpAnyH_take (i := 40) (oi := ?oib40) (v := ?vvb40) ?hib40 (by kernel_rfl) (by kernel_rfl) (by kernel_rfl) ?hqb40 ?hyb40 hHeld ?_
 case hib40 => simp only [zga, zgs, zgz]; rfl
 case hqb40 => exact fun _ _ _ h => hQ0 _ _ _ _ _ h
 case hyb40 => refine .inl ⟨by rfl, ?_⟩; intro w' hSw; (try dsimp only at hSw); go_simp; try with_reducible rfl
 simp only [Act.put, zsa, zsz, zss];refine wpAnyH_take (i := 41) (oi := ?oib41) (v := ?vvb41) ?hib41 (by kernel_rfl) (by kernel_rfl) (by kernel_rfl) ?hqb41 ?hyb41 hHeld ?_
 case hib41 => simp only [zga, zgs, zgz]; rfl
 case hqb41 => exact fun _ _ _ h => hQ0 _ _ _ _ _ h
 case hyb41 => refine .inl ⟨by rfl, ?_⟩; intro w' hSw; (try dsimp only at hSw); go_simp; try with_reducible rfl
 simp only [Act.put, zsa, zsz, zss];refine wpAnyH_done (by kernel_rfl) ?_ _;exact HK.out _ _ _ _ _ _ _ _ _ _ _ _ _ _ _ _ _ _ _ _ _ _ _ _ _ _ _ _ _ _ _ _ _ _ _ _ _ _ _ _ _ _ (fun _ => rfl) rfl rfl rfl rfl

theorem le_r18 (NB LB N n rb ro rn rc R x k tb : Nat) (bv : Bool) (z0z z1z z2z z4z z8z z9z z10z z11z z12z z13z z14z z15z z16z z17z z18z z19z z20z z21z z22z z23z z24z z25z z26z z27z z28z z29z z30z z31z z32z z33z z34z z35z z36z z37z z38z z39z z40z z41z z42z z43z z44z z45z z46z z47z z48z z49z z50z z51z z52z z53z z54z z55z z56z z57z z58z z59z z60z z61z z62z z63z z64z z65z z66z z67z z68z z69z z70z z71z z72z z73z z74z z75z z76z z77z z78z z79z z80z z81z z82z z83z z84z z85z z86z z87z z88z z89z z90z z91z z92z z93z z94z z95z z96z z97z z98z z99z z100z z101z z102z z103z z104z z105z z106z z107z z108z z109z z110z z111z z112z z113z z114z z115z z116z z117z z118z z119z z120z z121z z122z z123z z124z z125z z126z z127z z128z z129z z130z z131z z132z z133z z134z z135z z136z z137z z138z z139z z140z z141z z142z z143z z144z z145z z146z z147z z148z z149z z150z z151z z152z z153z z154z z155z z156z z157z z158z z159z z160z z161z z162z z163z z164z z165z z166z z167z z168z z169z z170z z171z z172z z173z z174z z175z z176z z177z z178z z179z z180z z181z z182z z183z z184z z185z z186z z187z z188z z189z z190z z191z z192z z193z z194z z195z : Value) (DF : List Deferred) (Q0 : Exit → Act → World → Prop) (w1 : World) (hQ0 : ∀ c (a : Act) (dd : Option Tmp) v x, Q0 (.panic c) (a.put dd v) x → Q0 (.panic c) a x) (h0 : w1.cell? ⟨NB, n, none⟩ = some (.slice (some ⟨rb, ro, none⟩) rn rc)) (h1 : w1.cell? ⟨rb, ro + k, none⟩ = some (.int .i64 (x : Int))) (h2 : w1.cell? ⟨LB, n, none⟩ = some (.slice (some ⟨tb, 0, none⟩) R R)) (hc : w1.cell? ⟨tb, x, none⟩ = some (.bool bv)) (hz : w1.frozen? ⟨tb, x, none⟩ = false) (hn : n < N) (hk : k < rn) (hx : x < R) (HNE : Hid (NB ≠ tb ∧ rb ≠ tb ∧ LB ≠ tb))
  (HK : Hid (∀ y105 y106 y107 y108 y109 y110 y111 y112 y113 y114 y115 y116 (W : World), (∀ q : Nat, W.heap[q]? = (w1.setCell ⟨tb, x, none⟩ (.bool true)).heap[q]?) → W.heap.size = (w1.setCell ⟨tb, x, none⟩ (.bool true)).heap.size → W.os = w1.os → W.tape = w1.tape → W.output = w1.output → Q0 .normal ⟨#[z0z, z1z, z2z, .slice (some ⟨NB, 0, none⟩) N N, z4z, .slice (some ⟨LB, 0, none⟩) N N, .int .i64 (n : Int), .int .i64 (k : Int), z8z, z9z, z10z, z11z, z12z, z13z, z14z, z15z, z16z, z17z, z18z, z19z, z20z, z21z, z22z, z23z, z24z, z25z, z26z, z27z, z28z, z29z, z30z, z31z, z32z, z33z, z34z, z35z, z36z, z37z, z38z, z39z, z40z, z41z, z42z, z43z, z44z, z45z, z46z, z47z, z48z, z49z, z50z, z51z, z52z, z53z, z54z, z55z, z56z, z57z, z58z, z59z, z60z, z61z, z62z, z63z, z64z, z65z, z66z, z67z, z68z, z69z, z70z, z71z, z72z, z73z, z74z, z75z, z76z, z77z, z78z, z79z, z80z, z81z, z82z, z83z, z84z, z85z, z86z, z87z, z88z, z89z, z90z, z91z, z92z, z93z, z94z, z95z, z96z, z97z, z98z, z99z, z100z, z101z, z102z, z103z, z104z, y105, y106, y107, y108, y109, y110, y111, y112, y113, y114, y115, y116, z117z, z118z, z119z, z120z, z121z, z122z, z123z, z124z, z125z, z126z, z127z, z128z, z129z, z130z, z131z, z132z, z133z, z134z, z135z, z136z, z137z, z138z, z139z, z140z, z141z, z142z, z143z, z144z, z145z, z146z, z147z, z148z, z149z, z150z, z151z, z152z, z153z, z154z, z155z, z156z, z157z, z158z, z159z, z160z, z161z, z162z, z163z, z164z, z165z, z166z, z167z, z168z, z169z, z170z, z171z, z172z, z173z, z174z, z175z, z176z, z177z, z178z, z179z, z180z, z181z, z182z, z183z, z184z, z185z, z186z, z187z, z188z, z189z, z190z, z191z, z192z, z193z, z194z, z195z], DF⟩ W)) :
  Code.wp prog leR18 Q0 ⟨#[z0z, z1z, z2z, .slice (some ⟨NB, 0, none⟩) N N, z4z, .slice (some ⟨LB, 0, none⟩) N N, .int .i64 (n : Int), .int .i64 (k : Int), z8z, z9z, z10z, z11z, z12z, z13z, z14z, z15z, z16z, z17z, z18z, z19z, z20z, z21z, z22z, z23z, z24z, z25z, z26z, z27z, z28z, z29z, z30z, z31z, z32z, z33z, z34z, z35z, z36z, z37z, z38z, z39z, z40z, z41z, z42z, z43z, z44z, z45z, z46z, z47z, z48z, z49z, z50z, z51z, z52z, z53z, z54z, z55z, z56z, z57z, z58z, z59z, z60z, z61z, z62z, z63z, z64z, z65z, z66z, z67z, z68z, z69z, z70z, z71z, z72z, z73z, z74z, z75z, z76z, z77z, z78z, z79z, z80z, z81z, z82z, z83z, z84z, z85z, z86z, z87z, z88z, z89z, z90z, z91z, z92z, z93z, z94z, z95z, z96z, z97z, z98z, z99z, z100z, z101z, z102z, z103z, z104z, z105z, z106z, z107z, z108z, z109z, z110z, z111z, z112z, z113z, z114z, z115z, z116z, z117z, z118z, z119z, z120z, z121z, z122z, z123z, z124z, z125z, z126z, z127z, z128z, z129z, z130z, z131z, z132z, z133z, z134z, z135z, z136z, z137z, z138z, z139z, z140z, z141z, z142z, z143z, z144z, z145z, z146z, z147z, z148z, z149z, z150z, z151z, z152z, z153z, z154z, z155z, z156z, z157z, z158z, z159z, z160z, z161z, z162z, z163z, z164z, z165z, z166z, z167z, z168z, z169z, z170z, z171z, z172z, z173z, z174z, z175z, z176z, z177z, z178z, z179z, z180z, z181z, z182z, z183z, z184z, z185z, z186z, z187z, z188z, z189z, z190z, z191z, z192z, z193z, z194z, z195z], DF⟩ w1 := by
 have n0 : (0 : Int) ≤ n := by omega
 have n1 : (n : Int) < N := by omega
 have k0 : (0 : Int) ≤ k := by omega
 have k1 : (k : Int) < rn := by omega
 have x0 : (0 : Int) ≤ x := by omega
 have x1 : (x : Int) < R := by omega
 conv => arg 2; whnf
 refine wp_region_held_drew (S := (fun w' => w'.cell? ⟨NB, n, none⟩ = some (.slice (some ⟨rb, ro, none⟩) rn rc) ∧ w'.cell? ⟨rb, ro + k, none⟩ = some (.int .i64 (x : Int)) ∧ w'.cell? ⟨LB, n, none⟩ = some (.slice (some ⟨tb, 0, none⟩) R R))) (by kernel_rfl) (⟨h0, h1, h2⟩) (fun hHeld => ?_);refine wpAnyH_take (i := 0) (oi := ?o0) (v := ?v0) ?i0 (by kernel_rfl) (by kernel_rfl) (by kernel_rfl) ?q0 ?y0 hHeld ?_
 case i0 => simp only [zga, zgs, zgz]; rfl
 case q0 => exact fun _ _ _ h => hQ0 _ _ _ _ _ h
 case y0 => refine .inl ⟨by rfl, ?_⟩; intro w' hSw; (try dsimp only at hSw); go_simp; try with_reducible rfl
 simp only [Act.put, zsa, zsz, zss];refine wpAnyH_take (i := 1) (oi := ?o1) (v := ?v1) ?i1 (by kernel_rfl) (by kernel_rfl) (by kernel_rfl) ?q1 ?y1 hHeld ?_
 case i1 => simp only [zga, zgs, zgz]; rfl
 case q1 => exact fun _ _ _ h => hQ0 _ _ _ _ _ h
 case y1 => refine .inl ⟨by rfl, ?_⟩; intro w' hSw; (try dsimp only at hSw); go_simp; try with_reducible rfl
 simp only [Act.put, zsa, zsz, zss];refine wpAnyH_take (i := 2) (oi := ?o2) (v := ?v2) ?i2 (by kernel_rfl) (by kernel_rfl) (by kernel_rfl) ?q2 ?y2 hHeld ?_
 case i2 => simp only [zga, zgs, zgz]; rfl
 case q2 => exact fun _ _ _ h => hQ0 _ _ _ _ _ h
 case y2 => refine .inl ⟨by rfl, ?_⟩; intro w' hSw; (try dsimp only at hSw); go_simp; try with_reducible rfl
 simp only [Act.put, zsa, zsz, zss];refine wpAnyH_take (i := 3) (oi := ?o3) (v := ?v3) ?i3 (by kernel_rfl) (by kernel_rfl) (by kernel_rfl) ?q3 ?y3 hHeld ?_
 case i3 => simp only [zga, zgs, zgz]; rfl
 case q3 => exact fun _ _ _ h => hQ0 _ _ _ _ _ h
 case y3 => refine .inl ⟨by rfl, ?_⟩; intro w' hSw; (try dsimp only at hSw); go_simp; try with_reducible rfl
 simp only [Act.put, zsa, zsz, zss];refine wpAnyH_take (i := 4) (oi := ?o4) (v := ?v4) ?i4 (by kernel_rfl) (by kernel_rfl) (by kernel_rfl) ?q4 ?y4 hHeld ?_
 case i4 => simp only [zga, zgs, zgz]; rfl
 case q4 => exact fun _ _ _ h => hQ0 _ _ _ _ _ h
 case y4 => refine .inl ⟨by rfl, ?_⟩; intro w' hSw; (try dsimp only at hSw); go_simp; try with_reducible rfl
 simp only [Act.put, zsa, zsz, zss];refine wpAnyH_take (i := 5) (oi := ?o5) (v := ?v5) ?i5 (by kernel_rfl) (by kernel_rfl) (by kernel_rfl) ?q5 ?y5 hHeld ?_
 case i5 => simp only [zga, zgs, zgz]; rfl
 case q5 => exact fun _ _ _ h => hQ0 _ _ _ _ _ h
 case y5 => refine .inl ⟨by rfl, ?_⟩; intro w' hSw; (try dsimp only at hSw); go_simp; try with_reducible rfl
 simp only [Act.put, zsa, zsz, zss];refine wpAnyH_take (i := 6) (oi := ?o6) (v := ?v6) ?i6 (by kernel_rfl) (by kernel_rfl) (by kernel_rfl) ?q6 ?y6 hHeld ?_
 case i6 => simp only [zga, zgs, zgz]; rfl
 case q6 => exact fun _ _ _ h => hQ0 _ _ _ _ _ h
 case y6 => refine .inl ⟨by rfl, ?_⟩; intro w' hSw; (try dsimp only at hSw); go_simp; try with_reducible rfl
 simp only [Act.put, zsa, zsz, zss];refine wpAnyH_take (i := 7) (oi := ?o7) (v := ?v7) ?i7 (by kernel_rfl) (by kernel_rfl) (by kernel_rfl) ?q7 ?y7 hHeld ?_
 case i7 => simp only [zga, zgs, zgz]; rfl
 case q7 => exact fun _ _ _ h => hQ0 _ _ _ _ _ h
 case y7 => refine .inl ⟨by rfl, ?_⟩; intro w' hSw; (try dsimp only at hSw); go_simp; try with_reducible rfl
 simp only [Act.put, zsa, zsz, zss];refine wpAnyH_take (i := 8) (oi := ?o8) (v := ?v8) ?i8 (by kernel_rfl) (by kernel_rfl) (by kernel_rfl) ?q8 ?y8 hHeld ?_
 case i8 => simp only [zga, zgs, zgz]; rfl
 case q8 => exact fun _ _ _ h => hQ0 _ _ _ _ _ h
 case y8 => refine .inl ⟨by rfl, ?_⟩; intro w' hSw; (try dsimp only at hSw); go_simp; try with_reducible rfl
 simp only [Act.put, zsa, zsz, zss];refine wpAnyH_take (i := 9) (oi := ?o9) (v := ?v9) ?i9 (by kernel_rfl) (by kernel_rfl) (by kernel_rfl) ?q9 ?y9 hHeld ?_
 case i9 => simp only [zga, zgs, zgz]; rfl
 case q9 => exact fun _ _ _ h => hQ0 _ _ _ _ _ h
 case y9 => refine .inl ⟨by rfl, ?_⟩; intro w' hSw; (try dsimp only at hSw); go_simp; try with_reducible rfl
 simp only [Act.put, zsa, zsz, zss];refine wpAnyH_take (i := 10) (oi := ?o10) (v := ?v10) ?i10 (by kernel_rfl) (by kernel_rfl) (by kernel_rfl) ?q10 ?y10 hHeld ?_
 case i10 => simp only [zga, zgs, zgz]; rfl
 case q10 => exact fun _ _ _ h => hQ0 _ _ _ _ _ h
 case y10 => refine .inl ⟨by rfl, ?_⟩; intro w' hSw; (try dsimp only at hSw); go_simp; try with_reducible rfl
 simp only [Act.put, zsa, zsz, zss];refine wpAnyH_take (i := 11) (oi := ?o11) (v := ?v11) ?i11 (by kernel_rfl) (by kernel_rfl) (by kernel_rfl) ?q11 ?y11 hHeld ?_
 case i11 => simp only [zga, zgs, zgz]; rfl
 case q11 => exact fun _ _ _ h => hQ0 _ _ _ _ _ h
 case y11 => refine .inl ⟨by rfl, ?_⟩; intro w' hSw; (try dsimp only at hSw); go_simp; try with_reducible rfl
 simp only [Act.put, zsa, zsz, zss];refine zr (r := 12) (o := ?o12) (by kernel_rfl) ?i12 (fun K hK => ?g12)
 case i12 => simp only [zga, zgs, zgz]; rfl
 case g12 =>
  go_simp;refine hK.out _ _ (⟨keep_set hHeld.1 HNE.out.1, keep_set hHeld.2.1 HNE.out.2.1, keep_set hHeld.2.2 HNE.out.2.2⟩) (fun hN => ?_);clear hK K hHeld;have hHeld := hN;clear hN
  try simp only [Act.put, zsa, zsz, zss]
  refine wpAnyH_done (by kernel_rfl) ?_ _;exact HK.out _ _ _ _ _ _ _ _ _ _ _ _ _ (fun _ => rfl) rfl rfl rfl rfl

theorem le_r32a (FB LB N n ob R r tb : Nat) (z0z z2z z3z z4z z6z z7z z10z z13z z14z z15z z16z z17z z18z z19z z20z z21z z22z z23z z24z z25z z26z z27z z28z z29z z30z z31z z32z z33z z34z z35z z36z z37z z38z z39z z40z z41z z42z z43z z44z z45z z46z z47z z48z z49z z50z z51z z52z z53z z54z z55z z56z z57z z58z z59z z60z z61z z62z z63z z64z z65z z66z z67z z68z z69z z70z z71z z72z z73z z74z z75z z76z z77z z78z z79z z80z z81z z82z z83z z84z z85z z86z z87z z88z z89z z90z z91z z92z z93z z94z z95z z96z z97z z98z z99z z100z z101z z102z z103z z104z z105z z106z z107z z108z z109z z110z z111z z112z z113z z114z z115z z116z z117z z118z z119z z120z z121z z122z z123z z124z z125z z126z z127z z128z z129z z130z z131z z132z z133z z134z z135z z136z z137z z138z z139z z140z z141z z142z z143z z144z z145z z146z z147z z148z z149z z150z z151z z152z z153z z154z z155z z156z z157z z158z z159z z160z z161z z162z z163z z164z z165z z166z z167z z168z z169z z170z z171z z172z z173z z174z z175z z176z z177z z178z z179z z180z z181z z182z z183z z184z z185z z186z z187z z188z z189z z190z z191z z192z z193z z194z z195z : Value) (DF : List Deferred) (Q0 : Exit → Act → World → Prop) (w1 : World) (hQ0 : ∀ c (a : Act) (dd : Option Tmp) v x, Q0 (.panic c) (a.put dd v) x → Q0 (.panic c) a x) (h0 : w1.cell? ⟨LB, n, none⟩ = some (.slice (some ⟨tb, 0, none⟩) R R)) (h1 : w1.cell? ⟨tb, r, none⟩ = some (.bool true)) (hn : n < N) (hr : r < R)
  (HK : Hid (∀ y154 y155 y156 y157 y158 y159 y160 y161 y162 y163 y164 y165 y166 y167 y168 y169 y170 y171 y172 y173 y174 y175 y176 y177 (W : World), (∀ q : Nat, W.heap[q]? = w1.heap[q]?) → W.heap.size = w1.heap.size → W.os = w1.os → W.tape = w1.tape → W.output = w1.output → Q0 .normal ⟨#[z0z, .pointer (some ⟨FB, 0, none⟩), z2z, z3z, z4z, .slice (some ⟨LB, 0, none⟩) N N, z6z, z7z, .int .i64 (n : Int), .slice (some ⟨ob, 0, none⟩) R R, z10z, .int .i64 (r : Int), .bool true, z13z, z14z, z15z, z16z, z17z, z18z, z19z, z20z, z21z, z22z, z23z, z24z, z25z, z26z, z27z, z28z, z29z, z30z, z31z, z32z, z33z, z34z, z35z, z36z, z37z, z38z, z39z, z40z, z41z, z42z, z43z, z44z, z45z, z46z, z47z, z48z, z49z, z50z, z51z, z52z, z53z, z54z, z55z, z56z, z57z, z58z, z59z, z60z, z61z, z62z, z63z, z64z, z65z, z66z, z67z, z68z, z69z, z70z, z71z, z72z, z73z, z74z, z75z, z76z, z77z, z78z, z79z, z80z, z81z, z82z, z83z, z84z, z85z, z86z, z87z, z88z, z89z, z90z, z91z, z92z, z93z, z94z, z95z, z96z, z97z, z98z, z99z, z100z, z101z, z102z, z103z, z104z, z105z, z106z, z107z, z108z, z109z, z110z, z111z, z112z, z113z, z114z, z115z, z116z, z117z, z118z, z119z, z120z, z121z, z122z, z123z, z124z, z125z, z126z, z127z, z128z, z129z, z130z, z131z, z132z, z133z, z134z, z135z, z136z, z137z, z138z, z139z, z140z, z141z, z142z, z143z, z144z, z145z, z146z, z147z, z148z, z149z, z150z, z151z, z152z, z153z, y154, y155, y156, y157, y158, y159, y160, y161, y162, y163, y164, y165, y166, y167, y168, y169, y170, y171, y172, y173, y174, y175, y176, y177, .bool false, z179z, z180z, z181z, z182z, z183z, z184z, z185z, z186z, z187z, z188z, z189z, z190z, z191z, z192z, z193z, z194z, z195z], DF⟩ W)) :
  Code.wp prog leR32 Q0 ⟨#[z0z, .pointer (some ⟨FB, 0, none⟩), z2z, z3z, z4z, .slice (some ⟨LB, 0, none⟩) N N, z6z, z7z, .int .i64 (n : Int), .slice (some ⟨ob, 0, none⟩) R R, z10z, .int .i64 (r : Int), .bool true, z13z, z14z, z15z, z16z, z17z, z18z, z19z, z20z, z21z, z22z, z23z, z24z, z25z, z26z, z27z, z28z, z29z, z30z, z31z, z32z, z33z, z34z, z35z, z36z, z37z, z38z, z39z, z40z, z41z, z42z, z43z, z44z, z45z, z46z, z47z, z48z, z49z, z50z, z51z, z52z, z53z, z54z, z55z, z56z, z57z, z58z, z59z, z60z, z61z, z62z, z63z, z64z, z65z, z66z, z67z, z68z, z69z, z70z, z71z, z72z, z73z, z74z, z75z, z76z, z77z, z78z, z79z, z80z, z81z, z82z, z83z, z84z, z85z, z86z, z87z, z88z, z89z, z90z, z91z, z92z, z93z, z94z, z95z, z96z, z97z, z98z, z99z, z100z, z101z, z102z, z103z, z104z, z105z, z106z, z107z, z108z, z109z, z110z, z111z, z112z, z113z, z114z, z115z, z116z, z117z, z118z, z119z, z120z, z121z, z122z, z123z, z124z, z125z, z126z, z127z, z128z, z129z, z130z, z131z, z132z, z133z, z134z, z135z, z136z, z137z, z138z, z139z, z140z, z141z, z142z, z143z, z144z, z145z, z146z, z147z, z148z, z149z, z150z, z151z, z152z, z153z, z154z, z155z, z156z, z157z, z158z, z159z, z160z, z161z, z162z, z163z, z164z, z165z, z166z, z167z, z168z, z169z, z170z, z171z, z172z, z173z, z174z, z175z, z176z, z177z, z178z, z179z, z180z, z181z, z182z, z183z, z184z, z185z, z186z, z187z, z188z, z189z, z190z, z191z, z192z, z193z, z194z, z195z], DF⟩ w1 := by
 have n0 : (0 : Int) ≤ n := by omega
 have n1 : (n : Int) < N := by omega
 have r0 : (0 : Int) ≤ r := by omega
 have r1 : (r : Int) < R := by omega
 conv => arg 2; whnf
 refine wp_region_held_drew (S := (fun w' => w'.cell? ⟨LB, n, none⟩ = some (.slice (some ⟨tb, 0, none⟩) R R) ∧ w'.cell? ⟨tb, r, none⟩ = some (.bool true))) (by kernel_rfl) (⟨h0, h1⟩) (fun hHeld => ?_);refine wpAnyH_take (i := 0) (oi := ?oic0) (v := ?vvc0) ?hic0 (by kernel_rfl) (by kernel_rfl) (by kernel_rfl) ?hqc0 ?hyc0 hHeld ?_
 case hic0 => simp only [zga, zgs, zgz]; rfl
 case hqc0 => exact fun _ _ _ h => hQ0 _ _ _ _ _ h
 case hyc0 => refine .inl ⟨by rfl, ?_⟩; intro w' hSw; (try dsimp only at hSw); go_simp; try with_reducible rfl
 simp only [Act.put, zsa, zsz, zss];refine wpAnyH_take (i := 1) (oi := ?oic1) (v := ?vvc1) ?hic1 (by kernel_rfl) (by kernel_rfl) (by kernel_rfl) ?hqc1 ?hyc1 hHeld ?_
 case hic1 => simp only [zga, zgs, zgz]; rfl
 case hqc1 => exact fun _ _ _ h => hQ0 _ _ _ _ _ h
 case hyc1 => refine .inl ⟨by rfl, ?_⟩; intro w' hSw; (try dsimp only at hSw); go_simp; try with_reducible rfl
 simp only [Act.put, zsa, zsz, zss];refine wpAnyH_take (i := 2) (oi := ?oic2) (v := ?vvc2) ?hic2 (by kernel_rfl) (by kernel_rfl) (by kernel_rfl) ?hqc2 ?hyc2 hHeld ?_
 case hic2 => simp only [zga, zgs, zgz]; rfl
 case hqc2 => exact fun _ _ _ h => hQ0 _ _ _ _ _ h
 case hyc2 => refine .inl ⟨by rfl, ?_⟩; intro w' hSw; (try dsimp only at hSw); go_simp; try with_reducible rfl
 simp only [Act.put, zsa, zsz, zss];refine wpAnyH_take (i := 3) (oi := ?oic3) (v := ?vvc3) ?hic3 (by kernel_rfl) (by kernel_rfl) (by kernel_rfl) ?hqc3 ?hyc3 hHeld ?_
 case hic3 => simp only [zga, zgs, zgz]; rfl
 case hqc3 => exact fun _ _ _ h => hQ0 _ _ _ _ _ h
 case hyc3 => refine .inl ⟨by rfl, ?_⟩; intro w' hSw; (try dsimp only at hSw); go_simp; try with_reducible rfl
 simp only [Act.put, zsa, zsz, zss];refine wpAnyH_take (i := 4) (oi := ?oic4) (v := ?vvc4) ?hic4 (by kernel_rfl) (by kernel_rfl) (by kernel_rfl) ?hqc4 ?hyc4 hHeld ?_
 case hic4 => simp only [zga, zgs, zgz]; rfl
 case hqc4 => exact fun _ _ _ h => hQ0 _ _ _ _ _ h
 case hyc4 => refine .inl ⟨by rfl, ?_⟩; intro w' hSw; (try dsimp only at hSw); go_simp; try with_reducible rfl
 simp only [Act.put, zsa, zsz, zss];refine wpAnyH_take (i := 5) (oi := ?oic5) (v := ?vvc5) ?hic5 (by kernel_rfl) (by kernel_rfl) (by kernel_rfl) ?hqc5 ?hyc5 hHeld ?_
 case hic5 => simp only [zga, zgs, zgz]; rfl
 case hqc5 => exact fun _ _ _ h => hQ0 _ _ _ _ _ h
 case hyc5 => refine .inl ⟨by rfl, ?_⟩; intro w' hSw; (try dsimp only at hSw); go_simp; try with_reducible rfl
 simp only [Act.put, zsa, zsz, zss];refine wpAnyH_take (i := 6) (oi := ?oic6) (v := ?vvc6) ?hic6 (by kernel_rfl) (by kernel_rfl) (by kernel_rfl) ?hqc6 ?hyc6 hHeld ?_
 case hic6 => simp only [zga, zgs, zgz]; rfl
 case hqc6 => exact fun _ _ _ h => hQ0 _ _ _ _ _ h
 case hyc6 => refine .inl ⟨by rfl, ?_⟩; intro w' hSw; (try dsimp only at hSw); go_simp; try with_reducible rfl
 simp only [Act.put, zsa, zsz, zss];refine wpAnyH_take (i := 7) (oi := ?oic7) (v := ?vvc7) ?hic7 (by kernel_rfl) (by kernel_rfl) (by kernel_rfl) ?hqc7 ?hyc7 hHeld ?_
 case hic7 => simp only [zga, zgs, zgz]; rfl
 case hqc7 => exact fun _ _ _ h => hQ0 _ _ _ _ _ h
 case hyc7 => refine .inl ⟨by rfl, ?_⟩; intro w' hSw; (try dsimp only at hSw); go_simp; try with_reducible rfl
 simp only [Act.put, zsa, zsz, zss];refine wpAnyH_take (i := 8) (oi := ?oic8) (v := ?vvc8) ?hic8 (by kernel_rfl) (by kernel_rfl) (by kernel_rfl) ?hqc8 ?hyc8 hHeld ?_
 case hic8 => simp only [zga, zgs, zgz]; rfl
 case hqc8 => exact fun _ _ _ h => hQ0 _ _ _ _ _ h
 case hyc8 => refine .inl ⟨by rfl, ?_⟩; intro w' hSw; (try dsimp only at hSw); go_simp; try with_reducible rfl
 simp only [Act.put, zsa, zsz, zss];refine wpAnyH_take (i := 9) (oi := ?oic9) (v := undef) ?hic9 (by kernel_rfl) (by kernel_rfl) (by kernel_rfl) ?hqc9 ?hyc9 hHeld ?_
 case hic9 => simp only [zga, zgs, zgz]; rfl
 case hqc9 => exact fun _ _ _ h => hQ0 _ _ _ _ _ h
 case hyc9 => exact Or.inr ⟨by rfl, rfl⟩
 simp only [Act.put, zsa, zsz, zss];refine wpAnyH_take (i := 10) (oi := ?oic10) (v := undef) ?hic10 (by kernel_rfl) (by kernel_rfl) (by kernel_rfl) ?hqc10 ?hyc10 hHeld ?_
 case hic10 => simp only [zga, zgs, zgz]; rfl
 case hqc10 => exact fun _ _ _ h => hQ0 _ _ _ _ _ h
 case hyc10 => exact Or.inr ⟨by rfl, rfl⟩
 simp only [Act.put, zsa, zsz, zss];refine wpAnyH_take (i := 11) (oi := ?oic11) (v := undef) ?hic11 (by kernel_rfl) (by kernel_rfl) (by kernel_rfl) ?hqc11 ?hyc11 hHeld ?_
 case hic11 => simp only [zga, zgs, zgz]; rfl
 case hqc11 => exact fun _ _ _ h => hQ0 _ _ _ _ _ h
 case hyc11 => exact Or.inr ⟨by rfl, rfl⟩
 simp only [Act.put, zsa, zsz, zss];refine wpAnyH_take (i := 12) (oi := ?oic12) (v := undef) ?hic12 (by kernel_rfl) (by kernel_rfl) (by kernel_rfl) ?hqc12 ?hyc12 hHeld ?_
 case hic12 => simp only [zga, zgs, zgz]; rfl
 case hqc12 => exact fun _ _ _ h => hQ0 _ _ _ _ _ h
 case hyc12 => exact Or.inr ⟨by rfl, rfl⟩
 simp only [Act.put, zsa, zsz, zss];refine wpAnyH_take (i := 13) (oi := ?oic13) (v := undef) ?hic13 (by kernel_rfl) (by kernel_rfl) (by kernel_rfl) ?hqc13 ?hyc13 hHeld ?_
 case hic13 => simp only [zga, zgs, zgz]; rfl
 case hqc13 => exact fun _ _ _ h => hQ0 _ _ _ _ _ h
 case hyc13 => exact Or.inr ⟨by rfl, rfl⟩
 simp only [Act.put, zsa, zsz, zss];refine wpAnyH_take (i := 14) (oi := ?oic14) (v := undef) ?hic14 (by kernel_rfl) (by kernel_rfl) (by kernel_rfl) ?hqc14 ?hyc14 hHeld ?_
 case hic14 => simp only [zga, zgs, zgz]; rfl
 case hqc14 => exact fun _ _ _ h => hQ0 _ _ _ _ _ h
 case hyc14 => exact Or.inr ⟨by rfl, rfl⟩
 simp only [Act.put, zsa, zsz, zss];refine wpAnyH_take (i := 15) (oi := ?oic15) (v := undef) ?hic15 (by kernel_rfl) (by kernel_rfl) (by kernel_rfl) ?hqc15 ?hyc15 hHeld ?_
 case hic15 => simp only [zga, zgs, zgz]; rfl
 case hqc15 => exact fun _ _ _ h => hQ0 _ _ _ _ _ h
 case hyc15 => exact Or.inr ⟨by rfl, rfl⟩
 simp only [Act.put, zsa, zsz, zss];refine wpAnyH_take (i := 16) (oi := ?oic16) (v := undef) ?hic16 (by kernel_rfl) (by kernel_rfl) (by kernel_rfl) ?hqc16 ?hyc16 hHeld ?_
 case hic16 => simp only [zga, zgs, zgz]; rfl
 case hqc16 => exact fun _ _ _ h => hQ0 _ _ _ _ _ h
 case hyc16 => exact Or.inr ⟨by rfl, rfl⟩
 simp only [Act.put, zsa, zsz, zss];refine wpAnyH_take (i := 17) (oi := ?oic17) (v := undef) ?hic17 (by kernel_rfl) (by kernel_rfl) (by kernel_rfl) ?hqc17 ?hyc17 hHeld ?_
 case hic17 => simp only [zga, zgs, zgz]; rfl
 case hqc17 => exact fun _ _ _ h => hQ0 _ _ _ _ _ h
 case hyc17 => exact Or.inr ⟨by rfl, rfl⟩
 simp only [Act.put, zsa, zsz, zss];refine wpAnyH_take (i := 18) (oi := ?oic18) (v := undef) ?hic18 (by kernel_rfl) (by kernel_rfl) (by kernel_rfl) ?hqc18 ?hyc18 hHeld ?_
 case hic18 => simp only [zga, zgs, zgz]; rfl
 case hqc18 => exact fun _ _ _ h => hQ0 _ _ _ _ _ h
 case hyc18 => exact Or.inr ⟨by rfl, rfl⟩
 simp only [Act.put, zsa, zsz, zss];refine wpAnyH_take (i := 20) (oi := ?oic20) (v := undef) ?hic20 (by kernel_rfl) (by kernel_rfl) (by kernel_rfl) ?hqc20 ?hyc20 hHeld ?_
 case hic20 => simp only [zga, zgs, zgz]; rfl
 case hqc20 => exact fun _ _ _ h => hQ0 _ _ _ _ _ h
 case hyc20 => exact Or.inr ⟨by rfl, rfl⟩
 simp only [Act.put, zsa, zsz, zss];refine wpAnyH_ready (rs := [19]) (by kernel_rfl) (by simp) ?_;refine AllReadyH.cons (o := ?oic19) ?hic19 (fun K hK => ?_) AllReadyH.nil
 case hic19 => simp only [zga, zgs, zgz]; rfl
 go_simp;refine hK.out _ _ hHeld (fun hN => ?_);clear hK K hHeld;have hHeld := hN;clear hN
 try simp only [Act.put, zsa, zsz, zss]
 refine wpAnyH_take (i := 21) (oi := ?oic21) (v := undef) ?hic21 (by kernel_rfl) (by kernel_rfl) (by kernel_rfl) ?hqc21 ?hyc21 hHeld ?_
 case hic21 => simp only [zga, zgs, zgz]; rfl
 case hqc21 => exact fun _ _ _ h => hQ0 _ _ _ _ _ h
 case hyc21 => exact Or.inr ⟨by rfl, rfl⟩
 simp only [Act.put, zsa, zsz, zss];refine wpAnyH_take (i := 22) (oi := ?oic22) (v := undef) ?hic22 (by kernel_rfl) (by kernel_rfl) (by kernel_rfl) ?hqc22 ?hyc22 hHeld ?_
 case hic22 => simp only [zga, zgs, zgz]; rfl
 case hqc22 => exact fun _ _ _ h => hQ0 _ _ _ _ _ h
 case hyc22 => exact Or.inr ⟨by rfl, rfl⟩
 simp only [Act.put, zsa, zsz, zss];refine wpAnyH_take (i := 23) (oi := ?oic23) (v := ?vvc23) ?hic23 (by kernel_rfl) (by kernel_rfl) (by kernel_rfl) ?hqc23 ?hyc23 hHeld ?_
 case hic23 => simp only [zga, zgs, zgz]; rfl
 case hqc23 => exact fun _ _ _ h => hQ0 _ _ _ _ _ h
 case hyc23 => refine .inl ⟨by rfl, ?_⟩; intro w' hSw; (try dsimp only at hSw); go_simp; try with_reducible rfl
 simp only [Act.put, zsa, zsz, zss];refine wpAnyH_take (i := 24) (oi := ?oic24) (v := ?vvc24) ?hic24 (by kernel_rfl) (by kernel_rfl) (by kernel_rfl) ?hqc24 ?hyc24 hHeld ?_
 case hic24 => simp only [zga, zgs, zgz]; rfl
 case hqc24 => exact fun _ _ _ h => hQ0 _ _ _ _ _ h
 case hyc24 => refine .inl ⟨by rfl, ?_⟩; intro w' hSw; (try dsimp only at hSw); go_simp; try with_reducible rfl
 simp only [Act.put, zsa, zsz, zss];refine wpAnyH_done (by kernel_rfl) ?_ _;exact HK.out _ _ _ _ _ _ _ _ _ _ _ _ _ _ _ _ _ _ _ _ _ _ _ _ _ (fun _ => rfl) rfl rfl rfl rfl

theorem le_r32b (FB LB N n ob R r tb : Nat) (z0z z2z z3z z4z z6z z7z z10z z13z z14z z15z z16z z17z z18z z19z z20z z21z z22z z23z z24z z25z z26z z27z z28z z29z z30z z31z z32z z33z z34z z35z z36z z37z z38z z39z z40z z41z z42z z43z z44z z45z z46z z47z z48z z49z z50z z51z z52z z53z z54z z55z z56z z57z z58z z59z z60z z61z z62z z63z z64z z65z z66z z67z z68z z69z z70z z71z z72z z73z z74z z75z z76z z77z z78z z79z z80z z81z z82z z83z z84z z85z z86z z87z z88z z89z z90z z91z z92z z93z z94z z95z z96z z97z z98z z99z z100z z101z z102z z103z z104z z105z z106z z107z z108z z109z z110z z111z z112z z113z z114z z115z z116z z117z z118z z119z z120z z121z z122z z123z z124z z125z z126z z127z z128z z129z z130z z131z z132z z133z z134z z135z z136z z137z z138z z139z z140z z141z z142z z143z z144z z145z z146z z147z z148z z149z z150z z151z z152z z153z z154z z155z z156z z157z z158z z159z z160z z161z z162z z163z z164z z165z z166z z167z z168z z169z z170z z171z z172z z173z z174z z175z z176z z177z z178z z179z z180z z181z z182z z183z z184z z185z z186z z187z z188z z189z z190z z191z z192z z193z z194z z195z : Value) (DF : List Deferred) (Q0 : Exit → Act → World → Prop) (w1 : World) (hQ0 : ∀ c (a : Act) (dd : Option Tmp) v x, Q0 (.panic c) (a.put dd v) x → Q0 (.panic c) a x) (h0 : w1.cell? ⟨LB, n, none⟩ = some (.slice (some ⟨tb, 0, none⟩) R R)) (h1 : w1.cell? ⟨tb, r, none⟩ = some (.bool false)) (h2 : w1.cell? ⟨ob, r, none⟩ = some (.bool false)) (hn : n < N) (hr : r < R)
  (HK : Hid (∀ y154 y155 y156 y157 y158 y159 y160 y161 y162 y163 y164 y165 y166 y167 y168 y169 y170 y171 y172 y173 y174 y175 y176 y177 (W : World), (∀ q : Nat, W.heap[q]? = w1.heap[q]?) → W.heap.size = w1.heap.size → W.os = w1.os → W.tape = w1.tape → W.output = w1.output → Q0 .normal ⟨#[z0z, .pointer (some ⟨FB, 0, none⟩), z2z, z3z, z4z, .slice (some ⟨LB, 0, none⟩) N N, z6z, z7z, .int .i64 (n : Int), .slice (some ⟨ob, 0, none⟩) R R, z10z, .int .i64 (r : Int), .bool false, z13z, z14z, z15z, z16z, z17z, z18z, z19z, z20z, z21z, z22z, z23z, z24z, z25z, z26z, z27z, z28z, z29z, z30z, z31z, z32z, z33z, z34z, z35z, z36z, z37z, z38z, z39z, z40z, z41z, z42z, z43z, z44z, z45z, z46z, z47z, z48z, z49z, z50z, z51z, z52z, z53z, z54z, z55z, z56z, z57z, z58z, z59z, z60z, z61z, z62z, z63z, z64z, z65z, z66z, z67z, z68z, z69z, z70z, z71z, z72z, z73z, z74z, z75z, z76z, z77z, z78z, z79z, z80z, z81z, z82z, z83z, z84z, z85z, z86z, z87z, z88z, z89z, z90z, z91z, z92z, z93z, z94z, z95z, z96z, z97z, z98z, z99z, z100z, z101z, z102z, z103z, z104z, z105z, z106z, z107z, z108z, z109z, z110z, z111z, z112z, z113z, z114z, z115z, z116z, z117z, z118z, z119z, z120z, z121z, z122z, z123z, z124z, z125z, z126z, z127z, z128z, z129z, z130z, z131z, z132z, z133z, z134z, z135z, z136z, z137z, z138z, z139z, z140z, z141z, z142z, z143z, z144z, z145z, z146z, z147z, z148z, z149z, z150z, z151z, z152z, z153z, y154, y155, y156, y157, y158, y159, y160, y161, y162, y163, y164, y165, y166, y167, y168, y169, y170, y171, y172, y173, y174, y175, y176, y177, .bool false, z179z, z180z, z181z, z182z, z183z, z184z, z185z, z186z, z187z, z188z, z189z, z190z, z191z, z192z, z193z, z194z, z195z], DF⟩ W)) :
  Code.wp prog leR32 Q0 ⟨#[z0z, .pointer (some ⟨FB, 0, none⟩), z2z, z3z, z4z, .slice (some ⟨LB, 0, none⟩) N N, z6z, z7z, .int .i64 (n : Int), .slice (some ⟨ob, 0, none⟩) R R, z10z, .int .i64 (r : Int), .bool false, z13z, z14z, z15z, z16z, z17z, z18z, z19z, z20z, z21z, z22z, z23z, z24z, z25z, z26z, z27z, z28z, z29z, z30z, z31z, z32z, z33z, z34z, z35z, z36z, z37z, z38z, z39z, z40z, z41z, z42z, z43z, z44z, z45z, z46z, z47z, z48z, z49z, z50z, z51z, z52z, z53z, z54z, z55z, z56z, z57z, z58z, z59z, z60z, z61z, z62z, z63z, z64z, z65z, z66z, z67z, z68z, z69z, z70z, z71z, z72z, z73z, z74z, z75z, z76z, z77z, z78z, z79z, z80z, z81z, z82z, z83z, z84z, z85z, z86z, z87z, z88z, z89z, z90z, z91z, z92z, z93z, z94z, z95z, z96z, z97z, z98z, z99z, z100z, z101z, z102z, z103z, z104z, z105z, z106z, z107z, z108z, z109z, z110z, z111z, z112z, z113z, z114z, z115z, z116z, z117z, z118z, z119z, z120z, z121z, z122z, z123z, z124z, z125z, z126z, z127z, z128z, z129z, z130z, z131z, z132z, z133z, z134z, z135z, z136z, z137z, z138z, z139z, z140z, z141z, z142z, z143z, z144z, z145z, z146z, z147z, z148z, z149z, z150z, z151z, z152z, z153z, z154z, z155z, z156z, z157z, z158z, z159z, z160z, z161z, z162z, z163z, z164z, z165z, z166z, z167z, z168z, z169z, z170z, z171z, z172z, z173z, z174z, z175z, z176z, z177z, z178z, z179z, z180z, z181z, z182z, z183z, z184z, z185z, z186z, z187z, z188z, z189z, z190z, z191z, z192z, z193z, z194z, z195z], DF⟩ w1 := by
 have n0 : (0 : Int) ≤ n := by omega
 have n1 : (n : Int) < N := by omega
 have r0 : (0 : Int) ≤ r := by omega
 have r1 : (r : Int) < R := by omega
 conv => arg 2; whnf
 refine wp_region_held_drew (S := (fun w' => w'.cell? ⟨LB, n, none⟩ = some (.slice (some ⟨tb, 0, none⟩) R R) ∧ w'.cell? ⟨tb, r, none⟩ = some (.bool false) ∧ w'.cell? ⟨ob, r, none⟩ = some (.bool false))) (by kernel_rfl) (⟨h0, h1, h2⟩) (fun hHeld => ?_);refine wpAnyH_take (i := 0) (oi := ?oid0) (v := ?vvd0) ?hid0 (by kernel_rfl) (by kernel_rfl) (by kernel_rfl) ?hqd0 ?hyd0 hHeld ?_
 case hid0 => simp only [zga, zgs, zgz]; rfl
 case hqd0 => exact fun _ _ _ h => hQ0 _ _ _ _ _ h
 case hyd0 => refine .inl ⟨by rfl, ?_⟩; intro w' hSw; (try dsimp only at hSw); go_simp; try with_reducible rfl
 simp only [Act.put, zsa, zsz, zss];refine wpAnyH_take (i := 1) (oi := ?oid1) (v := ?vvd1) ?hid1 (by kernel_rfl) (by kernel_rfl) (by kernel_rfl) ?hqd1 ?hyd1 hHeld ?_
 case hid1 => simp only [zga, zgs, zgz]; rfl
 case hqd1 => exact fun _ _ _ h => hQ0 _ _ _ _ _ h
 case hyd1 => refine .inl ⟨by rfl, ?_⟩; intro w' hSw; (try dsimp only at hSw); go_simp; try with_reducible rfl
 simp only [Act.put, zsa, zsz, zss];refine wpAnyH_take (i := 2) (oi := ?oid2) (v := ?vvd2) ?hid2 (by kernel_rfl) (by kernel_rfl) (by kernel_rfl) ?hqd2 ?hyd2 hHeld ?_
 case hid2 => simp only [zga, zgs, zgz]; rfl
 case hqd2 => exact fun _ _ _ h => hQ0 _ _ _ _ _ h
 case hyd2 => refine .inl ⟨by rfl, ?_⟩; intro w' hSw; (try dsimp only at hSw); go_simp; try with_reducible rfl
 simp only [Act.put, zsa, zsz, zss];refine wpAnyH_take (i := 3) (oi := ?oid3) (v := ?vvd3) ?hid3 (by kernel_rfl) (by kernel_rfl) (by kernel_rfl) ?hqd3 ?hyd3 hHeld ?_
 case hid3 => simp only [zga, zgs, zgz]; rfl
 case hqd3 => exact fun _ _ _ h => hQ0 _ _ _ _ _ h
 case hyd3 => refine .inl ⟨by rfl, ?_⟩; intro w' hSw; (try dsimp only at hSw); go_simp; try with_reducible rfl
 simp only [Act.put, zsa, zsz, zss];refine wpAnyH_take (i := 4) (oi := ?oid4) (v := ?vvd4) ?hid4 (by kernel_rfl) (by kernel_rfl) (by kernel_rfl) ?hqd4 ?hyd4 hHeld ?_
 case hid4 => simp only [zga, zgs, zgz]; rfl
 case hqd4 => exact fun _ _ _ h => hQ0 _ _ _ _ _ h
 case hyd4 => refine .inl ⟨by rfl, ?_⟩; intro w' hSw; (try dsimp only at hSw); go_simp; try with_reducible rfl
 simp only [Act.put, zsa, zsz, zss];refine wpAnyH_take (i := 5) (oi := ?oid5) (v := ?vvd5) ?hid5 (by kernel_rfl) (by kernel_rfl) (by kernel_rfl) ?hqd5 ?hyd5 hHeld ?_
 case hid5 => simp only [zga, zgs, zgz]; rfl
 case hqd5 => exact fun _ _ _ h => hQ0 _ _ _ _ _ h
 case hyd5 => refine .inl ⟨by rfl, ?_⟩; intro w' hSw; (try dsimp only at hSw); go_simp; try with_reducible rfl
 simp only [Act.put, zsa, zsz, zss];refine wpAnyH_take (i := 6) (oi := ?oid6) (v := ?vvd6) ?hid6 (by kernel_rfl) (by kernel_rfl) (by kernel_rfl) ?hqd6 ?hyd6 hHeld ?_
 case hid6 => simp only [zga, zgs, zgz]; rfl
 case hqd6 => exact fun _ _ _ h => hQ0 _ _ _ _ _ h
 case hyd6 => refine .inl ⟨by rfl, ?_⟩; intro w' hSw; (try dsimp only at hSw); go_simp; try with_reducible rfl
 simp only [Act.put, zsa, zsz, zss];refine wpAnyH_take (i := 7) (oi := ?oid7) (v := ?vvd7) ?hid7 (by kernel_rfl) (by kernel_rfl) (by kernel_rfl) ?hqd7 ?hyd7 hHeld ?_
 case hid7 => simp only [zga, zgs, zgz]; rfl
 case hqd7 => exact fun _ _ _ h => hQ0 _ _ _ _ _ h
 case hyd7 => refine .inl ⟨by rfl, ?_⟩; intro w' hSw; (try dsimp only at hSw); go_simp; try with_reducible rfl
 simp only [Act.put, zsa, zsz, zss];refine wpAnyH_take (i := 8) (oi := ?oid8) (v := ?vvd8) ?hid8 (by kernel_rfl) (by kernel_rfl) (by kernel_rfl) ?hqd8 ?hyd8 hHeld ?_
 case hid8 => simp only [zga, zgs, zgz]; rfl
 case hqd8 => exact fun _ _ _ h => hQ0 _ _ _ _ _ h
 case hyd8 => refine .inl ⟨by rfl, ?_⟩; intro w' hSw; (try dsimp only at hSw); go_simp; try with_reducible rfl
 simp only [Act.put, zsa, zsz, zss];refine wpAnyH_take (i := 9) (oi := ?oid9) (v := ?vvd9) ?hid9 (by kernel_rfl) (by kernel_rfl) (by kernel_rfl) ?hqd9 ?hyd9 hHeld ?_
 case hid9 => simp only [zga, zgs, zgz]; rfl
 case hqd9 => exact fun _ _ _ h => hQ0 _ _ _ _ _ h
 case hyd9 => refine .inl ⟨by rfl, ?_⟩; intro w' hSw; (try dsimp only at hSw); go_simp; try with_reducible rfl
 simp only [Act.put, zsa, zsz, zss];refine wpAnyH_take (i := 10) (oi := ?oid10) (v := ?vvd10) ?hid10 (by kernel_rfl) (by kernel_rfl) (by kernel_rfl) ?hqd10 ?hyd10 hHeld ?_
 case hid10 => simp only [zga, zgs, zgz]; rfl
 case hqd10 => exact fun _ _ _ h => hQ0 _ _ _ _ _ h
 case hyd10 => refine .inl ⟨by rfl, ?_⟩; intro w' hSw; (try dsimp only at hSw); go_simp; try with_reducible rfl
 simp only [Act.put, zsa, zsz, zss];refine wpAnyH_take (i := 11) (oi := ?oid11) (v := ?vvd11) ?hid11 (by kernel_rfl) (by kernel_rfl) (by kernel_rfl) ?hqd11 ?hyd11 hHeld ?_
 case hid11 => simp only [zga, zgs, zgz]; rfl
 case hqd11 => exact fun _ _ _ h => hQ0 _ _ _ _ _ h
 case hyd11 => refine .inl ⟨by rfl, ?_⟩; intro w' hSw; (try dsimp only at hSw); go_simp; try with_reducible rfl
 simp only [Act.put, zsa, zsz, zss];refine wpAnyH_take (i := 12) (oi := ?oid12) (v := ?vvd12) ?hid12 (by kernel_rfl) (by kernel_rfl) (by kernel_rfl) ?hqd12 ?hyd12 hHeld ?_
 case hid12 => simp only [zga, zgs, zgz]; rfl
 case hqd12 => exact fun _ _ _ h => hQ0 _ _ _ _ _ h
 case hyd12 => refine .inl ⟨by rfl, ?_⟩; intro w' hSw; (try dsimp only at hSw); go_simp; try with_reducible rfl
 simp only [Act.put, zsa, zsz, zss];refine wpAnyH_take (i := 13) (oi := ?oid13) (v := ?vvd13) ?hid13 (by kernel_rfl) (by kernel_rfl) (by kernel_rfl) ?hqd13 ?hyd13 hHeld ?_
 case hid13 => simp only [zga, zgs, zgz]; rfl
 case hqd13 => exact fun _ _ _ h => hQ0 _ _ _ _ _ h
 case hyd13 => refine .inl ⟨by rfl, ?_⟩; intro w' hSw; (try dsimp only at hSw); go_simp; try with_reducible rfl
 simp only [Act.put, zsa, zsz, zss];refine wpAnyH_take (i := 14) (oi := ?oid14) (v := undef) ?hid14 (by kernel_rfl) (by kernel_rfl) (by kernel_rfl) ?hqd14 ?hyd14 hHeld ?_
 case hid14 => simp only [zga, zgs, zgz]; rfl
 case hqd14 => exact fun _ _ _ h => hQ0 _ _ _ _ _ h
 case hyd14 => exact Or.inr ⟨by rfl, rfl⟩
 simp only [Act.put, zsa, zsz, zss];refine wpAnyH_take (i := 15) (oi := ?oid15) (v := undef) ?hid15 (by kernel_rfl) (by kernel_rfl) (by kernel_rfl) ?hqd15 ?hyd15 hHeld ?_
 case hid15 => simp only [zga, zgs, zgz]; rfl
 case hqd15 => exact fun _ _ _ h => hQ0 _ _ _ _ _ h
 case hyd15 => exact Or.inr ⟨by rfl, rfl⟩
 simp only [Act.put, zsa, zsz, zss];refine wpAnyH_take (i := 16) (oi := ?oid16) (v := undef) ?hid16 (by kernel_rfl) (by kernel_rfl) (by kernel_rfl) ?hqd16 ?hyd16 hHeld ?_
 case hid16 => simp only [zga, zgs, zgz]; rfl
 case hqd16 => exact fun _ _ _ h => hQ0 _ _ _ _ _ h
 case hyd16 => exact Or.inr ⟨by rfl, rfl⟩
 simp only [Act.put, zsa, zsz, zss];refine wpAnyH_take (i := 17) (oi := ?oid17) (v := undef) ?hid17 (by kernel_rfl) (by kernel_rfl) (by kernel_rfl) ?hqd17 ?hyd17 hHeld ?_
 case hid17 => simp only [zga, zgs, zgz]; rfl
 case hqd17 => exact fun _ _ _ h => hQ0 _ _ _ _ _ h
 case hyd17 => exact Or.inr ⟨by rfl, rfl⟩
 simp only [Act.put, zsa, zsz, zss];refine wpAnyH_take (i := 18) (oi := ?oid18) (v := undef) ?hid18 (by kernel_rfl) (by kernel_rfl) (by kernel_rfl) ?hqd18 ?hyd18 hHeld ?_
 case hid18 => simp only [zga, zgs, zgz]; rfl
 case hqd18 => exact fun _ _ _ h => hQ0 _ _ _ _ _ h
 case hyd18 => exact Or.inr ⟨by rfl, rfl⟩
 simp only [Act.put, zsa, zsz, zss];refine wpAnyH_take (i := 20) (oi := ?oid20) (v := undef) ?hid20 (by kernel_rfl) (by kernel_rfl) (by kernel_rfl) ?hqd20 ?hyd20 hHeld ?_
 case hid20 => simp only [zga, zgs, zgz]; rfl
 case hqd20 => exact fun _ _ _ h => hQ0 _ _ _ _ _ h
 case hyd20 => exact Or.inr ⟨by rfl, rfl⟩
 simp only [Act.put, zsa, zsz, zss];refine wpAnyH_ready (rs := [19]) (by kernel_rfl) (by simp) ?_;refine AllReadyH.cons (o := ?oid19) ?hid19 (fun K hK => ?_) AllReadyH.nil
 case hid19 => simp only [zga, zgs, zgz]; rfl
 go_simp;refine hK.out _ _ hHeld (fun hN => ?_);clear hK K hHeld;have hHeld := hN;clear hN
 try simp only [Act.put, zsa, zsz, zss]
 refine wpAnyH_take (i := 21) (oi := ?oid21) (v := undef) ?hid21 (by kernel_rfl) (by kernel_rfl) (by kernel_rfl) ?hqd21 ?hyd21 hHeld ?_
 case hid21 => simp only [zga, zgs, zgz]; rfl
 case hqd21 => exact fun _ _ _ h => hQ0 _ _ _ _ _ h
 case hyd21 => exact Or.inr ⟨by rfl, rfl⟩
 simp only [Act.put, zsa, zsz, zss];refine wpAnyH_take (i := 22) (oi := ?oid22) (v := ?vvd22) ?hid22 (by kernel_rfl) (by kernel_rfl) (by kernel_rfl) ?hqd22 ?hyd22 hHeld ?_
 case hid22 => simp only [zga, zgs, zgz]; rfl
 case hqd22 => exact fun _ _ _ h => hQ0 _ _ _ _ _ h
 case hyd22 => refine .inl ⟨by rfl, ?_⟩; intro w' hSw; (try dsimp only at hSw); go_simp; try with_reducible rfl
 simp only [Act.put, zsa, zsz, zss];refine wpAnyH_take (i := 23) (oi := ?oid23) (v := ?vvd23) ?hid23 (by kernel_rfl) (by kernel_rfl) (by kernel_rfl) ?hqd23 ?hyd23 hHeld ?_
 case hid23 => simp only [zga, zgs, zgz]; rfl
 case hqd23 => exact fun _ _ _ h => hQ0 _ _ _ _ _ h
 case hyd23 => refine .inl ⟨by rfl, ?_⟩; intro w' hSw; (try dsimp only at hSw); go_simp; try with_reducible rfl
 simp only [Act.put, zsa, zsz, zss];refine wpAnyH_take (i := 24) (oi := ?oid24) (v := ?vvd24) ?hid24 (by kernel_rfl) (by kernel_rfl) (by kernel_rfl) ?hqd24 ?hyd24 hHeld ?_
 case hid24 => simp only [zga, zgs, zgz]; rfl
 case hqd24 => exact fun _ _ _ h => hQ0 _ _ _ _ _ h
 case hyd24 => refine .inl ⟨by rfl, ?_⟩; intro w' hSw; (try dsimp only at hSw); go_simp; try with_reducible rfl
 simp only [Act.put, zsa, zsz, zss];refine wpAnyH_done (by kernel_rfl) ?_ _;exact HK.out _ _ _ _ _ _ _ _ _ _ _ _ _ _ _ _ _ _ _ _ _ _ _ _ _ (fun _ => rfl) rfl rfl rfl rfl

theorem le_r32t (FB LB N n ob R r tb : Nat) (cb co cap vn vc : Nat) (va : Option Addr) (xi : Ins) (wv : Int) (HWC : Hid (∀ W, Calls prog 14 #[insV xi.op xi.sub xi.a xi.b xi.d xi.k (.slice va vn vc) xi.s xi.t] W (retP (.int .i64 wv) W))) (hq : (wv != (r : Int)) = true) (z0z z2z z3z z4z z6z z7z z10z z13z z14z z15z z16z z17z z18z z19z z20z z21z z22z z23z z24z z25z z26z z27z z28z z29z z30z z31z z32z z33z z34z z35z z36z z37z z38z z39z z40z z41z z42z z43z z44z z45z z46z z47z z48z z49z z50z z51z z52z z53z z54z z55z z56z z57z z58z z59z z60z z61z z62z z63z z64z z65z z66z z67z z68z z69z z70z z71z z72z z73z z74z z75z z76z z77z z78z z79z z80z z81z z82z z83z z84z z85z z86z z87z z88z z89z z90z z91z z92z z93z z94z z95z z96z z97z z98z z99z z100z z101z z102z z103z z104z z105z z106z z107z z108z z109z z110z z111z z112z z113z z114z z115z z116z z117z z118z z119z z120z z121z z122z z123z z124z z125z z126z z127z z128z z129z z130z z131z z132z z133z z134z z135z z136z z137z z138z z139z z140z z141z z142z z143z z144z z145z z146z z147z z148z z149z z150z z151z z152z z153z z154z z155z z156z z157z z158z z159z z160z z161z z162z z163z z164z z165z z166z z167z z168z z169z z170z z171z z172z z173z z174z z175z z176z z177z z178z z179z z180z z181z z182z z183z z184z z185z z186z z187z z188z z189z z190z z191z z192z z193z z194z z195z : Value) (DF : List Deferred) (Q0 : Exit → Act → World → Prop) (w1 : World) (hQ0 : ∀ c (a : Act) (dd : Option Tmp) v x, Q0 (.panic c) (a.put dd v) x → Q0 (.panic c) a x) (h0 : w1.cell? ⟨LB, n, none⟩ = some (.slice (some ⟨tb, 0, none⟩) R R)) (h1 : w1.cell? ⟨tb, r, none⟩ = some (.bool true)) (h2 : w1.cell? ⟨ob, r, none⟩ = some (.bool true)) (h3 : w1.cell? ⟨FB, 5, none⟩ = some (.slice (some ⟨cb, co, none⟩) N cap)) (e0 : w1.cell? ⟨cb, co + n * 9, none⟩ = some (.int .i64 xi.op)) (e1 : w1.cell? ⟨cb, co + n * 9 + 1, none⟩ = some (.int .i64 xi.sub)) (e2 : w1.cell? ⟨cb, co + n * 9 + 2, none⟩ = some (.int .i64 xi.a)) (e3 : w1.cell? ⟨cb, co + n * 9 + 3, none⟩ = some (.int .i64 xi.b)) (e4 : w1.cell? ⟨cb, co + n * 9 + 4, none⟩ = some (.int .i64 xi.d)) (e5 : w1.cell? ⟨cb, co + n * 9 + 5, none⟩ = some (.int .i64 xi.k)) (e6 : w1.cell? ⟨cb, co + n * 9 + 6, none⟩ = some (.slice va vn vc)) (e7 : w1.cell? ⟨cb, co + n * 9 + 7, none⟩ = some (.int .i64 xi.s)) (e8 : w1.cell? ⟨cb, co + n * 9 + 8, none⟩ = some (.int .i64 xi.t)) (hn : n < N) (hr : r < R)
  (HK : Hid (∀ y154 y155 y156 y157 y158 y159 y160 y161 y162 y163 y164 y165 y166 y167 y168 y169 y170 y171 y172 y173 y174 y175 y176 y177 (W : World), Below w1.heap.size w1 W → Q0 .normal ⟨#[z0z, .pointer (some ⟨FB, 0, none⟩), z2z, z3z, z4z, .slice (some ⟨LB, 0, none⟩) N N, z6z, z7z, .int .i64 (n : Int), .slice (some ⟨ob, 0, none⟩) R R, z10z, .int .i64 (r : Int), .bool false, z13z, z14z, z15z, z16z, z17z, z18z, z19z, z20z, z21z, z22z, z23z, z24z, z25z, z26z, z27z, z28z, z29z, z30z, z31z, z32z, z33z, z34z, z35z, z36z, z37z, z38z, z39z, z40z, z41z, z42z, z43z, z44z, z45z, z46z, z47z, z48z, z49z, z50z, z51z, z52z, z53z, z54z, z55z, z56z, z57z, z58z, z59z, z60z, z61z, z62z, z63z, z64z, z65z, z66z, z67z, z68z, z69z, z70z, z71z, z72z, z73z, z74z, z75z, z76z, z77z, z78z, z79z, z80z, z81z, z82z, z83z, z84z, z85z, z86z, z87z, z88z, z89z, z90z, z91z, z92z, z93z, z94z, z95z, z96z, z97z, z98z, z99z, z100z, z101z, z102z, z103z, z104z, z105z, z106z, z107z, z108z, z109z, z110z, z111z, z112z, z113z, z114z, z115z, z116z, z117z, z118z, z119z, z120z, z121z, z122z, z123z, z124z, z125z, z126z, z127z, z128z, z129z, z130z, z131z, z132z, z133z, z134z, z135z, z136z, z137z, z138z, z139z, z140z, z141z, z142z, z143z, z144z, z145z, z146z, z147z, z148z, z149z, z150z, z151z, z152z, z153z, y154, y155, y156, y157, y158, y159, y160, y161, y162, y163, y164, y165, y166, y167, y168, y169, y170, y171, y172, y173, y174, y175, y176, y177, .bool false, z179z, z180z, z181z, z182z, z183z, z184z, z185z, z186z, z187z, z188z, z189z, z190z, z191z, z192z, z193z, z194z, z195z], DF⟩ W)) :
  Code.wp prog leR32 Q0 ⟨#[z0z, .pointer (some ⟨FB, 0, none⟩), z2z, z3z, z4z, .slice (some ⟨LB, 0, none⟩) N N, z6z, z7z, .int .i64 (n : Int), .slice (some ⟨ob, 0, none⟩) R R, z10z, .int .i64 (r : Int), .bool false, z13z, z14z, z15z, z16z, z17z, z18z, z19z, z20z, z21z, z22z, z23z, z24z, z25z, z26z, z27z, z28z, z29z, z30z, z31z, z32z, z33z, z34z, z35z, z36z, z37z, z38z, z39z, z40z, z41z, z42z, z43z, z44z, z45z, z46z, z47z, z48z, z49z, z50z, z51z, z52z, z53z, z54z, z55z, z56z, z57z, z58z, z59z, z60z, z61z, z62z, z63z, z64z, z65z, z66z, z67z, z68z, z69z, z70z, z71z, z72z, z73z, z74z, z75z, z76z, z77z, z78z, z79z, z80z, z81z, z82z, z83z, z84z, z85z, z86z, z87z, z88z, z89z, z90z, z91z, z92z, z93z, z94z, z95z, z96z, z97z, z98z, z99z, z100z, z101z, z102z, z103z, z104z, z105z, z106z, z107z, z108z, z109z, z110z, z111z, z112z, z113z, z114z, z115z, z116z, z117z, z118z, z119z, z120z, z121z, z122z, z123z, z124z, z125z, z126z, z127z, z128z, z129z, z130z, z131z, z132z, z133z, z134z, z135z, z136z, z137z, z138z, z139z, z140z, z141z, z142z, z143z, z144z, z145z, z146z, z147z, z148z, z149z, z150z, z151z, z152z, z153z, z154z, z155z, z156z, z157z, z158z, z159z, z160z, z161z, z162z, z163z, z164z, z165z, z166z, z167z, z168z, z169z, z170z, z171z, z172z, z173z, z174z, z175z, z176z, z177z, z178z, z179z, z180z, z181z, z182z, z183z, z184z, z185z, z186z, z187z, z188z, z189z, z190z, z191z, z192z, z193z, z194z, z195z], DF⟩ w1 := by
 have n0 : (0 : Int) ≤ n := by omega
 have n1 : (n : Int) < N := by omega
 have r0 : (0 : Int) ≤ r := by omega
 have r1 : (r : Int) < R := by omega
 conv => arg 2; whnf
 refine wp_region_held_drew (S := (fun w' => w'.cell? ⟨LB, n, none⟩ = some (.slice (some ⟨tb, 0, none⟩) R R) ∧ w'.cell? ⟨tb, r, none⟩ = some (.bool true) ∧ w'.cell? ⟨ob, r, none⟩ = some (.bool true) ∧ w'.cell? ⟨FB, 5, none⟩ = some (.slice (some ⟨cb, co, none⟩) N cap) ∧ w'.cell? ⟨cb, co + n * 9, none⟩ = some (.int .i64 xi.op) ∧ w'.cell? ⟨cb, co + n * 9 + 1, none⟩ = some (.int .i64 xi.sub) ∧ w'.cell? ⟨cb, co + n * 9 + 2, none⟩ = some (.int .i64 xi.a) ∧ w'.cell? ⟨cb, co + n * 9 + 3, none⟩ = some (.int .i64 xi.b) ∧ w'.cell? ⟨cb, co + n * 9 + 4, none⟩ = some (.int .i64 xi.d) ∧ w'.cell? ⟨cb, co + n * 9 + 5, none⟩ = some (.int .i64 xi.k) ∧ w'.cell? ⟨cb, co + n * 9 + 6, none⟩ = some (.slice va vn vc) ∧ w'.cell? ⟨cb, co + n * 9 + 7, none⟩ = some (.int .i64 xi.s) ∧ w'.cell? ⟨cb, co + n * 9 + 8, none⟩ = some (.int .i64 xi.t) ∧ Hid (Below w1.heap.size w1 w'))) (by kernel_rfl) (⟨h0, h1, h2, h3, e0, e1, e2, e3, e4, e5, e6, e7, e8, hidF (bdrew (Below.refl _ _))⟩) (fun hHeld => ?_);refine wpAnyH_take (i := 0) (oi := ?oie0) (v := ?vve0) ?hie0 (by kernel_rfl) (by kernel_rfl) (by kernel_rfl) ?hqe0 ?hye0 hHeld ?_
 case hie0 => simp only [zga, zgs, zgz]; rfl
 case hqe0 => exact fun _ _ _ h => hQ0 _ _ _ _ _ h
 case hye0 => refine .inl ⟨by rfl, ?_⟩; intro w' hSw; (try dsimp only at hSw); go_simp; try with_reducible rfl
 simp only [Act.put, zsa, zsz, zss];refine wpAnyH_take (i := 1) (oi := ?oie1) (v := ?vve1) ?hie1 (by kernel_rfl) (by kernel_rfl) (by kernel_rfl) ?hqe1 ?hye1 hHeld ?_
 case hie1 => simp only [zga, zgs, zgz]; rfl
 case hqe1 => exact fun _ _ _ h => hQ0 _ _ _ _ _ h
 case hye1 => refine .inl ⟨by rfl, ?_⟩; intro w' hSw; (try dsimp only at hSw); go_simp; try with_reducible rfl
 simp only [Act.put, zsa, zsz, zss];refine wpAnyH_take (i := 2) (oi := ?oie2) (v := ?vve2) ?hie2 (by kernel_rfl) (by kernel_rfl) (by kernel_rfl) ?hqe2 ?hye2 hHeld ?_
 case hie2 => simp only [zga, zgs, zgz]; rfl
 case hqe2 => exact fun _ _ _ h => hQ0 _ _ _ _ _ h
 case hye2 => refine .inl ⟨by rfl, ?_⟩; intro w' hSw; (try dsimp only at hSw); go_simp; try with_reducible rfl
 simp only [Act.put, zsa, zsz, zss];refine wpAnyH_take (i := 3) (oi := ?oie3) (v := ?vve3) ?hie3 (by kernel_rfl) (by kernel_rfl) (by kernel_rfl) ?hqe3 ?hye3 hHeld ?_
 case hie3 => simp only [zga, zgs, zgz]; rfl
 case hqe3 => exact fun _ _ _ h => hQ0 _ _ _ _ _ h
 case hye3 => refine .inl ⟨by rfl, ?_⟩; intro w' hSw; (try dsimp only at hSw); go_simp; try with_reducible rfl
 simp only [Act.put, zsa, zsz, zss];refine wpAnyH_take (i := 4) (oi := ?oie4) (v := ?vve4) ?hie4 (by kernel_rfl) (by kernel_rfl) (by kernel_rfl) ?hqe4 ?hye4 hHeld ?_
 case hie4 => simp only [zga, zgs, zgz]; rfl
 case hqe4 => exact fun _ _ _ h => hQ0 _ _ _ _ _ h
 case hye4 => refine .inl ⟨by rfl, ?_⟩; intro w' hSw; (try dsimp only at hSw); go_simp; try with_reducible rfl
 simp only [Act.put, zsa, zsz, zss];refine wpAnyH_take (i := 5) (oi := ?oie5) (v := ?vve5) ?hie5 (by kernel_rfl) (by kernel_rfl) (by kernel_rfl) ?hqe5 ?hye5 hHeld ?_
 case hie5 => simp only [zga, zgs, zgz]; rfl
 case hqe5 => exact fun _ _ _ h => hQ0 _ _ _ _ _ h
 case hye5 => refine .inl ⟨by rfl, ?_⟩; intro w' hSw; (try dsimp only at hSw); go_simp; try with_reducible rfl
 simp only [Act.put, zsa, zsz, zss];refine wpAnyH_take (i := 6) (oi := ?oie6) (v := ?vve6) ?hie6 (by kernel_rfl) (by kernel_rfl) (by kernel_rfl) ?hqe6 ?hye6 hHeld ?_
 case hie6 => simp only [zga, zgs, zgz]; rfl
 case hqe6 => exact fun _ _ _ h => hQ0 _ _ _ _ _ h
 case hye6 => refine .inl ⟨by rfl, ?_⟩; intro w' hSw; (try dsimp only at hSw); go_simp; try with_reducible rfl
 simp only [Act.put, zsa, zsz, zss];refine wpAnyH_take (i := 7) (oi := ?oie7) (v := ?vve7) ?hie7 (by kernel_rfl) (by kernel_rfl) (by kernel_rfl) ?hqe7 ?hye7 hHeld ?_
 case hie7 => simp only [zga, zgs, zgz]; rfl
 case hqe7 => exact fun _ _ _ h => hQ0 _ _ _ _ _ h
 case hye7 => refine .inl ⟨by rfl, ?_⟩; intro w' hSw; (try dsimp only at hSw); go_simp; try with_reducible rfl
 simp only [Act.put, zsa, zsz, zss];refine wpAnyH_take (i := 8) (oi := ?oie8) (v := ?vve8) ?hie8 (by kernel_rfl) (by kernel_rfl) (by kernel_rfl) ?hqe8 ?hye8 hHeld ?_
 case hie8 => simp only [zga, zgs, zgz]; rfl
 case hqe8 => exact fun _ _ _ h => hQ0 _ _ _ _ _ h
 case hye8 => refine .inl ⟨by rfl, ?_⟩; intro w' hSw; (try dsimp only at hSw); go_simp; try with_reducible rfl
 simp only [Act.put, zsa, zsz, zss];refine wpAnyH_take (i := 9) (oi := ?oie9) (v := ?vve9) ?hie9 (by kernel_rfl) (by kernel_rfl) (by kernel_rfl) ?hqe9 ?hye9 hHeld ?_
 case hie9 => simp only [zga, zgs, zgz]; rfl
 case hqe9 => exact fun _ _ _ h => hQ0 _ _ _ _ _ h
 case hye9 => refine .inl ⟨by rfl, ?_⟩; intro w' hSw; (try dsimp only at hSw); go_simp; try with_reducible rfl
 simp only [Act.put, zsa, zsz, zss];refine wpAnyH_take (i := 10) (oi := ?oie10) (v := ?vve10) ?hie10 (by kernel_rfl) (by kernel_rfl) (by kernel_rfl) ?hqe10 ?hye10 hHeld ?_
 case hie10 => simp only [zga, zgs, zgz]; rfl
 case hqe10 => exact fun _ _ _ h => hQ0 _ _ _ _ _ h
 case hye10 => refine .inl ⟨by rfl, ?_⟩; intro w' hSw; (try dsimp only at hSw); go_simp; try with_reducible rfl
 simp only [Act.put, zsa, zsz, zss];refine wpAnyH_take (i := 11) (oi := ?oie11) (v := ?vve11) ?hie11 (by kernel_rfl) (by kernel_rfl) (by kernel_rfl) ?hqe11 ?hye11 hHeld ?_
 case hie11 => simp only [zga, zgs, zgz]; rfl
 case hqe11 => exact fun _ _ _ h => hQ0 _ _ _ _ _ h
 case hye11 => refine .inl ⟨by rfl, ?_⟩; intro w' hSw; (try dsimp only at hSw); go_simp; try with_reducible rfl
 simp only [Act.put, zsa, zsz, zss];refine wpAnyH_take (i := 12) (oi := ?oie12) (v := ?vve12) ?hie12 (by kernel_rfl) (by kernel_rfl) (by kernel_rfl) ?hqe12 ?hye12 hHeld ?_
 case hie12 => simp only [zga, zgs, zgz]; rfl
 case hqe12 => exact fun _ _ _ h => hQ0 _ _ _ _ _ h
 case hye12 => refine .inl ⟨by rfl, ?_⟩; intro w' hSw; (try dsimp only at hSw); go_simp; try with_reducible rfl
 simp only [Act.put, zsa, zsz, zss];refine wpAnyH_take (i := 13) (oi := ?oie13) (v := ?vve13) ?hie13 (by kernel_rfl) (by kernel_rfl) (by kernel_rfl) ?hqe13 ?hye13 hHeld ?_
 case hie13 => simp only [zga, zgs, zgz]; rfl
 case hqe13 => exact fun _ _ _ h => hQ0 _ _ _ _ _ h
 case hye13 => refine .inl ⟨by rfl, ?_⟩; intro w' hSw; (try dsimp only at hSw); go_simp; try with_reducible rfl
 simp only [Act.put, zsa, zsz, zss];refine wpAnyH_take (i := 14) (oi := ?oie14) (v := ?vve14) ?hie14 (by kernel_rfl) (by kernel_rfl) (by kernel_rfl) ?hqe14 ?hye14 hHeld ?_
 case hie14 => simp only [zga, zgs, zgz]; rfl
 case hqe14 => exact fun _ _ _ h => hQ0 _ _ _ _ _ h
 case hye14 => refine .inl ⟨by rfl, ?_⟩; intro w' hSw; (try dsimp only at hSw); go_simp; try with_reducible rfl
 simp only [Act.put, zsa, zsz, zss];refine wpAnyH_take (i := 15) (oi := ?oie15) (v := ?vve15) ?hie15 (by kernel_rfl) (by kernel_rfl) (by kernel_rfl) ?hqe15 ?hye15 hHeld ?_
 case hie15 => simp only [zga, zgs, zgz]; rfl
 case hqe15 => exact fun _ _ _ h => hQ0 _ _ _ _ _ h
 case hye15 => refine .inl ⟨by rfl, ?_⟩; intro w' hSw; (try dsimp only at hSw); go_simp; try with_reducible rfl
 simp only [Act.put, zsa, zsz, zss];refine wpAnyH_take (i := 16) (oi := ?oie16) (v := ?vve16) ?hie16 (by kernel_rfl) (by kernel_rfl) (by kernel_rfl) ?hqe16 ?hye16 hHeld ?_
 case hie16 => simp only [zga, zgs, zgz]; rfl
 case hqe16 => exact fun _ _ _ h => hQ0 _ _ _ _ _ h
 case hye16 => refine .inl ⟨by rfl, ?_⟩; intro w' hSw; (try dsimp only at hSw); go_simp; try with_reducible rfl
 simp only [Act.put, zsa, zsz, zss];refine wpAnyH_take (i := 17) (oi := ?oie17) (v := ?vve17) ?hie17 (by kernel_rfl) (by kernel_rfl) (by kernel_rfl) ?hqe17 ?hye17 hHeld ?_
 case hie17 => simp only [zga, zgs, zgz]; rfl
 case hqe17 => exact fun _ _ _ h => hQ0 _ _ _ _ _ h
 case hye17 => refine .inl ⟨by rfl, ?_⟩; intro w' hSw; (try dsimp only at hSw); go_simp; try with_reducible rfl
 simp only [Act.put, zsa, zsz, zss];refine wpAnyH_take (i := 18) (oi := ?oie18) (v := ?vve18) ?hie18 (by kernel_rfl) (by kernel_rfl) (by kernel_rfl) ?hqe18 ?hye18 hHeld ?_
 case hie18 => simp only [zga, zgs, zgz]; rfl
 case hqe18 => exact fun _ _ _ h => hQ0 _ _ _ _ _ h
 case hye18 => refine .inl ⟨by rfl, ?_⟩; intro w' hSw; (try dsimp only at hSw); go_simp; try with_reducible rfl
 simp only [Act.put, zsa, zsz, zss];refine wpAnyH_take (i := 20) (oi := ?oie20) (v := ?vve20) ?hie20 (by kernel_rfl) (by kernel_rfl) (by kernel_rfl) ?hqe20 ?hye20 hHeld ?_
 case hie20 => simp only [zga, zgs, zgz]; rfl
 case hqe20 => exact fun _ _ _ h => hQ0 _ _ _ _ _ h
 case hye20 => refine .inl ⟨by rfl, ?_⟩; intro w' hSw; (try dsimp only at hSw); go_simp; try with_reducible rfl
 simp only [Act.put, zsa, zsz, zss];refine wpAnyH_ready (rs := [19]) (by kernel_rfl) (by simp) ?_;refine AllReadyH.cons (o := ?oie19) ?hie19 (fun K hK => ?_) AllReadyH.nil
 case hie19 => simp only [zga, zgs, zgz]; rfl
 go_simp;refine (HWC.out _).mono ?_;rintro e v19 ⟨rfl, hb1⟩;go_wp2_with fail
 refine hK.out _ _ (⟨keep_cell hb1 hHeld.1, keep_cell hb1 hHeld.2.1, keep_cell hb1 hHeld.2.2.1, keep_cell hb1 hHeld.2.2.2.1, keep_cell hb1 hHeld.2.2.2.2.1, keep_cell hb1 hHeld.2.2.2.2.2.1, keep_cell hb1 hHeld.2.2.2.2.2.2.1, keep_cell hb1 hHeld.2.2.2.2.2.2.2.1, keep_cell hb1 hHeld.2.2.2.2.2.2.2.2.1, keep_cell hb1 hHeld.2.2.2.2.2.2.2.2.2.1, keep_cell hb1 hHeld.2.2.2.2.2.2.2.2.2.2.1, keep_cell hb1 hHeld.2.2.2.2.2.2.2.2.2.2.2.1, keep_cell hb1 hHeld.2.2.2.2.2.2.2.2.2.2.2.2.1, hidF (bel_trans hHeld.2.2.2.2.2.2.2.2.2.2.2.2.2.out hb1)⟩) (fun hN => ?_);clear hK K hHeld;have hHeld := hN;clear hN
 try simp only [Act.put, zsa, zsz, zss]
 refine wpAnyH_take (i := 21) (oi := ?oie21) (v := ?vve21) ?hie21 (by kernel_rfl) (by kernel_rfl) (by kernel_rfl) ?hqe21 ?hye21 hHeld ?_
 case hie21 => simp only [zga, zgs, zgz]; rfl
 case hqe21 => exact fun _ _ _ h => hQ0 _ _ _ _ _ h
 case hye21 => refine .inl ⟨by rfl, ?_⟩; intro w' hSw; (try dsimp only at hSw); go_simp; try with_reducible rfl
 simp only [Act.put, zsa, zsz, zss];refine wpAnyH_take (i := 22) (oi := ?oie22) (v := ?vve22) ?hie22 (by kernel_rfl) (by kernel_rfl) (by kernel_rfl) ?hqe22 ?hye22 hHeld ?_
 case hie22 => simp only [zga, zgs, zgz]; rfl
 case hqe22 => exact fun _ _ _ h => hQ0 _ _ _ _ _ h
 case hye22 => refine .inl ⟨by rfl, ?_⟩; intro w' hSw; (try dsimp only at hSw); go_simp; try with_reducible rfl
 simp only [Act.put, zsa, zsz, zss];refine wpAnyH_take (i := 23) (oi := ?oie23) (v := ?vve23) ?hie23 (by kernel_rfl) (by kernel_rfl) (by kernel_rfl) ?hqe23 ?hye23 hHeld ?_
 case hie23 => simp only [zga, zgs, zgz]; rfl
 case hqe23 => exact fun _ _ _ h => hQ0 _ _ _ _ _ h
 case hye23 => refine .inl ⟨by rfl, ?_⟩; intro w' hSw; (try dsimp only at hSw); go_simp; try with_reducible rfl
 simp only [Act.put, zsa, zsz, zss];refine wpAnyH_take (i := 24) (oi := ?oie24) (v := ?vve24) ?hie24 (by kernel_rfl) (by kernel_rfl) (by kernel_rfl) ?hqe24 ?hye24 hHeld ?_
 case hie24 => simp only [zga, zgs, zgz]; rfl
 case hqe24 => exact fun _ _ _ h => hQ0 _ _ _ _ _ h
 case hye24 => refine .inl ⟨by rfl, ?_⟩; intro w' hSw; (try dsimp only at hSw); go_simp; try with_reducible rfl
 simp only [Act.put, zsa, zsz, zss];refine wpAnyH_done (by kernel_rfl) ?_ _;exact HK.out _ _ _ _ _ _ _ _ _ _ _ _ _ _ _ _ _ _ _ _ _ _ _ _ _ hHeld.2.2.2.2.2.2.2.2.2.2.2.2.2.out

theorem le_r32f (FB LB N n ob R r tb : Nat) (cb co cap vn vc : Nat) (va : Option Addr) (xi : Ins) (wv : Int) (HWC : Hid (∀ W, Calls prog 14 #[insV xi.op xi.sub xi.a xi.b xi.d xi.k (.slice va vn vc) xi.s xi.t] W (retP (.int .i64 wv) W))) (hq : (wv != (r : Int)) = false) (z0z z2z z3z z4z z6z z7z z10z z13z z14z z15z z16z z17z z18z z19z z20z z21z z22z z23z z24z z25z z26z z27z z28z z29z z30z z31z z32z z33z z34z z35z z36z z37z z38z z39z z40z z41z z42z z43z z44z z45z z46z z47z z48z z49z z50z z51z z52z z53z z54z z55z z56z z57z z58z z59z z60z z61z z62z z63z z64z z65z z66z z67z z68z z69z z70z z71z z72z z73z z74z z75z z76z z77z z78z z79z z80z z81z z82z z83z z84z z85z z86z z87z z88z z89z z90z z91z z92z z93z z94z z95z z96z z97z z98z z99z z100z z101z z102z z103z z104z z105z z106z z107z z108z z109z z110z z111z z112z z113z z114z z115z z116z z117z z118z z119z z120z z121z z122z z123z z124z z125z z126z z127z z128z z129z z130z z131z z132z z133z z134z z135z z136z z137z z138z z139z z140z z141z z142z z143z z144z z145z z146z z147z z148z z149z z150z z151z z152z z153z z154z z155z z156z z157z z158z z159z z160z z161z z162z z163z z164z z165z z166z z167z z168z z169z z170z z171z z172z z173z z174z z175z z176z z177z z178z z179z z180z z181z z182z z183z z184z z185z z186z z187z z188z z189z z190z z191z z192z z193z z194z z195z : Value) (DF : List Deferred) (Q0 : Exit → Act → World → Prop) (w1 : World) (hQ0 : ∀ c (a : Act) (dd : Option Tmp) v x, Q0 (.panic c) (a.put dd v) x → Q0 (.panic c) a x) (h0 : w1.cell? ⟨LB, n, none⟩ = some (.slice (some ⟨tb, 0, none⟩) R R)) (h1 : w1.cell? ⟨tb, r, none⟩ = some (.bool false)) (h2 : w1.cell? ⟨ob, r, none⟩ = some (.bool true)) (h3 : w1.cell? ⟨FB, 5, none⟩ = some (.slice (some ⟨cb, co, none⟩) N cap)) (e0 : w1.cell? ⟨cb, co + n * 9, none⟩ = some (.int .i64 xi.op)) (e1 : w1.cell? ⟨cb, co + n * 9 + 1, none⟩ = some (.int .i64 xi.sub)) (e2 : w1.cell? ⟨cb, co + n * 9 + 2, none⟩ = some (.int .i64 xi.a)) (e3 : w1.cell? ⟨cb, co + n * 9 + 3, none⟩ = some (.int .i64 xi.b)) (e4 : w1.cell? ⟨cb, co + n * 9 + 4, none⟩ = some (.int .i64 xi.d)) (e5 : w1.cell? ⟨cb, co + n * 9 + 5, none⟩ = some (.int .i64 xi.k)) (e6 : w1.cell? ⟨cb, co + n * 9 + 6, none⟩ = some (.slice va vn vc)) (e7 : w1.cell? ⟨cb, co + n * 9 + 7, none⟩ = some (.int .i64 xi.s)) (e8 : w1.cell? ⟨cb, co + n * 9 + 8, none⟩ = some (.int .i64 xi.t)) (hn : n < N) (hr : r < R)
  (HK : Hid (∀ y154 y155 y156 y157 y158 y159 y160 y161 y162 y163 y164 y165 y166 y167 y168 y169 y170 y171 y172 y173 y174 y175 y176 y177 (W : World), Below w1.heap.size w1 W → Q0 .normal ⟨#[z0z, .pointer (some ⟨FB, 0, none⟩), z2z, z3z, z4z, .slice (some ⟨LB, 0, none⟩) N N, z6z, z7z, .int .i64 (n : Int), .slice (some ⟨ob, 0, none⟩) R R, z10z, .int .i64 (r : Int), .bool false, z13z, z14z, z15z, z16z, z17z, z18z, z19z, z20z, z21z, z22z, z23z, z24z, z25z, z26z, z27z, z28z, z29z, z30z, z31z, z32z, z33z, z34z, z35z, z36z, z37z, z38z, z39z, z40z, z41z, z42z, z43z, z44z, z45z, z46z, z47z, z48z, z49z, z50z, z51z, z52z, z53z, z54z, z55z, z56z, z57z, z58z, z59z, z60z, z61z, z62z, z63z, z64z, z65z, z66z, z67z, z68z, z69z, z70z, z71z, z72z, z73z, z74z, z75z, z76z, z77z, z78z, z79z, z80z, z81z, z82z, z83z, z84z, z85z, z86z, z87z, z88z, z89z, z90z, z91z, z92z, z93z, z94z, z95z, z96z, z97z, z98z, z99z, z100z, z101z, z102z, z103z, z104z, z105z, z106z, z107z, z108z, z109z, z110z, z111z, z112z, z113z, z114z, z115z, z116z, z117z, z118z, z119z, z120z, z121z, z122z, z123z, z124z, z125z, z126z, z127z, z128z, z129z, z130z, z131z, z132z, z133z, z134z, z135z, z136z, z137z, z138z, z139z, z140z, z141z, z142z, z143z, z144z, z145z, z146z, z147z, z148z, z149z, z150z, z151z, z152z, z153z, y154, y155, y156, y157, y158, y159, y160, y161, y162, y163, y164, y165, y166, y167, y168, y169, y170, y171, y172, y173, y174, y175, y176, y177, .bool false, z179z, z180z, z181z, z182z, z183z, z184z, z185z, z186z, z187z, z188z, z189z, z190z, z191z, z192z, z193z, z194z, z195z], DF⟩ W)) :
  Code.wp prog leR32 Q0 ⟨#[z0z, .pointer (some ⟨FB, 0, none⟩), z2z, z3z, z4z, .slice (some ⟨LB, 0, none⟩) N N, z6z, z7z, .int .i64 (n : Int), .slice (some ⟨ob, 0, none⟩) R R, z10z, .int .i64 (r : Int), .bool false, z13z, z14z, z15z, z16z, z17z, z18z, z19z, z20z, z21z, z22z, z23z, z24z, z25z, z26z, z27z, z28z, z29z, z30z, z31z, z32z, z33z, z34z, z35z, z36z, z37z, z38z, z39z, z40z, z41z, z42z, z43z, z44z, z45z, z46z, z47z, z48z, z49z, z50z, z51z, z52z, z53z, z54z, z55z, z56z, z57z, z58z, z59z, z60z, z61z, z62z, z63z, z64z, z65z, z66z, z67z, z68z, z69z, z70z, z71z, z72z, z73z, z74z, z75z, z76z, z77z, z78z, z79z, z80z, z81z, z82z, z83z, z84z, z85z, z86z, z87z, z88z, z89z, z90z, z91z, z92z, z93z, z94z, z95z, z96z, z97z, z98z, z99z, z100z, z101z, z102z, z103z, z104z, z105z, z106z, z107z, z108z, z109z, z110z, z111z, z112z, z113z, z114z, z115z, z116z, z117z, z118z, z119z, z120z, z121z, z122z, z123z, z124z, z125z, z126z, z127z, z128z, z129z, z130z, z131z, z132z, z133z, z134z, z135z, z136z, z137z, z138z, z139z, z140z, z141z, z142z, z143z, z144z, z145z, z146z, z147z, z148z, z149z, z150z, z151z, z152z, z153z, z154z, z155z, z156z, z157z, z158z, z159z, z160z, z161z, z162z, z163z, z164z, z165z, z166z, z167z, z168z, z169z, z170z, z171z, z172z, z173z, z174z, z175z, z176z, z177z, z178z, z179z, z180z, z181z, z182z, z183z, z184z, z185z, z186z, z187z, z188z, z189z, z190z, z191z, z192z, z193z, z194z, z195z], DF⟩ w1 := by
 have n0 : (0 : Int) ≤ n := by omega
 have n1 : (n : Int) < N := by omega
 have r0 : (0 : Int) ≤ r := by omega
 have r1 : (r : Int) < R := by omega
 conv => arg 2; whnf
 refine wp_region_held_drew (S := (fun w' => w'.cell? ⟨LB, n, none⟩ = some (.slice (some ⟨tb, 0, none⟩) R R) ∧ w'.cell? ⟨tb, r, none⟩ = some (.bool false) ∧ w'.cell? ⟨ob, r, none⟩ = some (.bool true) ∧ w'.cell? ⟨FB, 5, none⟩ = some (.slice (some ⟨cb, co, none⟩) N cap) ∧ w'.cell? ⟨cb, co + n * 9, none⟩ = some (.int .i64 xi.op) ∧ w'.cell? ⟨cb, co + n * 9 + 1, none⟩ = some (.int .i64 xi.sub) ∧ w'.cell? ⟨cb, co + n * 9 + 2, none⟩ = some (.int .i64 xi.a) ∧ w'.cell? ⟨cb, co + n * 9 + 3, none⟩ = some (.int .i64 xi.b) ∧ w'.cell? ⟨cb, co + n * 9 + 4, none⟩ = some (.int .i64 xi.d) ∧ w'.cell? ⟨cb, co + n * 9 + 5, none⟩ = some (.int .i64 xi.k) ∧ w'.cell? ⟨cb, co + n * 9 + 6, none⟩ = some (.slice va vn vc) ∧ w'.cell? ⟨cb, co + n * 9 + 7, none⟩ = some (.int .i64 xi.s) ∧ w'.cell? ⟨cb, co + n * 9 + 8, none⟩ = some (.int .i64 xi.t) ∧ Hid (Below w1.heap.size w1 w'))) (by kernel_rfl) (⟨h0, h1, h2, h3, e0, e1, e2, e3, e4, e5, e6, e7, e8, hidF (bdrew (Below.refl _ _))⟩) (fun hHeld => ?_);refine wpAnyH_take (i := 0) (oi := ?oif0) (v := ?vvf0) ?hif0 (by kernel_rfl) (by kernel_rfl) (by kernel_rfl) ?hqf0 ?hyf0 hHeld ?_
 case hif0 => simp only [zga, zgs, zgz]; rfl
 case hqf0 => exact fun _ _ _ h => hQ0 _ _ _ _ _ h
 case hyf0 => refine .inl ⟨by rfl, ?_⟩; intro w' hSw; (try dsimp only at hSw); go_simp; try with_reducible rfl
 simp only [Act.put, zsa, zsz, zss];refine wpAnyH_take (i := 1) (oi := ?oif1) (v := ?vvf1) ?hif1 (by kernel_rfl) (by kernel_rfl) (by kernel_rfl) ?hqf1 ?hyf1 hHeld ?_
 case hif1 => simp only [zga, zgs, zgz]; rfl
 case hqf1 => exact fun _ _ _ h => hQ0 _ _ _ _ _ h
 case hyf1 => refine .inl ⟨by rfl, ?_⟩; intro w' hSw; (try dsimp only at hSw); go_simp; try with_reducible rfl
 simp only [Act.put, zsa, zsz, zss];refine wpAnyH_take (i := 2) (oi := ?oif2) (v := ?vvf2) ?hif2 (by kernel_rfl) (by kernel_rfl) (by kernel_rfl) ?hqf2 ?hyf2 hHeld ?_
 case hif2 => simp only [zga, zgs, zgz]; rfl
 case hqf2 => exact fun _ _ _ h => hQ0 _ _ _ _ _ h
 case hyf2 => refine .inl ⟨by rfl, ?_⟩; intro w' hSw; (try dsimp only at hSw); go_simp; try with_reducible rfl
 simp only [Act.put, zsa, zsz, zss];refine wpAnyH_take (i := 3) (oi := ?oif3) (v := ?vvf3) ?hif3 (by kernel_rfl) (by kernel_rfl) (by kernel_rfl) ?hqf3 ?hyf3 hHeld ?_
 case hif3 => simp only [zga, zgs, zgz]; rfl
 case hqf3 => exact fun _ _ _ h => hQ0 _ _ _ _ _ h
 case hyf3 => refine .inl ⟨by rfl, ?_⟩; intro w' hSw; (try dsimp only at hSw); go_simp; try with_reducible rfl
 simp only [Act.put, zsa, zsz, zss];refine wpAnyH_take (i := 4) (oi := ?oif4) (v := ?vvf4) ?hif4 (by kernel_rfl) (by kernel_rfl) (by kernel_rfl) ?hqf4 ?hyf4 hHeld ?_
 case hif4 => simp only [zga, zgs, zgz]; rfl
 case hqf4 => exact fun _ _ _ h => hQ0 _ _ _ _ _ h
 case hyf4 => refine .inl ⟨by rfl, ?_⟩; intro w' hSw; (try dsimp only at hSw); go_simp; try with_reducible rfl
 simp only [Act.put, zsa, zsz, zss];refine wpAnyH_take (i := 5) (oi := ?oif5) (v := ?vvf5) ?hif5 (by kernel_rfl) (by kernel_rfl) (by kernel_rfl) ?hqf5 ?hyf5 hHeld ?_
 case hif5 => simp only [zga, zgs, zgz]; rfl
 case hqf5 => exact fun _ _ _ h => hQ0 _ _ _ _ _ h
 case hyf5 => refine .inl ⟨by rfl, ?_⟩; intro w' hSw; (try dsimp only at hSw); go_simp; try with_reducible rfl
 simp only [Act.put, zsa, zsz, zss];refine wpAnyH_take (i := 6) (oi := ?oif6) (v := ?vvf6) ?hif6 (by kernel_rfl) (by kernel_rfl) (by kernel_rfl) ?hqf6 ?hyf6 hHeld ?_
 case hif6 => simp only [zga, zgs, zgz]; rfl
 case hqf6 => exact fun _ _ _ h => hQ0 _ _ _ _ _ h
 case hyf6 => refine .inl ⟨by rfl, ?_⟩; intro w' hSw; (try dsimp only at hSw); go_simp; try with_reducible rfl
 simp only [Act.put, zsa, zsz, zss];refine wpAnyH_take (i := 7) (oi := ?oif7) (v := ?vvf7) ?hif7 (by kernel_rfl) (by kernel_rfl) (by kernel_rfl) ?hqf7 ?hyf7 hHeld ?_
 case hif7 => simp only [zga, zgs, zgz]; rfl
 case hqf7 => exact fun _ _ _ h => hQ0 _ _ _ _ _ h
 case hyf7 => refine .inl ⟨by rfl, ?_⟩; intro w' hSw; (try dsimp only at hSw); go_simp; try with_reducible rfl
 simp only [Act.put, zsa, zsz, zss];refine wpAnyH_take (i := 8) (oi := ?oif8) (v := ?vvf8) ?hif8 (by kernel_rfl) (by kernel_rfl) (by kernel_rfl) ?hqf8 ?hyf8 hHeld ?_
 case hif8 => simp only [zga, zgs, zgz]; rfl
 case hqf8 => exact fun _ _ _ h => hQ0 _ _ _ _ _ h
 case hyf8 => refine .inl ⟨by rfl, ?_⟩; intro w' hSw; (try dsimp only at hSw); go_simp; try with_reducible rfl
 simp only [Act.put, zsa, zsz, zss];refine wpAnyH_take (i := 9) (oi := ?oif9) (v := ?vvf9) ?hif9 (by kernel_rfl) (by kernel_rfl) (by kernel_rfl) ?hqf9 ?hyf9 hHeld ?_
 case hif9 => simp only [zga, zgs, zgz]; rfl
 case hqf9 => exact fun _ _ _ h => hQ0 _ _ _ _ _ h
 case hyf9 => refine .inl ⟨by rfl, ?_⟩; intro w' hSw; (try dsimp only at hSw); go_simp; try with_reducible rfl
 simp only [Act.put, zsa, zsz, zss];refine wpAnyH_take (i := 10) (oi := ?oif10) (v := ?vvf10) ?hif10 (by kernel_rfl) (by kernel_rfl) (by kernel_rfl) ?hqf10 ?hyf10 hHeld ?_
 case hif10 => simp only [zga, zgs, zgz]; rfl
 case hqf10 => exact fun _ _ _ h => hQ0 _ _ _ _ _ h
 case hyf10 => refine .inl ⟨by rfl, ?_⟩; intro w' hSw; (try dsimp only at hSw); go_simp; try with_reducible rfl
 simp only [Act.put, zsa, zsz, zss];refine wpAnyH_take (i := 11) (oi := ?oif11) (v := ?vvf11) ?hif11 (by kernel_rfl) (by kernel_rfl) (by kernel_rfl) ?hqf11 ?hyf11 hHeld ?_
 case hif11 => simp only [zga, zgs, zgz]; rfl
 case hqf11 => exact fun _ _ _ h => hQ0 _ _ _ _ _ h
 case hyf11 => refine .inl ⟨by rfl, ?_⟩; intro w' hSw; (try dsimp only at hSw); go_simp; try with_reducible rfl
 simp only [Act.put, zsa, zsz, zss];refine wpAnyH_take (i := 12) (oi := ?oif12) (v := ?vvf12) ?hif12 (by kernel_rfl) (by kernel_rfl) (by kernel_rfl) ?hqf12 ?hyf12 hHeld ?_
 case hif12 => simp only [zga, zgs, zgz]; rfl
 case hqf12 => exact fun _ _ _ h => hQ0 _ _ _ _ _ h
 case hyf12 => refine .inl ⟨by rfl, ?_⟩; intro w' hSw; (try dsimp only at hSw); go_simp; try with_reducible rfl
 simp only [Act.put, zsa, zsz, zss];refine wpAnyH_take (i := 13) (oi := ?oif13) (v := ?vvf13) ?hif13 (by kernel_rfl) (by kernel_rfl) (by kernel_rfl) ?hqf13 ?hyf13 hHeld ?_
 case hif13 => simp only [zga, zgs, zgz]; rfl
 case hqf13 => exact fun _ _ _ h => hQ0 _ _ _ _ _ h
 case hyf13 => refine .inl ⟨by rfl, ?_⟩; intro w' hSw; (try dsimp only at hSw); go_simp; try with_reducible rfl
 simp only [Act.put, zsa, zsz, zss];refine wpAnyH_take (i := 14) (oi := ?oif14) (v := ?vvf14) ?hif14 (by kernel_rfl) (by kernel_rfl) (by kernel_rfl) ?hqf14 ?hyf14 hHeld ?_
 case hif14 => simp only [zga, zgs, zgz]; rfl
 case hqf14 => exact fun _ _ _ h => hQ0 _ _ _ _ _ h
 case hyf14 => refine .inl ⟨by rfl, ?_⟩; intro w' hSw; (try dsimp only at hSw); go_simp; try with_reducible rfl
 simp only [Act.put, zsa, zsz, zss];refine wpAnyH_take (i := 15) (oi := ?oif15) (v := ?vvf15) ?hif15 (by kernel_rfl) (by kernel_rfl) (by kernel_rfl) ?hqf15 ?hyf15 hHeld ?_
 case hif15 => simp only [zga, zgs, zgz]; rfl
 case hqf15 => exact fun _ _ _ h => hQ0 _ _ _ _ _ h
 case hyf15 => refine .inl ⟨by rfl, ?_⟩; intro w' hSw; (try dsimp only at hSw); go_simp; try with_reducible rfl
 simp only [Act.put, zsa, zsz, zss];refine wpAnyH_take (i := 16) (oi := ?oif16) (v := ?vvf16) ?hif16 (by kernel_rfl) (by kernel_rfl) (by kernel_rfl) ?hqf16 ?hyf16 hHeld ?_
 case hif16 => simp only [zga, zgs, zgz]; rfl
 case hqf16 => exact fun _ _ _ h => hQ0 _ _ _ _ _ h
 case hyf16 => refine .inl ⟨by rfl, ?_⟩; intro w' hSw; (try dsimp only at hSw); go_simp; try with_reducible rfl
 simp only [Act.put, zsa, zsz, zss];refine wpAnyH_take (i := 17) (oi := ?oif17) (v := ?vvf17) ?hif17 (by kernel_rfl) (by kernel_rfl) (by kernel_rfl) ?hqf17 ?hyf17 hHeld ?_
 case hif17 => simp only [zga, zgs, zgz]; rfl
 case hqf17 => exact fun _ _ _ h => hQ0 _ _ _ _ _ h
 case hyf17 => refine .inl ⟨by rfl, ?_⟩; intro w' hSw; (try dsimp only at hSw); go_simp; try with_reducible rfl
 simp only [Act.put, zsa, zsz, zss];refine wpAnyH_take (i := 18) (oi := ?oif18) (v := ?vvf18) ?hif18 (by kernel_rfl) (by kernel_rfl) (by kernel_rfl) ?hqf18 ?hyf18 hHeld ?_
 case hif18 => simp only [zga, zgs, zgz]; rfl
 case hqf18 => exact fun _ _ _ h => hQ0 _ _ _ _ _ h
 case hyf18 => refine .inl ⟨by rfl, ?_⟩; intro w' hSw; (try dsimp only at hSw); go_simp; try with_reducible rfl
 simp only [Act.put, zsa, zsz, zss];refine wpAnyH_take (i := 20) (oi := ?oif20) (v := ?vvf20) ?hif20 (by kernel_rfl) (by kernel_rfl) (by kernel_rfl) ?hqf20 ?hyf20 hHeld ?_
 case hif20 => simp only [zga, zgs, zgz]; rfl
 case hqf20 => exact fun _ _ _ h => hQ0 _ _ _ _ _ h
 case hyf20 => refine .inl ⟨by rfl, ?_⟩; intro w' hSw; (try dsimp only at hSw); go_simp; try with_reducible rfl
 simp only [Act.put, zsa, zsz, zss];refine wpAnyH_ready (rs := [19]) (by kernel_rfl) (by simp) ?_;refine AllReadyH.cons (o := ?oif19) ?hif19 (fun K hK => ?_) AllReadyH.nil
 case hif19 => simp only [zga, zgs, zgz]; rfl
 go_simp;refine (HWC.out _).mono ?_;rintro e v19 ⟨rfl, hb1⟩;go_wp2_with fail
 refine hK.out _ _ (⟨keep_cell hb1 hHeld.1, keep_cell hb1 hHeld.2.1, keep_cell hb1 hHeld.2.2.1, keep_cell hb1 hHeld.2.2.2.1, keep_cell hb1 hHeld.2.2.2.2.1, keep_cell hb1 hHeld.2.2.2.2.2.1, keep_cell hb1 hHeld.2.2.2.2.2.2.1, keep_cell hb1 hHeld.2.2.2.2.2.2.2.1, keep_cell hb1 hHeld.2.2.2.2.2.2.2.2.1, keep_cell hb1 hHeld.2.2.2.2.2.2.2.2.2.1, keep_cell hb1 hHeld.2.2.2.2.2.2.2.2.2.2.1, keep_cell hb1 hHeld.2.2.2.2.2.2.2.2.2.2.2.1, keep_cell hb1 hHeld.2.2.2.2.2.2.2.2.2.2.2.2.1, hidF (bel_trans hHeld.2.2.2.2.2.2.2.2.2.2.2.2.2.out hb1)⟩) (fun hN => ?_);clear hK K hHeld;have hHeld := hN;clear hN
 try simp only [Act.put, zsa, zsz, zss]
 refine wpAnyH_take (i := 21) (oi := ?oif21) (v := ?vvf21) ?hif21 (by kernel_rfl) (by kernel_rfl) (by kernel_rfl) ?hqf21 ?hyf21 hHeld ?_
 case hif21 => simp only [zga, zgs, zgz]; rfl
 case hqf21 => exact fun _ _ _ h => hQ0 _ _ _ _ _ h
 case hyf21 => refine .inl ⟨by rfl, ?_⟩; intro w' hSw; (try dsimp only at hSw); go_simp; try with_reducible rfl
 simp only [Act.put, zsa, zsz, zss];refine wpAnyH_take (i := 22) (oi := ?oif22) (v := ?vvf22) ?hif22 (by kernel_rfl) (by kernel_rfl) (by kernel_rfl) ?hqf22 ?hyf22 hHeld ?_
 case hif22 => simp only [zga, zgs, zgz]; rfl
 case hqf22 => exact fun _ _ _ h => hQ0 _ _ _ _ _ h
 case hyf22 => refine .inl ⟨by rfl, ?_⟩; intro w' hSw; (try dsimp only at hSw); go_simp; try with_reducible rfl
 simp only [Act.put, zsa, zsz, zss];refine wpAnyH_take (i := 23) (oi := ?oif23) (v := ?vvf23) ?hif23 (by kernel_rfl) (by kernel_rfl) (by kernel_rfl) ?hqf23 ?hyf23 hHeld ?_
 case hif23 => simp only [zga, zgs, zgz]; rfl
 case hqf23 => exact fun _ _ _ h => hQ0 _ _ _ _ _ h
 case hyf23 => refine .inl ⟨by rfl, ?_⟩; intro w' hSw; (try dsimp only at hSw); go_simp; try with_reducible rfl
 simp only [Act.put, zsa, zsz, zss];refine wpAnyH_take (i := 24) (oi := ?oif24) (v := ?vvf24) ?hif24 (by kernel_rfl) (by kernel_rfl) (by kernel_rfl) ?hqf24 ?hyf24 hHeld ?_
 case hif24 => simp only [zga, zgs, zgz]; rfl
 case hqf24 => exact fun _ _ _ h => hQ0 _ _ _ _ _ h
 case hyf24 => refine .inl ⟨by rfl, ?_⟩; intro w' hSw; (try dsimp only at hSw); go_simp; try with_reducible rfl
 simp only [Act.put, zsa, zsz, zss];refine wpAnyH_done (by kernel_rfl) ?_ _;exact HK.out _ _ _ _ _ _ _ _ _ _ _ _ _ _ _ _ _ _ _ _ _ _ _ _ _ hHeld.2.2.2.2.2.2.2.2.2.2.2.2.2.out

end Go.Proofs.YtfeglcpipcjaeaaGreatDoor
