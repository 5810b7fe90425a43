/- TraceOrder: what it returns. -/
import Derived.Test.YtokdnjnkgflbcaaDoorTOrD
import Derived.Deep.DeepCutAuto
namespace Go.Proofs.YtokdnjnkgflbcaaDoor
open Go.ChangeShapes Go.WideShapes Go.ChangeAt Go.RowKit Go.Joins Go.Deep Pl
set_option linter.unusedSimpArgs false
set_option linter.unusedVariables false

set_option maxRecDepth 1000000 in
set_option maxHeartbeats 40000000 in
theorem to_r94 (k0 x0 s0 : Int) (e0 : Option Addr) (n0 d0 : Nat) (l0 : Value) (es0 : List Ev) (ls0 : List Lk) (k1 x1 s1 : Int) (e1 : Option Addr) (n1 d1 : Nat) (l1 : Value) (es1 : List Ev) (ls1 : List Lk) (k2 x2 s2 : Int) (e2 : Option Addr) (n2 d2 : Nat) (l2 : Value) (es2 : List Ev) (ls2 : List Lk) (B0 B1 B2 : Nat) (w1 : World) (ac0 : w1.cell? ⟨B0, 0, none⟩ = some (.int .i64 k0)) (ac1 : w1.cell? ⟨B0, 1, none⟩ = some (.int .i64 x0)) (ac2 : w1.cell? ⟨B0, 2, none⟩ = some (.slice e0 n0 d0)) (ac3 : w1.cell? ⟨B0, 3, none⟩ = some (l0)) (ac4 : w1.cell? ⟨B0, 4, none⟩ = some (.int .i64 s0)) (bc0 : w1.cell? ⟨B1, 0, none⟩ = some (.int .i64 k1)) (bc1 : w1.cell? ⟨B1, 1, none⟩ = some (.int .i64 x1)) (bc2 : w1.cell? ⟨B1, 2, none⟩ = some (.slice e1 n1 d1)) (bc3 : w1.cell? ⟨B1, 3, none⟩ = some (l1)) (bc4 : w1.cell? ⟨B1, 4, none⟩ = some (.int .i64 s1)) (cc0 : w1.cell? ⟨B2, 0, none⟩ = some (.int .i64 k2)) (cc1 : w1.cell? ⟨B2, 1, none⟩ = some (.int .i64 x2)) (cc2 : w1.cell? ⟨B2, 2, none⟩ = some (.slice e2 n2 d2)) (cc3 : w1.cell? ⟨B2, 3, none⟩ = some (l2)) (cc4 : w1.cell? ⟨B2, 4, none⟩ = some (.int .i64 s2)) (aL : B0 < w1.heap.size) (bL : B1 < w1.heap.size) (cL : B2 < w1.heap.size) (Q0' : Hid (RunAt w1 ⟨k0, x0, .slice e0 n0 d0, l0, s0, es0, ls0⟩)) (Q1 : Hid (RunAt w1 ⟨k1, x1, .slice e1 n1 d1, l1, s1, es1, ls1⟩)) (Q2 : Hid (RunAt w1 ⟨k2, x2, .slice e2 n2 d2, l2, s2, es2, ls2⟩)) (z0z z1z z2z z6z z7z z8z z9z z10z z11z z12z z13z z14z z15z z16z z17z z18z z19z z20z z21z z22z z23z z24z z25z z26z z27z z28z z29z z30z z31z z32z z33z z34z z35z z36z z37z z38z z39z z40z z41z z42z z43z z44z z45z z46z z47z z48z z49z z50z z51z z52z z53z z54z z55z z56z z57z z58z z59z z60z z61z z62z z63z z64z z65z z66z z67z z68z z69z z70z z71z z72z z73z z74z z75z z76z z77z z78z z79z z80z z81z z82z z83z z84z z85z z86z z87z z88z z89z z90z z91z z92z z93z z94z z95z z96z z97z z98z z99z z100z z101z z102z z103z z104z z105z z106z z107z z108z z109z z110z z111z z112z z113z z114z z115z z116z z117z z118z : Value) (rab : Bool) (HRab : Hid (sameR ⟨k0, x0, .slice e0 n0 d0, l0, s0, es0, ls0⟩ ⟨k1, x1, .slice e1 n1 d1, l1, s1, es1, ls1⟩ = rab)) (hcase : k0 = 1 ∨ k0 = 2 ∨ k0 = 3) (K : Act → World → Prop) (Q0 : Exit → Act → World → Prop) (hQ0 : ∀ c (a : Act) d v x, Q0 (.panic c) (a.put d v) x → Q0 (.panic c) a x) (hK : ∀ (y75y y76y y77y y78y y79y y80y y81y y82y y83y y84y y85y y86y y87y y88y y89y y90y y91y y92y y93y y94y y95y y96y y97y y98y y99y y100y y101y y102y y103y y104y y105y y106y y107y y108y y109y y110y y111y y112y y113y y114y y115y y116y y117y y118y : Value) (w' : World), Below w1.heap.size w1 w' → K ⟨#[z0z, z1z, z2z, .pointer (some ⟨B0, 0, none⟩), .pointer (some ⟨B1, 0, none⟩), .pointer (some ⟨B2, 0, none⟩), .bool true, z7z, z8z, z9z, z10z, z11z, z12z, z13z, z14z, z15z, z16z, z17z, z18z, z19z, z20z, z21z, z22z, z23z, z24z, z25z, z26z, z27z, z28z, z29z, z30z, z31z, z32z, z33z, z34z, z35z, z36z, z37z, z38z, z39z, z40z, z41z, z42z, z43z, z44z, z45z, z46z, z47z, z48z, z49z, z50z, z51z, z52z, z53z, z54z, z55z, z56z, z57z, z58z, z59z, z60z, z61z, z62z, z63z, z64z, z65z, z66z, z67z, z68z, z69z, z70z, z71z, z72z, z73z, z74z, y75y, y76y, y77y, y78y, y79y, y80y, y81y, y82y, y83y, y84y, y85y, y86y, y87y, y88y, y89y, y90y, y91y, y92y, y93y, y94y, y95y, y96y, y97y, y98y, y99y, y100y, y101y, y102y, y103y, y104y, y105y, y106y, y107y, y108y, y109y, y110y, y111y, y112y, y113y, y114y, y115y, y116y, y117y, y118y], []⟩ w') :
    Code.wp Tryd.prog toR9 (Exit.then K Q0) ⟨#[z0z, z1z, z2z, .pointer (some ⟨B0, 0, none⟩), .pointer (some ⟨B1, 0, none⟩), .pointer (some ⟨B2, 0, none⟩), z6z, z7z, z8z, z9z, z10z, z11z, z12z, z13z, z14z, z15z, z16z, z17z, z18z, z19z, z20z, z21z, z22z, z23z, z24z, z25z, z26z, z27z, z28z, z29z, z30z, z31z, z32z, z33z, z34z, z35z, z36z, z37z, z38z, z39z, z40z, z41z, z42z, z43z, z44z, z45z, z46z, z47z, z48z, z49z, z50z, z51z, z52z, z53z, z54z, z55z, z56z, z57z, z58z, z59z, z60z, z61z, z62z, z63z, z64z, z65z, z66z, z67z, z68z, z69z, z70z, z71z, z72z, z73z, z74z, z75z, z76z, z77z, z78z, z79z, z80z, z81z, z82z, z83z, z84z, z85z, z86z, z87z, z88z, z89z, z90z, z91z, z92z, z93z, z94z, z95z, z96z, z97z, z98z, z99z, z100z, z101z, z102z, z103z, z104z, z105z, z106z, z107z, z108z, z109z, z110z, z111z, z112z, z113z, z114z, z115z, z116z, z117z, z118z], []⟩ w1 := by
  have HRba : Hid (sameR ⟨k1, x1, .slice e1 n1 d1, l1, s1, es1, ls1⟩ ⟨k0, x0, .slice e0 n0 d0, l0, s0, es0, ls0⟩ = rab) := (same_symm _ _).trans HRab.out
  have R0 : RunAt w1 ⟨k0, x0, .slice e0 n0 d0, l0, s0, es0, ls0⟩ := Q0'.out
  have R1 : RunAt w1 ⟨k1, x1, .slice e1 n1 d1, l1, s1, es1, ls1⟩ := Q1.out
  have R2 : RunAt w1 ⟨k2, x2, .slice e2 n2 d2, l2, s2, es2, ls2⟩ := Q2.out
  have HRaa : Hid (sameR ⟨k0, x0, .slice e0 n0 d0, l0, s0, es0, ls0⟩ ⟨k0, x0, .slice e0 n0 d0, l0, s0, es0, ls0⟩ = true) := same_refl _
  have HLbb : Hid (leaksR ⟨k1, x1, .slice e1 n1 d1, l1, s1, es1, ls1⟩ ⟨k1, x1, .slice e1 n1 d1, l1, s1, es1, ls1⟩ = true) := leaks_refl _
  have HPcc : Hid (true = evPre es2 es2) := (pre_refl _).symm
  have hdB : ∀ {A0 A1 A2 A3 A4 A5 A6 A7 A8 A9 A10 A11 A12 A13 A14 : Prop} {v : World}, A0 ∧ A1 ∧ A2 ∧ A3 ∧ A4 ∧ A5 ∧ A6 ∧ A7 ∧ A8 ∧ A9 ∧ A10 ∧ A11 ∧ A12 ∧ A13 ∧ A14 ∧ Below w1.heap.size w1 v → Below w1.heap.size w1 v := fun h => h.2.2.2.2.2.2.2.2.2.2.2.2.2.2.2
  have q4 : (k0 == 4) = false := by simp; omega
  have d1x : decide (k0 < 1) = false := decide_eq_false (by omega)
  have d5x : decide (4 < k0) = false := decide_eq_false (by omega)
  have HF : Hid (refR ⟨k0, x0, .slice e0 n0 d0, l0, s0, es0, ls0⟩ ⟨k0, x0, .slice e0 n0 d0, l0, s0, es0, ls0⟩ = true) := ref_refl _ hcase
  clear hcase
  have hdS : ∀ {v : World}, Below w1.heap.size w1 v → (v.cell? ⟨B0, 0, none⟩ = some (.int .i64 k0) ∧ v.cell? ⟨B0, 1, none⟩ = some (.int .i64 x0) ∧ v.cell? ⟨B0, 2, none⟩ = some (.slice e0 n0 d0) ∧ v.cell? ⟨B0, 3, none⟩ = some (l0) ∧ v.cell? ⟨B0, 4, none⟩ = some (.int .i64 s0) ∧ v.cell? ⟨B1, 0, none⟩ = some (.int .i64 k1) ∧ v.cell? ⟨B1, 1, none⟩ = some (.int .i64 x1) ∧ v.cell? ⟨B1, 2, none⟩ = some (.slice e1 n1 d1) ∧ v.cell? ⟨B1, 3, none⟩ = some (l1) ∧ v.cell? ⟨B1, 4, none⟩ = some (.int .i64 s1) ∧ v.cell? ⟨B2, 0, none⟩ = some (.int .i64 k2) ∧ v.cell? ⟨B2, 1, none⟩ = some (.int .i64 x2) ∧ v.cell? ⟨B2, 2, none⟩ = some (.slice e2 n2 d2) ∧ v.cell? ⟨B2, 3, none⟩ = some (l2) ∧ v.cell? ⟨B2, 4, none⟩ = some (.int .i64 s2) ∧ Below w1.heap.size w1 v) := fun h => ⟨keep_cell h ac0, keep_cell h ac1, keep_cell h ac2, keep_cell h ac3, keep_cell h ac4, keep_cell h bc0, keep_cell h bc1, keep_cell h bc2, keep_cell h bc3, keep_cell h bc4, keep_cell h cc0, keep_cell h cc1, keep_cell h cc2, keep_cell h cc3, keep_cell h cc4, h⟩
  have er : (rab == rab) = true := by simp
  conv => arg 2; whnf
  refine wp_region_held_drew (S := (fun w' => w'.cell? ⟨B0, 0, none⟩ = some (.int .i64 k0) ∧ w'.cell? ⟨B0, 1, none⟩ = some (.int .i64 x0) ∧ w'.cell? ⟨B0, 2, none⟩ = some (.slice e0 n0 d0) ∧ w'.cell? ⟨B0, 3, none⟩ = some (l0) ∧ w'.cell? ⟨B0, 4, none⟩ = some (.int .i64 s0) ∧ w'.cell? ⟨B1, 0, none⟩ = some (.int .i64 k1) ∧ w'.cell? ⟨B1, 1, none⟩ = some (.int .i64 x1) ∧ w'.cell? ⟨B1, 2, none⟩ = some (.slice e1 n1 d1) ∧ w'.cell? ⟨B1, 3, none⟩ = some (l1) ∧ w'.cell? ⟨B1, 4, none⟩ = some (.int .i64 s1) ∧ w'.cell? ⟨B2, 0, none⟩ = some (.int .i64 k2) ∧ w'.cell? ⟨B2, 1, none⟩ = some (.int .i64 x2) ∧ w'.cell? ⟨B2, 2, none⟩ = some (.slice e2 n2 d2) ∧ w'.cell? ⟨B2, 3, none⟩ = some (l2) ∧ w'.cell? ⟨B2, 4, none⟩ = some (.int .i64 s2) ∧ Below w1.heap.size w1 w')) (by kernel_rfl) (hdS (Below.drew (Below.refl _ _))) (fun hHeld => ?_)
  refine wpAnyH_take (i := 0) (oi := ?oia0) (v := ?vva0) ?hia0 (by kernel_rfl) (by kernel_rfl) (by kernel_rfl) ?hqa0 ?hya0 hHeld ?_
  case hia0 => simp only [List.getElem?_toArray, List.getElem?_cons_succ, List.getElem?_cons_zero]; rfl
  case hqa0 => exact fun _ _ _ h => hQ0 _ _ _ _ _ h
  case hya0 => (refine Or.inl ⟨by rfl, ?_⟩; intro w' hSw; (try dsimp only at hSw); go_simp; (try (with_reducible rfl)))
  simp only [Act.put, List.setIfInBounds_toArray, List.set_cons_zero, List.set_cons_succ]
  refine wpAnyH_take (i := 1) (oi := ?oia1) (v := ?vva1) ?hia1 (by kernel_rfl) (by kernel_rfl) (by kernel_rfl) ?hqa1 ?hya1 hHeld ?_
  case hia1 => simp only [List.getElem?_toArray, List.getElem?_cons_succ, List.getElem?_cons_zero]; rfl
  case hqa1 => exact fun _ _ _ h => hQ0 _ _ _ _ _ h
  case hya1 => (refine Or.inl ⟨by rfl, ?_⟩; intro w' hSw; (try dsimp only at hSw); go_simp; (try (with_reducible rfl)))
  simp only [Act.put, List.setIfInBounds_toArray, List.set_cons_zero, List.set_cons_succ]
  refine wpAnyH_ready (rs := [2]) (by kernel_rfl) (by simp) ?_
  refine AllReadyH.cons (o := ?oia2) ?hia2 (fun K hK => ?_) AllReadyH.nil
  case hia2 => simp only [List.getElem?_toArray, List.getElem?_cons_succ, List.getElem?_cons_zero]; rfl
  go_simp
  refine (same_to ⟨k0, x0, .slice e0 n0 d0, l0, s0, es0, ls0⟩ ⟨k0, x0, .slice e0 n0 d0, l0, s0, es0, ls0⟩ _ (R0.keep (hdB hHeld)) (R0.keep (hdB hHeld)) true HRaa).mono ?_
  rintro e v2 ⟨rfl, hv2⟩
  go_wp2_with fail
  refine hK.out _ _ (hdS (bel_trans (hdB hHeld) hv2)) (fun hN => ?_)
  clear hK K hHeld
  have hHeld := hN
  clear hN
  try simp only [Act.put, List.setIfInBounds_toArray, List.set_cons_zero, List.set_cons_succ]
  refine wpAnyH_take (i := 3) (oi := ?oia3) (v := ?vva3) ?hia3 (by kernel_rfl) (by kernel_rfl) (by kernel_rfl) ?hqa3 ?hya3 hHeld ?_
  case hia3 => simp only [List.getElem?_toArray, List.getElem?_cons_succ, List.getElem?_cons_zero]; rfl
  case hqa3 => exact fun _ _ _ h => hQ0 _ _ _ _ _ h
  case hya3 => (refine Or.inl ⟨by rfl, ?_⟩; intro w' hSw; (try dsimp only at hSw); go_simp; (try (with_reducible rfl)))
  simp only [Act.put, List.setIfInBounds_toArray, List.set_cons_zero, List.set_cons_succ]
  refine wpAnyH_take (i := 4) (oi := ?oia4) (v := ?vva4) ?hia4 (by kernel_rfl) (by kernel_rfl) (by kernel_rfl) ?hqa4 ?hya4 hHeld ?_
  case hia4 => simp only [List.getElem?_toArray, List.getElem?_cons_succ, List.getElem?_cons_zero]; rfl
  case hqa4 => exact fun _ _ _ h => hQ0 _ _ _ _ _ h
  case hya4 => (refine Or.inl ⟨by rfl, ?_⟩; intro w' hSw; (try dsimp only at hSw); go_simp; (try (with_reducible rfl)))
  simp only [Act.put, List.setIfInBounds_toArray, List.set_cons_zero, List.set_cons_succ]
  refine wpAnyH_take (i := 5) (oi := ?oia5) (v := ?vva5) ?hia5 (by kernel_rfl) (by kernel_rfl) (by kernel_rfl) ?hqa5 ?hya5 hHeld ?_
  case hia5 => simp only [List.getElem?_toArray, List.getElem?_cons_succ, List.getElem?_cons_zero]; rfl
  case hqa5 => exact fun _ _ _ h => hQ0 _ _ _ _ _ h
  case hya5 => (refine Or.inl ⟨by rfl, ?_⟩; intro w' hSw; (try dsimp only at hSw); go_simp; (try (with_reducible rfl)))
  simp only [Act.put, List.setIfInBounds_toArray, List.set_cons_zero, List.set_cons_succ]
  refine wpAnyH_ready (rs := [6]) (by kernel_rfl) (by simp) ?_
  refine AllReadyH.cons (o := ?oia6) ?hia6 (fun K hK => ?_) AllReadyH.nil
  case hia6 => simp only [List.getElem?_toArray, List.getElem?_cons_succ, List.getElem?_cons_zero]; rfl
  go_simp
  refine (leaks_to ⟨k1, x1, .slice e1 n1 d1, l1, s1, es1, ls1⟩ ⟨k1, x1, .slice e1 n1 d1, l1, s1, es1, ls1⟩ _ (R1.keep (hdB hHeld)) (R1.keep (hdB hHeld)) true HLbb).mono ?_
  rintro e v6 ⟨rfl, hv6⟩
  go_wp2_with fail
  refine hK.out _ _ (hdS (bel_trans (hdB hHeld) hv6)) (fun hN => ?_)
  clear hK K hHeld
  have hHeld := hN
  clear hN
  try simp only [Act.put, List.setIfInBounds_toArray, List.set_cons_zero, List.set_cons_succ]
  refine wpAnyH_take (i := 7) (oi := ?oia7) (v := ?vva7) ?hia7 (by kernel_rfl) (by kernel_rfl) (by kernel_rfl) ?hqa7 ?hya7 hHeld ?_
  case hia7 => simp only [List.getElem?_toArray, List.getElem?_cons_succ, List.getElem?_cons_zero]; rfl
  case hqa7 => exact fun _ _ _ h => hQ0 _ _ _ _ _ h
  case hya7 => (refine Or.inl ⟨by rfl, ?_⟩; intro w' hSw; (try dsimp only at hSw); go_simp; (try (with_reducible rfl)))
  simp only [Act.put, List.setIfInBounds_toArray, List.set_cons_zero, List.set_cons_succ]
  refine wpAnyH_take (i := 8) (oi := ?oia8) (v := ?vva8) ?hia8 (by kernel_rfl) (by kernel_rfl) (by kernel_rfl) ?hqa8 ?hya8 hHeld ?_
  case hia8 => simp only [List.getElem?_toArray, List.getElem?_cons_succ, List.getElem?_cons_zero]; rfl
  case hqa8 => exact fun _ _ _ h => hQ0 _ _ _ _ _ h
  case hya8 => (refine Or.inl ⟨by rfl, ?_⟩; intro w' hSw; (try dsimp only at hSw); go_simp; (try (with_reducible rfl)))
  simp only [Act.put, List.setIfInBounds_toArray, List.set_cons_zero, List.set_cons_succ]
  refine wpAnyH_take (i := 9) (oi := ?oia9) (v := ?vva9) ?hia9 (by kernel_rfl) (by kernel_rfl) (by kernel_rfl) ?hqa9 ?hya9 hHeld ?_
  case hia9 => simp only [List.getElem?_toArray, List.getElem?_cons_succ, List.getElem?_cons_zero]; rfl
  case hqa9 => exact fun _ _ _ h => hQ0 _ _ _ _ _ h
  case hya9 => (refine Or.inl ⟨by rfl, ?_⟩; intro w' hSw; (try dsimp only at hSw); go_simp; (try (with_reducible rfl)))
  simp only [Act.put, List.setIfInBounds_toArray, List.set_cons_zero, List.set_cons_succ]
  refine wpAnyH_take (i := 10) (oi := ?oia10) (v := ?vva10) ?hia10 (by kernel_rfl) (by kernel_rfl) (by kernel_rfl) ?hqa10 ?hya10 hHeld ?_
  case hia10 => simp only [List.getElem?_toArray, List.getElem?_cons_succ, List.getElem?_cons_zero]; rfl
  case hqa10 => exact fun _ _ _ h => hQ0 _ _ _ _ _ h
  case hya10 => (refine Or.inl ⟨by rfl, ?_⟩; intro w' hSw; (try dsimp only at hSw); go_simp; (try (with_reducible rfl)))
  simp only [Act.put, List.setIfInBounds_toArray, List.set_cons_zero, List.set_cons_succ]
  refine wpAnyH_take (i := 11) (oi := ?oia11) (v := ?vva11) ?hia11 (by kernel_rfl) (by kernel_rfl) (by kernel_rfl) ?hqa11 ?hya11 hHeld ?_
  case hia11 => simp only [List.getElem?_toArray, List.getElem?_cons_succ, List.getElem?_cons_zero]; rfl
  case hqa11 => exact fun _ _ _ h => hQ0 _ _ _ _ _ h
  case hya11 => (refine Or.inl ⟨by rfl, ?_⟩; intro w' hSw; (try dsimp only at hSw); go_simp; (try (with_reducible rfl)))
  simp only [Act.put, List.setIfInBounds_toArray, List.set_cons_zero, List.set_cons_succ]
  refine wpAnyH_take (i := 12) (oi := ?oia12) (v := ?vva12) ?hia12 (by kernel_rfl) (by kernel_rfl) (by kernel_rfl) ?hqa12 ?hya12 hHeld ?_
  case hia12 => simp only [List.getElem?_toArray, List.getElem?_cons_succ, List.getElem?_cons_zero]; rfl
  case hqa12 => exact fun _ _ _ h => hQ0 _ _ _ _ _ h
  case hya12 => (refine Or.inl ⟨by rfl, ?_⟩; intro w' hSw; (try dsimp only at hSw); go_simp; (try (with_reducible rfl)))
  simp only [Act.put, List.setIfInBounds_toArray, List.set_cons_zero, List.set_cons_succ]
  refine wpAnyH_ready (rs := [13]) (by kernel_rfl) (by simp) ?_
  refine AllReadyH.cons (o := ?oia13) ?hia13 (fun K hK => ?_) AllReadyH.nil
  case hia13 => simp only [List.getElem?_toArray, List.getElem?_cons_succ, List.getElem?_cons_zero]; rfl
  go_simp
  refine (prefix_to (EvAt.keep R2.1 (hdB hHeld)) (EvAt.keep R2.1 (hdB hHeld)) (r := true) HPcc).mono ?_
  rintro e v13 ⟨rfl, hv13⟩
  go_wp2_with fail
  refine hK.out _ _ (hdS (bel_trans (hdB hHeld) hv13)) (fun hN => ?_)
  clear hK K hHeld
  have hHeld := hN
  clear hN
  try simp only [Act.put, List.setIfInBounds_toArray, List.set_cons_zero, List.set_cons_succ]
  refine wpAnyH_take (i := 14) (oi := ?oia14) (v := ?vva14) ?hia14 (by kernel_rfl) (by kernel_rfl) (by kernel_rfl) ?hqa14 ?hya14 hHeld ?_
  case hia14 => simp only [List.getElem?_toArray, List.getElem?_cons_succ, List.getElem?_cons_zero]; rfl
  case hqa14 => exact fun _ _ _ h => hQ0 _ _ _ _ _ h
  case hya14 => (refine Or.inl ⟨by rfl, ?_⟩; intro w' hSw; (try dsimp only at hSw); go_simp; (try (with_reducible rfl)))
  simp only [Act.put, List.setIfInBounds_toArray, List.set_cons_zero, List.set_cons_succ]
  refine wpAnyH_take (i := 15) (oi := ?oia15) (v := ?vva15) ?hia15 (by kernel_rfl) (by kernel_rfl) (by kernel_rfl) ?hqa15 ?hya15 hHeld ?_
  case hia15 => simp only [List.getElem?_toArray, List.getElem?_cons_succ, List.getElem?_cons_zero]; rfl
  case hqa15 => exact fun _ _ _ h => hQ0 _ _ _ _ _ h
  case hya15 => (refine Or.inl ⟨by rfl, ?_⟩; intro w' hSw; (try dsimp only at hSw); go_simp; (try (with_reducible rfl)))
  simp only [Act.put, List.setIfInBounds_toArray, List.set_cons_zero, List.set_cons_succ]
  refine wpAnyH_take (i := 16) (oi := ?oia16) (v := ?vva16) ?hia16 (by kernel_rfl) (by kernel_rfl) (by kernel_rfl) ?hqa16 ?hya16 hHeld ?_
  case hia16 => simp only [List.getElem?_toArray, List.getElem?_cons_succ, List.getElem?_cons_zero]; rfl
  case hqa16 => exact fun _ _ _ h => hQ0 _ _ _ _ _ h
  case hya16 => (refine Or.inl ⟨by rfl, ?_⟩; intro w' hSw; (try dsimp only at hSw); go_simp; (try (with_reducible rfl)))
  simp only [Act.put, List.setIfInBounds_toArray, List.set_cons_zero, List.set_cons_succ]
  refine wpAnyH_take (i := 17) (oi := ?oia17) (v := ?vva17) ?hia17 (by kernel_rfl) (by kernel_rfl) (by kernel_rfl) ?hqa17 ?hya17 hHeld ?_
  case hia17 => simp only [List.getElem?_toArray, List.getElem?_cons_succ, List.getElem?_cons_zero]; rfl
  case hqa17 => exact fun _ _ _ h => hQ0 _ _ _ _ _ h
  case hya17 => (refine Or.inl ⟨by rfl, ?_⟩; intro w' hSw; (try dsimp only at hSw); go_simp; (try (with_reducible rfl)))
  simp only [Act.put, List.setIfInBounds_toArray, List.set_cons_zero, List.set_cons_succ]
  refine wpAnyH_take (i := 18) (oi := ?oia18) (v := ?vva18) ?hia18 (by kernel_rfl) (by kernel_rfl) (by kernel_rfl) ?hqa18 ?hya18 hHeld ?_
  case hia18 => simp only [List.getElem?_toArray, List.getElem?_cons_succ, List.getElem?_cons_zero]; rfl
  case hqa18 => exact fun _ _ _ h => hQ0 _ _ _ _ _ h
  case hya18 => (refine Or.inl ⟨by rfl, ?_⟩; intro w' hSw; (try dsimp only at hSw); go_simp; (try (with_reducible rfl)))
  simp only [Act.put, List.setIfInBounds_toArray, List.set_cons_zero, List.set_cons_succ]
  refine wpAnyH_take (i := 19) (oi := ?oia19) (v := ?vva19) ?hia19 (by kernel_rfl) (by kernel_rfl) (by kernel_rfl) ?hqa19 ?hya19 hHeld ?_
  case hia19 => simp only [List.getElem?_toArray, List.getElem?_cons_succ, List.getElem?_cons_zero]; rfl
  case hqa19 => exact fun _ _ _ h => hQ0 _ _ _ _ _ h
  case hya19 => (refine Or.inl ⟨by rfl, ?_⟩; intro w' hSw; (try dsimp only at hSw); go_simp; (try (with_reducible rfl)))
  simp only [Act.put, List.setIfInBounds_toArray, List.set_cons_zero, List.set_cons_succ]
  refine wpAnyH_take (i := 20) (oi := ?oia20) (v := ?vva20) ?hia20 (by kernel_rfl) (by kernel_rfl) (by kernel_rfl) ?hqa20 ?hya20 hHeld ?_
  case hia20 => simp only [List.getElem?_toArray, List.getElem?_cons_succ, List.getElem?_cons_zero]; rfl
  case hqa20 => exact fun _ _ _ h => hQ0 _ _ _ _ _ h
  case hya20 => (refine Or.inl ⟨by rfl, ?_⟩; intro w' hSw; (try dsimp only at hSw); go_simp; (try (with_reducible rfl)))
  simp only [Act.put, List.setIfInBounds_toArray, List.set_cons_zero, List.set_cons_succ]
  refine wpAnyH_take (i := 21) (oi := ?oia21) (v := ?vva21) ?hia21 (by kernel_rfl) (by kernel_rfl) (by kernel_rfl) ?hqa21 ?hya21 hHeld ?_
  case hia21 => simp only [List.getElem?_toArray, List.getElem?_cons_succ, List.getElem?_cons_zero]; rfl
  case hqa21 => exact fun _ _ _ h => hQ0 _ _ _ _ _ h
  case hya21 => (refine Or.inl ⟨by rfl, ?_⟩; intro w' hSw; (try dsimp only at hSw); go_simp; (try (with_reducible rfl)))
  simp only [Act.put, List.setIfInBounds_toArray, List.set_cons_zero, List.set_cons_succ]
  refine wpAnyH_take (i := 22) (oi := ?oia22) (v := ?vva22) ?hia22 (by kernel_rfl) (by kernel_rfl) (by kernel_rfl) ?hqa22 ?hya22 hHeld ?_
  case hia22 => simp only [List.getElem?_toArray, List.getElem?_cons_succ, List.getElem?_cons_zero]; rfl
  case hqa22 => exact fun _ _ _ h => hQ0 _ _ _ _ _ h
  case hya22 => (refine Or.inl ⟨by rfl, ?_⟩; intro w' hSw; (try dsimp only at hSw); go_simp; (try (with_reducible rfl)))
  simp only [Act.put, List.setIfInBounds_toArray, List.set_cons_zero, List.set_cons_succ]
  refine wpAnyH_take (i := 23) (oi := ?oia23) (v := ?vva23) ?hia23 (by kernel_rfl) (by kernel_rfl) (by kernel_rfl) ?hqa23 ?hya23 hHeld ?_
  case hia23 => simp only [List.getElem?_toArray, List.getElem?_cons_succ, List.getElem?_cons_zero]; rfl
  case hqa23 => exact fun _ _ _ h => hQ0 _ _ _ _ _ h
  case hya23 => (refine Or.inl ⟨by rfl, ?_⟩; intro w' hSw; (try dsimp only at hSw); go_simp; (try (with_reducible rfl)))
  simp only [Act.put, List.setIfInBounds_toArray, List.set_cons_zero, List.set_cons_succ]
  refine wpAnyH_take (i := 24) (oi := ?oia24) (v := ?vva24) ?hia24 (by kernel_rfl) (by kernel_rfl) (by kernel_rfl) ?hqa24 ?hya24 hHeld ?_
  case hia24 => simp only [List.getElem?_toArray, List.getElem?_cons_succ, List.getElem?_cons_zero]; rfl
  case hqa24 => exact fun _ _ _ h => hQ0 _ _ _ _ _ h
  case hya24 => (refine Or.inl ⟨by rfl, ?_⟩; intro w' hSw; (try dsimp only at hSw); go_simp; (try (with_reducible rfl)))
  simp only [Act.put, List.setIfInBounds_toArray, List.set_cons_zero, List.set_cons_succ]
  refine wpAnyH_take (i := 25) (oi := ?oia25) (v := ?vva25) ?hia25 (by kernel_rfl) (by kernel_rfl) (by kernel_rfl) ?hqa25 ?hya25 hHeld ?_
  case hia25 => simp only [List.getElem?_toArray, List.getElem?_cons_succ, List.getElem?_cons_zero]; rfl
  case hqa25 => exact fun _ _ _ h => hQ0 _ _ _ _ _ h
  case hya25 => (refine Or.inl ⟨by rfl, ?_⟩; intro w' hSw; (try dsimp only at hSw); go_simp; (try (with_reducible rfl)))
  simp only [Act.put, List.setIfInBounds_toArray, List.set_cons_zero, List.set_cons_succ]
  refine wpAnyH_take (i := 26) (oi := ?oia26) (v := ?vva26) ?hia26 (by kernel_rfl) (by kernel_rfl) (by kernel_rfl) ?hqa26 ?hya26 hHeld ?_
  case hia26 => simp only [List.getElem?_toArray, List.getElem?_cons_succ, List.getElem?_cons_zero]; rfl
  case hqa26 => exact fun _ _ _ h => hQ0 _ _ _ _ _ h
  case hya26 => (refine Or.inl ⟨by rfl, ?_⟩; intro w' hSw; (try dsimp only at hSw); go_simp; (try (with_reducible rfl)))
  simp only [Act.put, List.setIfInBounds_toArray, List.set_cons_zero, List.set_cons_succ]
  refine wpAnyH_take (i := 27) (oi := ?oia27) (v := ?vva27) ?hia27 (by kernel_rfl) (by kernel_rfl) (by kernel_rfl) ?hqa27 ?hya27 hHeld ?_
  case hia27 => simp only [List.getElem?_toArray, List.getElem?_cons_succ, List.getElem?_cons_zero]; rfl
  case hqa27 => exact fun _ _ _ h => hQ0 _ _ _ _ _ h
  case hya27 => (refine Or.inl ⟨by rfl, ?_⟩; intro w' hSw; (try dsimp only at hSw); go_simp; (try (with_reducible rfl)))
  simp only [Act.put, List.setIfInBounds_toArray, List.set_cons_zero, List.set_cons_succ]
  refine wpAnyH_take (i := 28) (oi := ?oia28) (v := ?vva28) ?hia28 (by kernel_rfl) (by kernel_rfl) (by kernel_rfl) ?hqa28 ?hya28 hHeld ?_
  case hia28 => simp only [List.getElem?_toArray, List.getElem?_cons_succ, List.getElem?_cons_zero]; rfl
  case hqa28 => exact fun _ _ _ h => hQ0 _ _ _ _ _ h
  case hya28 => (refine Or.inl ⟨by rfl, ?_⟩; intro w' hSw; (try dsimp only at hSw); go_simp; (try (with_reducible rfl)))
  simp only [Act.put, List.setIfInBounds_toArray, List.set_cons_zero, List.set_cons_succ]
  refine wpAnyH_take (i := 29) (oi := ?oia29) (v := ?vva29) ?hia29 (by kernel_rfl) (by kernel_rfl) (by kernel_rfl) ?hqa29 ?hya29 hHeld ?_
  case hia29 => simp only [List.getElem?_toArray, List.getElem?_cons_succ, List.getElem?_cons_zero]; rfl
  case hqa29 => exact fun _ _ _ h => hQ0 _ _ _ _ _ h
  case hya29 => (refine Or.inl ⟨by rfl, ?_⟩; intro w' hSw; (try dsimp only at hSw); go_simp; (try (with_reducible rfl)))
  simp only [Act.put, List.setIfInBounds_toArray, List.set_cons_zero, List.set_cons_succ]
  refine wpAnyH_take (i := 30) (oi := ?oia30) (v := ?vva30) ?hia30 (by kernel_rfl) (by kernel_rfl) (by kernel_rfl) ?hqa30 ?hya30 hHeld ?_
  case hia30 => simp only [List.getElem?_toArray, List.getElem?_cons_succ, List.getElem?_cons_zero]; rfl
  case hqa30 => exact fun _ _ _ h => hQ0 _ _ _ _ _ h
  case hya30 => (refine Or.inl ⟨by rfl, ?_⟩; intro w' hSw; (try dsimp only at hSw); go_simp; (try (with_reducible rfl)))
  simp only [Act.put, List.setIfInBounds_toArray, List.set_cons_zero, List.set_cons_succ]
  refine wpAnyH_take (i := 31) (oi := ?oia31) (v := ?vva31) ?hia31 (by kernel_rfl) (by kernel_rfl) (by kernel_rfl) ?hqa31 ?hya31 hHeld ?_
  case hia31 => simp only [List.getElem?_toArray, List.getElem?_cons_succ, List.getElem?_cons_zero]; rfl
  case hqa31 => exact fun _ _ _ h => hQ0 _ _ _ _ _ h
  case hya31 => (refine Or.inl ⟨by rfl, ?_⟩; intro w' hSw; (try dsimp only at hSw); go_simp; (try (with_reducible rfl)))
  simp only [Act.put, List.setIfInBounds_toArray, List.set_cons_zero, List.set_cons_succ]
  refine wpAnyH_ready (rs := [32]) (by kernel_rfl) (by simp) ?_
  refine AllReadyH.cons (o := ?oia32) ?hia32 (fun K hK => ?_) AllReadyH.nil
  case hia32 => simp only [List.getElem?_toArray, List.getElem?_cons_succ, List.getElem?_cons_zero]; rfl
  go_simp
  refine (refines_to ⟨k0, x0, .slice e0 n0 d0, l0, s0, es0, ls0⟩ ⟨k0, x0, .slice e0 n0 d0, l0, s0, es0, ls0⟩ _ (R0.keep (hdB hHeld)) (R0.keep (hdB hHeld)) true HF).mono ?_
  rintro e v32 ⟨rfl, hv32⟩
  go_wp2_with fail
  refine hK.out _ _ (hdS (bel_trans (hdB hHeld) hv32)) (fun hN => ?_)
  clear hK K hHeld
  have hHeld := hN
  clear hN
  try simp only [Act.put, List.setIfInBounds_toArray, List.set_cons_zero, List.set_cons_succ]
  refine wpAnyH_take (i := 33) (oi := ?oia33) (v := ?vva33) ?hia33 (by kernel_rfl) (by kernel_rfl) (by kernel_rfl) ?hqa33 ?hya33 hHeld ?_
  case hia33 => simp only [List.getElem?_toArray, List.getElem?_cons_succ, List.getElem?_cons_zero]; rfl
  case hqa33 => exact fun _ _ _ h => hQ0 _ _ _ _ _ h
  case hya33 => (refine Or.inl ⟨by rfl, ?_⟩; intro w' hSw; (try dsimp only at hSw); go_simp; (try (with_reducible rfl)))
  simp only [Act.put, List.setIfInBounds_toArray, List.set_cons_zero, List.set_cons_succ]
  refine wpAnyH_take (i := 34) (oi := ?oia34) (v := ?vva34) ?hia34 (by kernel_rfl) (by kernel_rfl) (by kernel_rfl) ?hqa34 ?hya34 hHeld ?_
  case hia34 => simp only [List.getElem?_toArray, List.getElem?_cons_succ, List.getElem?_cons_zero]; rfl
  case hqa34 => exact fun _ _ _ h => hQ0 _ _ _ _ _ h
  case hya34 => (refine Or.inl ⟨by rfl, ?_⟩; intro w' hSw; (try dsimp only at hSw); go_simp; (try (with_reducible rfl)))
  simp only [Act.put, List.setIfInBounds_toArray, List.set_cons_zero, List.set_cons_succ]
  refine wpAnyH_take (i := 35) (oi := ?oia35) (v := ?vva35) ?hia35 (by kernel_rfl) (by kernel_rfl) (by kernel_rfl) ?hqa35 ?hya35 hHeld ?_
  case hia35 => simp only [List.getElem?_toArray, List.getElem?_cons_succ, List.getElem?_cons_zero]; rfl
  case hqa35 => exact fun _ _ _ h => hQ0 _ _ _ _ _ h
  case hya35 => (refine Or.inl ⟨by rfl, ?_⟩; intro w' hSw; (try dsimp only at hSw); go_simp; (try (with_reducible rfl)))
  simp only [Act.put, List.setIfInBounds_toArray, List.set_cons_zero, List.set_cons_succ]
  refine wpAnyH_take (i := 36) (oi := ?oia36) (v := ?vva36) ?hia36 (by kernel_rfl) (by kernel_rfl) (by kernel_rfl) ?hqa36 ?hya36 hHeld ?_
  case hia36 => simp only [List.getElem?_toArray, List.getElem?_cons_succ, List.getElem?_cons_zero]; rfl
  case hqa36 => exact fun _ _ _ h => hQ0 _ _ _ _ _ h
  case hya36 => (refine Or.inl ⟨by rfl, ?_⟩; intro w' hSw; (try dsimp only at hSw); go_simp; (try (with_reducible rfl)))
  simp only [Act.put, List.setIfInBounds_toArray, List.set_cons_zero, List.set_cons_succ]
  refine wpAnyH_take (i := 37) (oi := ?oia37) (v := ?vva37) ?hia37 (by kernel_rfl) (by kernel_rfl) (by kernel_rfl) ?hqa37 ?hya37 hHeld ?_
  case hia37 => simp only [List.getElem?_toArray, List.getElem?_cons_succ, List.getElem?_cons_zero]; rfl
  case hqa37 => exact fun _ _ _ h => hQ0 _ _ _ _ _ h
  case hya37 => (refine Or.inl ⟨by rfl, ?_⟩; intro w' hSw; (try dsimp only at hSw); go_simp; (try (with_reducible rfl)))
  simp only [Act.put, List.setIfInBounds_toArray, List.set_cons_zero, List.set_cons_succ]
  refine wpAnyH_take (i := 39) (oi := ?oia39) (v := ?vva39) ?hia39 (by kernel_rfl) (by kernel_rfl) (by kernel_rfl) ?hqa39 ?hya39 hHeld ?_
  case hia39 => simp only [List.getElem?_toArray, List.getElem?_cons_succ, List.getElem?_cons_zero]; rfl
  case hqa39 => exact fun _ _ _ h => hQ0 _ _ _ _ _ h
  case hya39 => (refine Or.inl ⟨by rfl, ?_⟩; intro w' hSw; (try dsimp only at hSw); go_simp; (try (with_reducible rfl)))
  simp only [Act.put, List.setIfInBounds_toArray, List.set_cons_zero, List.set_cons_succ]
  refine wpAnyH_take (i := 40) (oi := ?oia40) (v := ?vva40) ?hia40 (by kernel_rfl) (by kernel_rfl) (by kernel_rfl) ?hqa40 ?hya40 hHeld ?_
  case hia40 => simp only [List.getElem?_toArray, List.getElem?_cons_succ, List.getElem?_cons_zero]; rfl
  case hqa40 => exact fun _ _ _ h => hQ0 _ _ _ _ _ h
  case hya40 => (refine Or.inl ⟨by rfl, ?_⟩; intro w' hSw; (try dsimp only at hSw); go_simp; (try (with_reducible rfl)))
  simp only [Act.put, List.setIfInBounds_toArray, List.set_cons_zero, List.set_cons_succ]
  refine wpAnyH_ready (rs := [38]) (by kernel_rfl) (by simp) ?_
  refine AllReadyH.cons (o := ?oia38) ?hia38 (fun K hK => ?_) AllReadyH.nil
  case hia38 => simp only [List.getElem?_toArray, List.getElem?_cons_succ, List.getElem?_cons_zero]; rfl
  go_simp
  refine (same_to ⟨k0, x0, .slice e0 n0 d0, l0, s0, es0, ls0⟩ ⟨k1, x1, .slice e1 n1 d1, l1, s1, es1, ls1⟩ _ (R0.keep (hdB hHeld)) (R1.keep (hdB hHeld)) rab HRab).mono ?_
  rintro e v38 ⟨rfl, hv38⟩
  go_wp2_with fail
  refine hK.out _ _ (hdS (bel_trans (hdB hHeld) hv38)) (fun hN => ?_)
  clear hK K hHeld
  have hHeld := hN
  clear hN
  try simp only [Act.put, List.setIfInBounds_toArray, List.set_cons_zero, List.set_cons_succ]
  refine wpAnyH_ready (rs := [41]) (by kernel_rfl) (by simp) ?_
  refine AllReadyH.cons (o := ?oia41) ?hia41 (fun K hK => ?_) AllReadyH.nil
  case hia41 => simp only [List.getElem?_toArray, List.getElem?_cons_succ, List.getElem?_cons_zero]; rfl
  go_simp
  refine (same_to ⟨k1, x1, .slice e1 n1 d1, l1, s1, es1, ls1⟩ ⟨k0, x0, .slice e0 n0 d0, l0, s0, es0, ls0⟩ _ (R1.keep (hdB hHeld)) (R0.keep (hdB hHeld)) rab HRba).mono ?_
  rintro e v41 ⟨rfl, hv41⟩
  go_wp2_with fail
  refine hK.out _ _ (hdS (bel_trans (hdB hHeld) hv41)) (fun hN => ?_)
  clear hK K hHeld
  have hHeld := hN
  clear hN
  try simp only [Act.put, List.setIfInBounds_toArray, List.set_cons_zero, List.set_cons_succ]
  refine wpAnyH_take (i := 42) (oi := ?oia42) (v := ?vva42) ?hia42 (by kernel_rfl) (by kernel_rfl) (by kernel_rfl) ?hqa42 ?hya42 hHeld ?_
  case hia42 => simp only [List.getElem?_toArray, List.getElem?_cons_succ, List.getElem?_cons_zero]; rfl
  case hqa42 => exact fun _ _ _ h => hQ0 _ _ _ _ _ h
  case hya42 => (refine Or.inl ⟨by rfl, ?_⟩; intro w' hSw; (try dsimp only at hSw); go_simp; (try (with_reducible rfl)))
  simp only [Act.put, List.setIfInBounds_toArray, List.set_cons_zero, List.set_cons_succ]
  refine wpAnyH_take (i := 43) (oi := ?oia43) (v := ?vva43) ?hia43 (by kernel_rfl) (by kernel_rfl) (by kernel_rfl) ?hqa43 ?hya43 hHeld ?_
  case hia43 => simp only [List.getElem?_toArray, List.getElem?_cons_succ, List.getElem?_cons_zero]; rfl
  case hqa43 => exact fun _ _ _ h => hQ0 _ _ _ _ _ h
  case hya43 => (refine Or.inl ⟨by rfl, ?_⟩; intro w' hSw; (try dsimp only at hSw); go_simp; (try (with_reducible rfl)))
  simp only [Act.put, List.setIfInBounds_toArray, List.set_cons_zero, List.set_cons_succ]
  refine wpAnyH_take (i := 44) (oi := ?oia44) (v := ?vva44) ?hia44 (by kernel_rfl) (by kernel_rfl) (by kernel_rfl) ?hqa44 ?hya44 hHeld ?_
  case hia44 => simp only [List.getElem?_toArray, List.getElem?_cons_succ, List.getElem?_cons_zero]; rfl
  case hqa44 => exact fun _ _ _ h => hQ0 _ _ _ _ _ h
  case hya44 => (refine Or.inl ⟨by rfl, ?_⟩; intro w' hSw; (try dsimp only at hSw); go_simp; (try (with_reducible rfl)))
  simp only [Act.put, List.setIfInBounds_toArray, List.set_cons_zero, List.set_cons_succ]
  refine wpAnyH_done (by kernel_rfl) ?_ _
  have hfin := hdB hHeld
  exact hK _ _ _ _ _ _ _ _ _ _ _ _ _ _ _ _ _ _ _ _ _ _ _ _ _ _ _ _ _ _ _ _ _ _ _ _ _ _ _ _ _ _ _ _ _ hfin
end Go.Proofs.YtokdnjnkgflbcaaDoor
