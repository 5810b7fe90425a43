/- MemPlays: a round at the call d. -/
import Derived.Test.YtnklpccggbkknaaNPlR
import Derived.Deep.DeepCutAuto
import Derived.Deep.CutRange
namespace Go.Proofs.Ytnklpccggbkknaa
open Go.ChangeShapes Go.WideShapes Go.ChangeAt Go.RowKit Go.Joins Pl
set_option linter.unusedSimpArgs false
set_option linter.unusedVariables false

set_option maxRecDepth 1000000 in
set_option maxHeartbeats 20000000 in
theorem pl_opd  (n1 c1 pm pr : Nat) (cut : Int) (w : World) (z2z z3z z22z z23z z24z z25z z26z z27z z28z z29z z30z z31z z32z z33z z202z z203z z204z z205z z206z z207z z208z z209z z210z z211z z212z z213z z214z z215z : Value) (z4z z10z z11z z12z z13z z14z z15z z16z z17z z18z z19z z20z z21z z34z z35z z36z z37z z38z z39z z40z z41z z42z z43z z44z z45z z46z z47z z48z z49z z50z z51z z52z z53z z54z z55z z56z z57z z58z z59z z60z z61z z62z z63z z64z z65z z66z z67z z68z z69z z70z z71z z72z z73z z74z z75z z76z z77z z78z z79z z80z z81z z82z z83z z84z z85z z86z z87z z88z z89z z90z z91z z92z z93z z94z z95z z96z z97z z98z z99z z100z z101z z102z z103z z104z z105z z106z z107z z108z z109z z110z z111z z112z z113z z114z z115z z116z z117z z118z z119z z120z z121z z122z z123z z124z z125z z126z z127z z128z z129z z130z z131z z132z z133z z134z z135z z136z z137z z138z z139z z140z z141z z142z z143z z144z z145z z146z z147z z148z z149z z150z z151z z152z z153z z154z z155z z156z z157z z158z z159z z160z z161z z162z z163z z164z z165z z166z z167z z168z z169z z170z z171z z172z z173z z174z z175z z176z z177z z178z z179z z180z z181z z182z z183z z184z z185z z186z z187z z188z z189z z190z z191z z192z z193z z194z z195z z196z z197z z198z z199z z200z z201z : Value) (b1 off1 : Nat) (Z : Nat → Nat → Int) (i pc ph : Nat) (M : List AB) (N : RM) (C : List AB) (wr : World) (Q0 : Exit → Act → World → Prop) (hQ0 : ∀ c (a : Act) d v x, Q0 (.panic c) (a.put d v) x → Q0 (.panic c) a x) (h1 : (n1 : Int) ≤ 80) (hin : i < n1) (HA : Hid (∀ i, i < n1 → ∀ j, j < 9 → w.cell? ⟨b1, off1 + i * 9 + j, none⟩ = some (.int .i64 (Z i j))))
    (HPK : Hid (PK w wr pm pr pc ph M N C C)) (HREL : Hid (MRel M N)) (HPT0 : Hid (N.ptrs.length ≤ i)) (hop : ¬ Z i 0 = 0 ∧ ¬ Z i 0 = 1 ∧ ¬ Z i 0 = 2 ∧ ¬ Z i 0 = 3 ∧ ¬ Z i 0 = 4) :
    Code.wp Try.prog plBody (Exit.then (fun a' w'' => PlI (some ⟨b1, off1, none⟩) n1 c1 pm pr cut w z2z z3z z22z z23z z24z z25z z26z z27z z28z z29z z30z z31z z32z z33z z202z z203z z204z z205z z206z z207z z208z z209z z210z z211z z212z z213z z214z z215z a' w'' ∧ PlMu n1 a' w'' < PlMu n1 ⟨#[.slice (some ⟨b1, off1, none⟩) n1 c1, .int .i64 cut, z2z, z3z, z4z, .pointer (some ⟨pm, 0, none⟩), .pointer (some ⟨pr, 0, none⟩), .pointer (some ⟨pc, 0, none⟩), .pointer (some ⟨ph, 0, none⟩), .int .i64 i, z10z, z11z, z12z, z13z, z14z, z15z, z16z, z17z, z18z, z19z, z20z, z21z, z22z, z23z, z24z, z25z, z26z, z27z, z28z, z29z, z30z, z31z, z32z, z33z, z34z, z35z, z36z, z37z, z38z, z39z, z40z, z41z, z42z, z43z, z44z, z45z, z46z, z47z, z48z, z49z, z50z, z51z, z52z, z53z, z54z, z55z, z56z, z57z, z58z, z59z, z60z, z61z, z62z, z63z, z64z, z65z, z66z, z67z, z68z, z69z, z70z, z71z, z72z, z73z, z74z, z75z, z76z, z77z, z78z, z79z, z80z, z81z, z82z, z83z, z84z, z85z, z86z, z87z, z88z, z89z, z90z, z91z, z92z, z93z, z94z, z95z, z96z, z97z, z98z, z99z, z100z, z101z, z102z, z103z, z104z, z105z, z106z, z107z, z108z, z109z, z110z, z111z, z112z, z113z, z114z, z115z, z116z, z117z, z118z, z119z, z120z, z121z, z122z, z123z, z124z, z125z, z126z, z127z, z128z, z129z, z130z, z131z, z132z, z133z, z134z, z135z, z136z, z137z, z138z, z139z, z140z, z141z, z142z, z143z, z144z, z145z, z146z, z147z, z148z, z149z, z150z, z151z, z152z, z153z, z154z, z155z, z156z, z157z, z158z, z159z, z160z, z161z, z162z, z163z, z164z, z165z, z166z, z167z, z168z, z169z, z170z, z171z, z172z, z173z, z174z, z175z, z176z, z177z, z178z, z179z, z180z, z181z, z182z, z183z, z184z, z185z, z186z, z187z, z188z, z189z, z190z, z191z, z192z, z193z, z194z, z195z, z196z, z197z, z198z, z199z, z200z, z201z, z202z, z203z, z204z, z205z, z206z, z207z, z208z, z209z, z210z, z211z, z212z, z213z, z214z, z215z], []⟩ wr) Q0) ⟨#[.slice (some ⟨b1, off1, none⟩) n1 c1, .int .i64 cut, z2z, z3z, z4z, .pointer (some ⟨pm, 0, none⟩), .pointer (some ⟨pr, 0, none⟩), .pointer (some ⟨pc, 0, none⟩), .pointer (some ⟨ph, 0, none⟩), .int .i64 i, z10z, z11z, z12z, z13z, z14z, z15z, z16z, z17z, z18z, z19z, z20z, z21z, z22z, z23z, z24z, z25z, z26z, z27z, z28z, z29z, z30z, z31z, z32z, z33z, z34z, z35z, z36z, z37z, z38z, z39z, z40z, z41z, z42z, z43z, z44z, z45z, z46z, z47z, z48z, z49z, z50z, z51z, z52z, z53z, z54z, z55z, z56z, z57z, z58z, z59z, z60z, z61z, z62z, z63z, z64z, z65z, z66z, z67z, z68z, z69z, z70z, z71z, z72z, z73z, z74z, z75z, z76z, z77z, z78z, z79z, z80z, z81z, z82z, z83z, z84z, z85z, z86z, z87z, z88z, z89z, z90z, z91z, z92z, z93z, z94z, z95z, z96z, z97z, z98z, z99z, z100z, z101z, z102z, z103z, z104z, z105z, z106z, z107z, z108z, z109z, z110z, z111z, z112z, z113z, z114z, z115z, z116z, z117z, z118z, z119z, z120z, z121z, z122z, z123z, z124z, z125z, z126z, z127z, z128z, z129z, z130z, z131z, z132z, z133z, z134z, z135z, z136z, z137z, z138z, z139z, z140z, z141z, z142z, z143z, z144z, z145z, z146z, z147z, z148z, z149z, z150z, z151z, z152z, z153z, z154z, z155z, z156z, z157z, z158z, z159z, z160z, z161z, z162z, z163z, z164z, z165z, z166z, z167z, z168z, z169z, z170z, z171z, z172z, z173z, z174z, z175z, z176z, z177z, z178z, z179z, z180z, z181z, z182z, z183z, z184z, z185z, z186z, z187z, z188z, z189z, z190z, z191z, z192z, z193z, z194z, z195z, z196z, z197z, z198z, z199z, z200z, z201z, z202z, z203z, z204z, z205z, z206z, z207z, z208z, z209z, z210z, z211z, z212z, z213z, z214z, z215z], []⟩ wr := by
  have q0 : (Z i 0 == 0) = false := by simp [hop]
  have q1 : (Z i 0 == 1) = false := by simp [hop]
  have q2 : (Z i 0 == 2) = false := by simp [hop]
  have q3 : (Z i 0 == 3) = false := by simp [hop]
  have q4 : (Z i 0 == 4) = false := by simp [hop]
  clear hop
  have hc : ∀ i, i < n1 → ∀ j, j < 9 → wr.cell? ⟨b1, off1 + i * 9 + j, none⟩ = some (.int .i64 (Z i j)) := fun i hi j hj => keep_cell HPK.out.bel (HA.out i hi j hj)
  have i0 : (0 : Int) ≤ i := by omega
  have i1 : (i : Int) < n1 := by omega
  have y0 : wr.cell? ⟨b1, off1 + i * 9, none⟩ = some (.int .i64 (Z i 0)) := hc i hin 0 (by omega)
  have y1 : wr.cell? ⟨b1, off1 + i * 9 + 1, none⟩ = some (.int .i64 (Z i 1)) := hc i hin 1 (by omega)
  have y2 : wr.cell? ⟨b1, off1 + i * 9 + 2, none⟩ = some (.int .i64 (Z i 2)) := hc i hin 2 (by omega)
  have y3 : wr.cell? ⟨b1, off1 + i * 9 + 3, none⟩ = some (.int .i64 (Z i 3)) := hc i hin 3 (by omega)
  have y4 : wr.cell? ⟨b1, off1 + i * 9 + 4, none⟩ = some (.int .i64 (Z i 4)) := hc i hin 4 (by omega)
  have y5 : wr.cell? ⟨b1, off1 + i * 9 + 5, none⟩ = some (.int .i64 (Z i 5)) := hc i hin 5 (by omega)
  have y6 : wr.cell? ⟨b1, off1 + i * 9 + 6, none⟩ = some (.int .i64 (Z i 6)) := hc i hin 6 (by omega)
  have y7 : wr.cell? ⟨b1, off1 + i * 9 + 7, none⟩ = some (.int .i64 (Z i 7)) := hc i hin 7 (by omega)
  have y8 : wr.cell? ⟨b1, off1 + i * 9 + 8, none⟩ = some (.int .i64 (Z i 8)) := hc i hin 8 (by omega)
  have HPL : Hid (N.ptrs.length < 100000) := by have := HPT0.out; show _ < _; omega
  have HYb : Hid (PY w (wr.alloc (.cells #[.int .i64 (Z i 0), .int .i64 (Z i 1), .int .i64 (Z i 2), .int .i64 (Z i 3), .int .i64 (Z i 4), .int .i64 (Z i 5), .int .i64 (Z i 6), .int .i64 (Z i 7), .int .i64 (Z i 8)] 34)) pm pr pc ph wr.heap.size (Z i) M N C C) := by
    refine HPK.out.box ((Below.refl _ _).alloc (Nat.le_refl _) _) (Nat.le_refl _) (fun j hj => ?_)
    match j, hj with
    | 0, _ => go_simp
    | 1, _ => go_simp
    | 2, _ => go_simp
    | 3, _ => go_simp
    | 4, _ => go_simp
    | 5, _ => go_simp
    | 6, _ => go_simp
    | 7, _ => go_simp
    | 8, _ => go_simp
  clear hc HPK HA
  conv => arg 2; whnf
  go_upto_if 46 with fail
  go_cut [7, 8] from 34 to 201 (fun s7 s8 w' => ∃ (pc ph : Nat) (C : List AB), s7 = .pointer (some ⟨pc, 0, none⟩) ∧ s8 = .pointer (some ⟨ph, 0, none⟩) ∧ Hid (PY w w' pm pr pc ph wr.heap.size (Z i) M N C C))
  case first =>
    by_cases hcu : (i : Int) = cut
    · have qc : ((i : Int) == cut) = true := by simpa using hcu
      clear hcu
      go_wp2_with fail
      refine (py_copy1 HYb.out).mono ?_
      rintro e w6 ⟨P1, rfl, hz⟩
      have HY6 : Hid (PY w w6 pm pr P1 ph wr.heap.size (Z i) M N M C) := hz
      clear hz HYb
      go_wp2_with fail
      refine (py_copy2 HY6.out).mono ?_
      rintro e w7 ⟨P2, rfl, hz⟩
      have HY7 : Hid (PY w w7 pm pr P1 P2 wr.heap.size (Z i) M N M M) := hz
      clear hz HY6
      go_wp2
      go_meet
      case rel => exact ⟨P1, P2, M, rfl, rfl, HY7⟩
    · have qc : ((i : Int) == cut) = false := by simpa using hcu
      clear hcu
      go_wp2
      go_meet
      case rel => exact ⟨pc, ph, C, rfl, rfl, HYb⟩
  case rest =>
    clear HYb
    obtain ⟨pc, ph, C, rfl, rfl, HYs⟩ := hcut
    obtain ⟨BX, hBX⟩ : ∃ BX, BX = wr.heap.size := ⟨_, rfl⟩
    rw [← hBX] at HYs ⊢
    clear hBX
    have x0 := HYs.out.cell (j := 0) (by omega)
    have HPT : Hid (N.ptrs.length ≤ i + 1) := by have := HPT0.out; show _ ≤ _; omega
    have x1 := HYs.out.cell (j := 1) (by omega)
    by_cases hi0 : isN N (Z i 1) = true
    · obtain ⟨kk, rb, hkk, hrb, hfr⟩ := isN_true hi0
      have hsz : sizeM M (Z i 1) = (((rb.bytes.length : Nat) : Int), true) := by
        rw [rel_size HREL.out, if_pos hi0]
        unfold lenN
        rw [show (Z i 1 - 1).toNat = kk by omega, hrb]
      have HI : Hid (isN N (Z i 1) = true) := hi0
      have HS : Hid (sizeM M (Z i 1) = (((rb.bytes.length : Nat) : Int), true)) := hsz
      have HRB : Hid (N.L[kk]? = some rb) := hrb
      have hkl : kk < N.L.length := lt_of_get hrb
      have hNl := HYs.out.len
      have hw1 : IntKind.i64.wrap (Z i 1 - 1) = (kk : Int) := by rw [i64w]; unfold wrap64; omega
      have kk0 : (0 : Int) ≤ kk := by omega
      have kkn : ((kk : Int)).toNat = kk := by omega
      have kkl : (kk : Int) < (N.L.length : Int) := by omega
      clear hi0 hsz hrb hfr hkk hkl hNl
      obtain ⟨ln, hln⟩ : ∃ ln, rb.bytes.length = ln := ⟨_, rfl⟩
      rw [hln] at HS
      have HLN0 : Hid (rb.bytes.length = ln) := hln
      clear hln
      go_wp2_with fail
      refine (py_size HYs.out (Z i 1) HS.out).mono ?_
      rintro e w2 ⟨rfl, hz, hb2⟩
      replace x1 := hz.cell (j := 1) (by omega)
      have HY2 : Hid (PY w w2 pm pr pc ph BX (Z i) M N C C) := hz
      clear hz hb2 HYs
      go_wp2_with fail
      refine (ry_is HY2.out (Z i 1) HI.out).mono ?_
      rintro e w3 ⟨rfl, hz, hb3⟩
      replace x1 := hz.cell (j := 1) (by omega)
      obtain ⟨g, rcp, bb, e0, e1⟩ := hz.row HRB.out
      rw [HLN0.out] at e1
      have HY4 : Hid (PY w w3.drew pm pr pc ph BX (Z i) M N C C) := hz.below (Below.drew (Below.refl _ _))
      clear hz hb3 HY2
      go_wp2_with fail
      refine wp_region_held_drew (S := (fun w' => w'.cell? ⟨pr, 0, none⟩ = some (.slice (some ⟨g, 0, none⟩) N.L.length rcp) ∧ w'.cell? ⟨g, kk * 2, none⟩ = some (.slice (some ⟨bb, 0, none⟩) ln ln) ∧ w'.cell? ⟨BX, 1, none⟩ = some (.int .i64 (Z i 1)))) (by kernel_rfl) (⟨e0, e1, x1⟩) (fun hHeld => ?_)
      refine wpAnyH_take (i := 0) (oi := ?oia0) (v := ?vva0) ?hia0 (by kernel_rfl) (by kernel_rfl) (by kernel_rfl) ?hqa0 ?hya0 hHeld ?_
      case hia0 => simp only [List.getElem?_toArray, List.getElem?_cons_succ, List.getElem?_cons_zero]; rfl
      case hqa0 => exact fun _ _ _ h => hQ0 _ _ _ _ _ h
      case hya0 => (refine Or.inl ⟨by rfl, ?_⟩; intro w' hSw; (try dsimp only at hSw); go_simp; (try (with_reducible rfl)))
      simp only [Act.put, List.setIfInBounds_toArray, List.set_cons_zero, List.set_cons_succ]
      refine wpAnyH_take (i := 1) (oi := ?oia1) (v := ?vva1) ?hia1 (by kernel_rfl) (by kernel_rfl) (by kernel_rfl) ?hqa1 ?hya1 hHeld ?_
      case hia1 => simp only [List.getElem?_toArray, List.getElem?_cons_succ, List.getElem?_cons_zero]; rfl
      case hqa1 => exact fun _ _ _ h => hQ0 _ _ _ _ _ h
      case hya1 => (refine Or.inl ⟨by rfl, ?_⟩; intro w' hSw; (try dsimp only at hSw); go_simp; (try (with_reducible rfl)))
      simp only [Act.put, List.setIfInBounds_toArray, List.set_cons_zero, List.set_cons_succ]
      refine wpAnyH_take (i := 2) (oi := ?oia2) (v := ?vva2) ?hia2 (by kernel_rfl) (by kernel_rfl) (by kernel_rfl) ?hqa2 ?hya2 hHeld ?_
      case hia2 => simp only [List.getElem?_toArray, List.getElem?_cons_succ, List.getElem?_cons_zero]; rfl
      case hqa2 => exact fun _ _ _ h => hQ0 _ _ _ _ _ h
      case hya2 => (refine Or.inl ⟨by rfl, ?_⟩; intro w' hSw; (try dsimp only at hSw); go_simp; (try (with_reducible rfl)))
      simp only [Act.put, List.setIfInBounds_toArray, List.set_cons_zero, List.set_cons_succ]
      refine wpAnyH_take (i := 3) (oi := ?oia3) (v := ?vva3) ?hia3 (by kernel_rfl) (by kernel_rfl) (by kernel_rfl) ?hqa3 ?hya3 hHeld ?_
      case hia3 => simp only [List.getElem?_toArray, List.getElem?_cons_succ, List.getElem?_cons_zero]; rfl
      case hqa3 => exact fun _ _ _ h => hQ0 _ _ _ _ _ h
      case hya3 => (refine Or.inl ⟨by rfl, ?_⟩; intro w' hSw; (try dsimp only at hSw); go_simp; (try (with_reducible rfl)))
      simp only [Act.put, List.setIfInBounds_toArray, List.set_cons_zero, List.set_cons_succ]
      refine wpAnyH_take (i := 4) (oi := ?oia4) (v := ?vva4) ?hia4 (by kernel_rfl) (by kernel_rfl) (by kernel_rfl) ?hqa4 ?hya4 hHeld ?_
      case hia4 => simp only [List.getElem?_toArray, List.getElem?_cons_succ, List.getElem?_cons_zero]; rfl
      case hqa4 => exact fun _ _ _ h => hQ0 _ _ _ _ _ h
      case hya4 => (refine Or.inl ⟨by rfl, ?_⟩; intro w' hSw; (try dsimp only at hSw); go_simp; (try (with_reducible rfl)))
      simp only [Act.put, List.setIfInBounds_toArray, List.set_cons_zero, List.set_cons_succ]
      refine wpAnyH_take (i := 5) (oi := ?oia5) (v := ?vva5) ?hia5 (by kernel_rfl) (by kernel_rfl) (by kernel_rfl) ?hqa5 ?hya5 hHeld ?_
      case hia5 => simp only [List.getElem?_toArray, List.getElem?_cons_succ, List.getElem?_cons_zero]; rfl
      case hqa5 => exact fun _ _ _ h => hQ0 _ _ _ _ _ h
      case hya5 => (refine Or.inl ⟨by rfl, ?_⟩; intro w' hSw; (try dsimp only at hSw); go_simp; (try (with_reducible rfl)))
      simp only [Act.put, List.setIfInBounds_toArray, List.set_cons_zero, List.set_cons_succ]
      refine wpAnyH_take (i := 6) (oi := ?oia6) (v := ?vva6) ?hia6 (by kernel_rfl) (by kernel_rfl) (by kernel_rfl) ?hqa6 ?hya6 hHeld ?_
      case hia6 => simp only [List.getElem?_toArray, List.getElem?_cons_succ, List.getElem?_cons_zero]; rfl
      case hqa6 => exact fun _ _ _ h => hQ0 _ _ _ _ _ h
      case hya6 => (refine Or.inl ⟨by rfl, ?_⟩; intro w' hSw; (try dsimp only at hSw); go_simp; (try (with_reducible rfl)))
      simp only [Act.put, List.setIfInBounds_toArray, List.set_cons_zero, List.set_cons_succ]
      refine wpAnyH_take (i := 7) (oi := ?oia7) (v := ?vva7) ?hia7 (by kernel_rfl) (by kernel_rfl) (by kernel_rfl) ?hqa7 ?hya7 hHeld ?_
      case hia7 => simp only [List.getElem?_toArray, List.getElem?_cons_succ, List.getElem?_cons_zero]; rfl
      case hqa7 => exact fun _ _ _ h => hQ0 _ _ _ _ _ h
      case hya7 => (refine Or.inl ⟨by rfl, ?_⟩; intro w' hSw; (try dsimp only at hSw); go_simp; (try (with_reducible rfl)))
      simp only [Act.put, List.setIfInBounds_toArray, List.set_cons_zero, List.set_cons_succ]
      refine wpAnyH_take (i := 8) (oi := ?oia8) (v := ?vva8) ?hia8 (by kernel_rfl) (by kernel_rfl) (by kernel_rfl) ?hqa8 ?hya8 hHeld ?_
      case hia8 => simp only [List.getElem?_toArray, List.getElem?_cons_succ, List.getElem?_cons_zero]; rfl
      case hqa8 => exact fun _ _ _ h => hQ0 _ _ _ _ _ h
      case hya8 => (refine Or.inl ⟨by rfl, ?_⟩; intro w' hSw; (try dsimp only at hSw); go_simp; (try (with_reducible rfl)))
      simp only [Act.put, List.setIfInBounds_toArray, List.set_cons_zero, List.set_cons_succ]
      refine wpAnyH_take (i := 9) (oi := ?oia9) (v := ?vva9) ?hia9 (by kernel_rfl) (by kernel_rfl) (by kernel_rfl) ?hqa9 ?hya9 hHeld ?_
      case hia9 => simp only [List.getElem?_toArray, List.getElem?_cons_succ, List.getElem?_cons_zero]; rfl
      case hqa9 => exact fun _ _ _ h => hQ0 _ _ _ _ _ h
      case hya9 => (refine Or.inl ⟨by rfl, ?_⟩; intro w' hSw; (try dsimp only at hSw); go_simp; (try (with_reducible rfl)))
      simp only [Act.put, List.setIfInBounds_toArray, List.set_cons_zero, List.set_cons_succ]
      refine wpAnyH_take (i := 10) (oi := ?oia10) (v := ?vva10) ?hia10 (by kernel_rfl) (by kernel_rfl) (by kernel_rfl) ?hqa10 ?hya10 hHeld ?_
      case hia10 => simp only [List.getElem?_toArray, List.getElem?_cons_succ, List.getElem?_cons_zero]; rfl
      case hqa10 => exact fun _ _ _ h => hQ0 _ _ _ _ _ h
      case hya10 => (refine Or.inl ⟨by rfl, ?_⟩; intro w' hSw; (try dsimp only at hSw); go_simp; (try (with_reducible rfl)))
      simp only [Act.put, List.setIfInBounds_toArray, List.set_cons_zero, List.set_cons_succ]
      refine wpAnyH_take (i := 11) (oi := ?oia11) (v := ?vva11) ?hia11 (by kernel_rfl) (by kernel_rfl) (by kernel_rfl) ?hqa11 ?hya11 hHeld ?_
      case hia11 => simp only [List.getElem?_toArray, List.getElem?_cons_succ, List.getElem?_cons_zero]; rfl
      case hqa11 => exact fun _ _ _ h => hQ0 _ _ _ _ _ h
      case hya11 => (refine Or.inl ⟨by rfl, ?_⟩; intro w' hSw; (try dsimp only at hSw); go_simp; (try (with_reducible rfl)))
      simp only [Act.put, List.setIfInBounds_toArray, List.set_cons_zero, List.set_cons_succ]
      refine wpAnyH_done (by kernel_rfl) ?_ _
      clear hHeld e0 e1 hw1 HRB
      go_wp2_with fail
      refine (ry_is HY4.out (Z i 1) HI.out).mono ?_
      rintro e w5 ⟨rfl, hz, hb5⟩
      have HYt : Hid (PY w w5 pm pr pc ph BX (Z i) M N C C) := hz
      clear hz hb5 HY4 HI HS x1
      obtain ⟨ra, rc, hra⟩ := HYt.out.rows
      obtain ⟨nl, hnl⟩ : ∃ nl, live M = nl := ⟨_, rfl⟩
      have HLV : Hid (live M = nl) := hnl
      have HLN : Hid (liveN N.L = nl) := (rel_live HREL.out).symm.trans hnl
      have HLEN : Hid (M.length = N.L.length) := HREL.out.len
      clear hnl
      go_wp2_with fail
      refine wp_region_held_drew (S := (fun w' => w'.cell? ⟨pr, 0, none⟩ = some (.slice ra N.L.length rc))) (by kernel_rfl) (hra) (fun hHeld => ?_)
      refine wpAnyH_take (i := 0) (oi := ?oiB1x1x0) (v := ?vvB1x1x0) ?hiB1x1x0 (by kernel_rfl) (by kernel_rfl) (by kernel_rfl) ?hqB1x1x0 ?hyB1x1x0 hHeld ?_
      case hiB1x1x0 => simp only [List.getElem?_toArray, List.getElem?_cons_succ, List.getElem?_cons_zero]; rfl
      case hqB1x1x0 => exact fun _ _ _ h => hQ0 _ _ _ _ _ h
      case hyB1x1x0 => (refine Or.inl ⟨by rfl, ?_⟩; intro w' hSw; (try dsimp only at hSw); go_simp; (try (with_reducible rfl)))
      simp only [Act.put, List.setIfInBounds_toArray, List.set_cons_zero, List.set_cons_succ]
      refine wpAnyH_take (i := 2) (oi := ?oiB1x2x2) (v := ?vvB1x2x2) ?hiB1x2x2 (by kernel_rfl) (by kernel_rfl) (by kernel_rfl) ?hqB1x2x2 ?hyB1x2x2 hHeld ?_
      case hiB1x2x2 => simp only [List.getElem?_toArray, List.getElem?_cons_succ, List.getElem?_cons_zero]; rfl
      case hqB1x2x2 => exact fun _ _ _ h => hQ0 _ _ _ _ _ h
      case hyB1x2x2 => (refine Or.inl ⟨by rfl, ?_⟩; intro w' hSw; (try dsimp only at hSw); go_simp; (try (with_reducible rfl)))
      simp only [Act.put, List.setIfInBounds_toArray, List.set_cons_zero, List.set_cons_succ]
      refine wpAnyH_take (i := 3) (oi := ?oiB1x3x3) (v := ?vvB1x3x3) ?hiB1x3x3 (by kernel_rfl) (by kernel_rfl) (by kernel_rfl) ?hqB1x3x3 ?hyB1x3x3 hHeld ?_
      case hiB1x3x3 => simp only [List.getElem?_toArray, List.getElem?_cons_succ, List.getElem?_cons_zero]; rfl
      case hqB1x3x3 => exact fun _ _ _ h => hQ0 _ _ _ _ _ h
      case hyB1x3x3 => (refine Or.inl ⟨by rfl, ?_⟩; intro w' hSw; (try dsimp only at hSw); go_simp; (try (with_reducible rfl)))
      simp only [Act.put, List.setIfInBounds_toArray, List.set_cons_zero, List.set_cons_succ]
      refine wpAnyH_take (i := 4) (oi := ?oiB1x4x4) (v := ?vvB1x4x4) ?hiB1x4x4 (by kernel_rfl) (by kernel_rfl) (by kernel_rfl) ?hqB1x4x4 ?hyB1x4x4 hHeld ?_
      case hiB1x4x4 => simp only [List.getElem?_toArray, List.getElem?_cons_succ, List.getElem?_cons_zero]; rfl
      case hqB1x4x4 => exact fun _ _ _ h => hQ0 _ _ _ _ _ h
      case hyB1x4x4 => (refine Or.inl ⟨by rfl, ?_⟩; intro w' hSw; (try dsimp only at hSw); go_simp; (try (with_reducible rfl)))
      simp only [Act.put, List.setIfInBounds_toArray, List.set_cons_zero, List.set_cons_succ]
      refine wpAnyH_take (i := 5) (oi := ?oiB1x5x5) (v := ?vvB1x5x5) ?hiB1x5x5 (by kernel_rfl) (by kernel_rfl) (by kernel_rfl) ?hqB1x5x5 ?hyB1x5x5 hHeld ?_
      case hiB1x5x5 => simp only [List.getElem?_toArray, List.getElem?_cons_succ, List.getElem?_cons_zero]; rfl
      case hqB1x5x5 => exact fun _ _ _ h => hQ0 _ _ _ _ _ h
      case hyB1x5x5 => (refine Or.inl ⟨by rfl, ?_⟩; intro w' hSw; (try dsimp only at hSw); go_simp; (try (with_reducible rfl)))
      simp only [Act.put, List.setIfInBounds_toArray, List.set_cons_zero, List.set_cons_succ]
      refine wpAnyH_take (i := 6) (oi := ?oiB1x6x6) (v := ?vvB1x6x6) ?hiB1x6x6 (by kernel_rfl) (by kernel_rfl) (by kernel_rfl) ?hqB1x6x6 ?hyB1x6x6 hHeld ?_
      case hiB1x6x6 => simp only [List.getElem?_toArray, List.getElem?_cons_succ, List.getElem?_cons_zero]; rfl
      case hqB1x6x6 => exact fun _ _ _ h => hQ0 _ _ _ _ _ h
      case hyB1x6x6 => (refine Or.inl ⟨by rfl, ?_⟩; intro w' hSw; (try dsimp only at hSw); go_simp; (try (with_reducible rfl)))
      simp only [Act.put, List.setIfInBounds_toArray, List.set_cons_zero, List.set_cons_succ]
      refine wpAnyH_ready (rs := [1]) (by kernel_rfl) (by simp) ?_
      refine (AllReadyH.cons (o := ?oiB1x7x1) ?hiB1x7x1 (fun K hK => ?gB1x7x1) AllReadyH.nil)
      case hiB1x7x1 => simp only [List.getElem?_toArray, List.getElem?_cons_succ, List.getElem?_cons_zero]; rfl
      case gB1x7x1 =>
        go_simp
        refine (py_blocks (PY.below HYt.out (Below.drew (Below.refl _ _))) (n := N.L.length) HLEN.out).mono ?_
        rintro e v1 ⟨rfl, hz1, hb1⟩
        have hh1 : Hid (PY w v1 pm pr pc ph BX (Z i) M N C C) := hz1
        clear hz1
        go_wp2_with fail
        refine hK.out _ _ (keep_cell hb1 hHeld) (fun hN => ?_)
        clear hK K hHeld
        have hHeld := hN
        clear hN
        try simp only [Act.put, List.setIfInBounds_toArray, List.set_cons_zero, List.set_cons_succ]
        refine wpAnyH_take (i := 7) (oi := ?oiB1x8x7) (v := ?vvB1x8x7) ?hiB1x8x7 (by kernel_rfl) (by kernel_rfl) (by kernel_rfl) ?hqB1x8x7 ?hyB1x8x7 hHeld ?_
        case hiB1x8x7 => simp only [List.getElem?_toArray, List.getElem?_cons_succ, List.getElem?_cons_zero]; rfl
        case hqB1x8x7 => exact fun _ _ _ h => hQ0 _ _ _ _ _ h
        case hyB1x8x7 => (refine Or.inl ⟨by rfl, ?_⟩; intro w' hSw; (try dsimp only at hSw); go_simp; (try (with_reducible rfl)))
        simp only [Act.put, List.setIfInBounds_toArray, List.set_cons_zero, List.set_cons_succ]
        refine wpAnyH_take (i := 8) (oi := ?oiB1x9x8) (v := ?vvB1x9x8) ?hiB1x9x8 (by kernel_rfl) (by kernel_rfl) (by kernel_rfl) ?hqB1x9x8 ?hyB1x9x8 hHeld ?_
        case hiB1x9x8 => simp only [List.getElem?_toArray, List.getElem?_cons_succ, List.getElem?_cons_zero]; rfl
        case hqB1x9x8 => exact fun _ _ _ h => hQ0 _ _ _ _ _ h
        case hyB1x9x8 => (refine Or.inl ⟨by rfl, ?_⟩; intro w' hSw; (try dsimp only at hSw); go_simp; (try (with_reducible rfl)))
        simp only [Act.put, List.setIfInBounds_toArray, List.set_cons_zero, List.set_cons_succ]
        refine wpAnyH_take (i := 9) (oi := ?oiB1x10x9) (v := ?vvB1x10x9) ?hiB1x10x9 (by kernel_rfl) (by kernel_rfl) (by kernel_rfl) ?hqB1x10x9 ?hyB1x10x9 hHeld ?_
        case hiB1x10x9 => simp only [List.getElem?_toArray, List.getElem?_cons_succ, List.getElem?_cons_zero]; rfl
        case hqB1x10x9 => exact fun _ _ _ h => hQ0 _ _ _ _ _ h
        case hyB1x10x9 => (refine Or.inl ⟨by rfl, ?_⟩; intro w' hSw; (try dsimp only at hSw); go_simp; (try (with_reducible rfl)))
        simp only [Act.put, List.setIfInBounds_toArray, List.set_cons_zero, List.set_cons_succ]
        refine wpAnyH_take (i := 11) (oi := ?oiB1x11x11) (v := ?vvB1x11x11) ?hiB1x11x11 (by kernel_rfl) (by kernel_rfl) (by kernel_rfl) ?hqB1x11x11 ?hyB1x11x11 hHeld ?_
        case hiB1x11x11 => simp only [List.getElem?_toArray, List.getElem?_cons_succ, List.getElem?_cons_zero]; rfl
        case hqB1x11x11 => exact fun _ _ _ h => hQ0 _ _ _ _ _ h
        case hyB1x11x11 => (refine Or.inl ⟨by rfl, ?_⟩; intro w' hSw; (try dsimp only at hSw); go_simp; (try (with_reducible rfl)))
        simp only [Act.put, List.setIfInBounds_toArray, List.set_cons_zero, List.set_cons_succ]
        refine wpAnyH_ready (rs := [10]) (by kernel_rfl) (by simp) ?_
        refine (AllReadyH.cons (o := ?oiB1x12x10) ?hiB1x12x10 (fun K hK => ?gB1x12x10) AllReadyH.nil)
        case hiB1x12x10 => simp only [List.getElem?_toArray, List.getElem?_cons_succ, List.getElem?_cons_zero]; rfl
        case gB1x12x10 =>
          go_simp
          refine (py_live hh1.out (n := nl) HLV.out).mono ?_
          rintro e v10 ⟨rfl, hz10, hb10⟩
          have hh10 : Hid (PY w v10 pm pr pc ph BX (Z i) M N C C) := hz10
          clear hz10
          go_wp2_with fail
          refine hK.out _ _ (keep_cell hb10 hHeld) (fun hN => ?_)
          clear hK K hHeld
          have hHeld := hN
          clear hN
          try simp only [Act.put, List.setIfInBounds_toArray, List.set_cons_zero, List.set_cons_succ]
          refine wpAnyH_ready (rs := [12]) (by kernel_rfl) (by simp) ?_
          refine (AllReadyH.cons (o := ?oiB1x13x12) ?hiB1x13x12 (fun K hK => ?gB1x13x12) AllReadyH.nil)
          case hiB1x13x12 => simp only [List.getElem?_toArray, List.getElem?_cons_succ, List.getElem?_cons_zero]; rfl
          case gB1x13x12 =>
            go_simp
            refine (ry_live hh10.out (n := nl) HLN.out).mono ?_
            rintro e v12 ⟨rfl, hz12, hb12⟩
            have hh12 : Hid (PY w v12 pm pr pc ph BX (Z i) M N C C) := hz12
            clear hz12
            go_wp2_with fail
            refine hK.out _ _ (keep_cell hb12 hHeld) (fun hN => ?_)
            clear hK K hHeld
            have hHeld := hN
            clear hN
            try simp only [Act.put, List.setIfInBounds_toArray, List.set_cons_zero, List.set_cons_succ]
            refine wpAnyH_take (i := 13) (oi := ?oiB1x14x13) (v := ?vvB1x14x13) ?hiB1x14x13 (by kernel_rfl) (by kernel_rfl) (by kernel_rfl) ?hqB1x14x13 ?hyB1x14x13 hHeld ?_
            case hiB1x14x13 => simp only [List.getElem?_toArray, List.getElem?_cons_succ, List.getElem?_cons_zero]; rfl
            case hqB1x14x13 => exact fun _ _ _ h => hQ0 _ _ _ _ _ h
            case hyB1x14x13 => (refine Or.inl ⟨by rfl, ?_⟩; intro w' hSw; (try dsimp only at hSw); go_simp; (try (with_reducible rfl)))
            simp only [Act.put, List.setIfInBounds_toArray, List.set_cons_zero, List.set_cons_succ]
            refine wpAnyH_take (i := 14) (oi := ?oiB1x15x14) (v := ?vvB1x15x14) ?hiB1x15x14 (by kernel_rfl) (by kernel_rfl) (by kernel_rfl) ?hqB1x15x14 ?hyB1x15x14 hHeld ?_
            case hiB1x15x14 => simp only [List.getElem?_toArray, List.getElem?_cons_succ, List.getElem?_cons_zero]; rfl
            case hqB1x15x14 => exact fun _ _ _ h => hQ0 _ _ _ _ _ h
            case hyB1x15x14 => (refine Or.inl ⟨by rfl, ?_⟩; intro w' hSw; (try dsimp only at hSw); go_simp; (try (with_reducible rfl)))
            simp only [Act.put, List.setIfInBounds_toArray, List.set_cons_zero, List.set_cons_succ]
            refine wpAnyH_done (by kernel_rfl) ?_ _
            have HPn : Hid (PK w v12 pm pr pc ph M N C C) := hh12.out.pk
            clear hHeld hb1 hb10 hb12 hh1 hh10 hh12
            go_wp2
            refine ⟨?_, ?_⟩
            · unfold PlI
              refine ⟨_, _, _, _, _, _, _, _, _, _, _, _, _, _, _, _, _, _, _, _, _, _, _, _, _, _, _, _, _, _, _, _, _, _, _, _, _, _, _, _, _, _, _, _, _, _, _, _, _, _, _, _, _, _, _, _, _, _, _, _, _, _, _, _, _, _, _, _, _, _, _, _, _, _, _, _, _, _, _, _, _, _, _, _, _, _, _, _, _, _, _, _, _, _, _, _, _, _, _, _, _, _, _, _, _, _, _, _, _, _, _, _, _, _, _, _, _, _, _, _, _, _, _, _, _, _, _, _, _, _, _, _, _, _, _, _, _, _, _, _, _, _, _, _, _, _, _, _, _, _, _, _, _, _, _, _, _, _, _, _, _, _, _, _, _, _, _, _, _, _, _, _, _, _, _, _, _, _, _, _, _, _, _, _, ?_, rfl⟩
              exact ⟨i + 1, pc, ph, M, N, C, by omega, rfl, rfl, by simp, HPn, HREL, HPT⟩
            · unfold PlMu
              show n1 - (intOf (Value.int .i64 ((i : Int) + 1))).toNat < n1 - (intOf (Value.int .i64 i)).toNat
              simp [intOf]
              omega
    · have hi1 : isN N (Z i 1) = false := by simpa using hi0
      have HI : Hid (isN N (Z i 1) = false) := hi1
      have HS : Hid (sizeM M (Z i 1) = (0, false)) := by have h := rel_size HREL.out (Z i 1); rw [if_neg hi0] at h; exact h
      clear hi0 hi1
      go_wp2_with fail
      refine (py_size HYs.out (Z i 1) HS.out).mono ?_
      rintro e w2 ⟨rfl, hz, hb2⟩
      replace x1 := hz.cell (j := 1) (by omega)
      have HY2 : Hid (PY w w2 pm pr pc ph BX (Z i) M N C C) := hz
      clear hz hb2 HYs
      go_wp2_with fail
      refine (ry_is HY2.out (Z i 1) HI.out).mono ?_
      rintro e w3 ⟨rfl, hz, hb3⟩
      replace x1 := hz.cell (j := 1) (by omega)
      have HY4 : Hid (PY w w3 pm pr pc ph BX (Z i) M N C C) := hz
      clear hz hb3 HY2
      go_wp2_with fail
      refine (ry_is HY4.out (Z i 1) HI.out).mono ?_
      rintro e w5 ⟨rfl, hz, hb5⟩
      have HYt : Hid (PY w w5 pm pr pc ph BX (Z i) M N C C) := hz
      clear hz hb5 HY4 HI HS x1
      obtain ⟨ra, rc, hra⟩ := HYt.out.rows
      obtain ⟨nl, hnl⟩ : ∃ nl, live M = nl := ⟨_, rfl⟩
      have HLV : Hid (live M = nl) := hnl
      have HLN : Hid (liveN N.L = nl) := (rel_live HREL.out).symm.trans hnl
      have HLEN : Hid (M.length = N.L.length) := HREL.out.len
      clear hnl
      go_wp2_with fail
      refine wp_region_held_drew (S := (fun w' => w'.cell? ⟨pr, 0, none⟩ = some (.slice ra N.L.length rc))) (by kernel_rfl) (hra) (fun hHeld => ?_)
      refine wpAnyH_take (i := 0) (oi := ?oiB2x1x0) (v := ?vvB2x1x0) ?hiB2x1x0 (by kernel_rfl) (by kernel_rfl) (by kernel_rfl) ?hqB2x1x0 ?hyB2x1x0 hHeld ?_
      case hiB2x1x0 => simp only [List.getElem?_toArray, List.getElem?_cons_succ, List.getElem?_cons_zero]; rfl
      case hqB2x1x0 => exact fun _ _ _ h => hQ0 _ _ _ _ _ h
      case hyB2x1x0 => (refine Or.inl ⟨by rfl, ?_⟩; intro w' hSw; (try dsimp only at hSw); go_simp; (try (with_reducible rfl)))
      simp only [Act.put, List.setIfInBounds_toArray, List.set_cons_zero, List.set_cons_succ]
      refine wpAnyH_take (i := 2) (oi := ?oiB2x2x2) (v := ?vvB2x2x2) ?hiB2x2x2 (by kernel_rfl) (by kernel_rfl) (by kernel_rfl) ?hqB2x2x2 ?hyB2x2x2 hHeld ?_
      case hiB2x2x2 => simp only [List.getElem?_toArray, List.getElem?_cons_succ, List.getElem?_cons_zero]; rfl
      case hqB2x2x2 => exact fun _ _ _ h => hQ0 _ _ _ _ _ h
      case hyB2x2x2 => (refine Or.inl ⟨by rfl, ?_⟩; intro w' hSw; (try dsimp only at hSw); go_simp; (try (with_reducible rfl)))
      simp only [Act.put, List.setIfInBounds_toArray, List.set_cons_zero, List.set_cons_succ]
      refine wpAnyH_take (i := 3) (oi := ?oiB2x3x3) (v := ?vvB2x3x3) ?hiB2x3x3 (by kernel_rfl) (by kernel_rfl) (by kernel_rfl) ?hqB2x3x3 ?hyB2x3x3 hHeld ?_
      case hiB2x3x3 => simp only [List.getElem?_toArray, List.getElem?_cons_succ, List.getElem?_cons_zero]; rfl
      case hqB2x3x3 => exact fun _ _ _ h => hQ0 _ _ _ _ _ h
      case hyB2x3x3 => (refine Or.inl ⟨by rfl, ?_⟩; intro w' hSw; (try dsimp only at hSw); go_simp; (try (with_reducible rfl)))
      simp only [Act.put, List.setIfInBounds_toArray, List.set_cons_zero, List.set_cons_succ]
      refine wpAnyH_take (i := 4) (oi := ?oiB2x4x4) (v := ?vvB2x4x4) ?hiB2x4x4 (by kernel_rfl) (by kernel_rfl) (by kernel_rfl) ?hqB2x4x4 ?hyB2x4x4 hHeld ?_
      case hiB2x4x4 => simp only [List.getElem?_toArray, List.getElem?_cons_succ, List.getElem?_cons_zero]; rfl
      case hqB2x4x4 => exact fun _ _ _ h => hQ0 _ _ _ _ _ h
      case hyB2x4x4 => (refine Or.inl ⟨by rfl, ?_⟩; intro w' hSw; (try dsimp only at hSw); go_simp; (try (with_reducible rfl)))
      simp only [Act.put, List.setIfInBounds_toArray, List.set_cons_zero, List.set_cons_succ]
      refine wpAnyH_take (i := 5) (oi := ?oiB2x5x5) (v := ?vvB2x5x5) ?hiB2x5x5 (by kernel_rfl) (by kernel_rfl) (by kernel_rfl) ?hqB2x5x5 ?hyB2x5x5 hHeld ?_
      case hiB2x5x5 => simp only [List.getElem?_toArray, List.getElem?_cons_succ, List.getElem?_cons_zero]; rfl
      case hqB2x5x5 => exact fun _ _ _ h => hQ0 _ _ _ _ _ h
      case hyB2x5x5 => (refine Or.inl ⟨by rfl, ?_⟩; intro w' hSw; (try dsimp only at hSw); go_simp; (try (with_reducible rfl)))
      simp only [Act.put, List.setIfInBounds_toArray, List.set_cons_zero, List.set_cons_succ]
      refine wpAnyH_take (i := 6) (oi := ?oiB2x6x6) (v := ?vvB2x6x6) ?hiB2x6x6 (by kernel_rfl) (by kernel_rfl) (by kernel_rfl) ?hqB2x6x6 ?hyB2x6x6 hHeld ?_
      case hiB2x6x6 => simp only [List.getElem?_toArray, List.getElem?_cons_succ, List.getElem?_cons_zero]; rfl
      case hqB2x6x6 => exact fun _ _ _ h => hQ0 _ _ _ _ _ h
      case hyB2x6x6 => (refine Or.inl ⟨by rfl, ?_⟩; intro w' hSw; (try dsimp only at hSw); go_simp; (try (with_reducible rfl)))
      simp only [Act.put, List.setIfInBounds_toArray, List.set_cons_zero, List.set_cons_succ]
      refine wpAnyH_ready (rs := [1]) (by kernel_rfl) (by simp) ?_
      refine (AllReadyH.cons (o := ?oiB2x7x1) ?hiB2x7x1 (fun K hK => ?gB2x7x1) AllReadyH.nil)
      case hiB2x7x1 => simp only [List.getElem?_toArray, List.getElem?_cons_succ, List.getElem?_cons_zero]; rfl
      case gB2x7x1 =>
        go_simp
        refine (py_blocks (PY.below HYt.out (Below.drew (Below.refl _ _))) (n := N.L.length) HLEN.out).mono ?_
        rintro e v1 ⟨rfl, hz1, hb1⟩
        have hh1 : Hid (PY w v1 pm pr pc ph BX (Z i) M N C C) := hz1
        clear hz1
        go_wp2_with fail
        refine hK.out _ _ (keep_cell hb1 hHeld) (fun hN => ?_)
        clear hK K hHeld
        have hHeld := hN
        clear hN
        try simp only [Act.put, List.setIfInBounds_toArray, List.set_cons_zero, List.set_cons_succ]
        refine wpAnyH_take (i := 7) (oi := ?oiB2x8x7) (v := ?vvB2x8x7) ?hiB2x8x7 (by kernel_rfl) (by kernel_rfl) (by kernel_rfl) ?hqB2x8x7 ?hyB2x8x7 hHeld ?_
        case hiB2x8x7 => simp only [List.getElem?_toArray, List.getElem?_cons_succ, List.getElem?_cons_zero]; rfl
        case hqB2x8x7 => exact fun _ _ _ h => hQ0 _ _ _ _ _ h
        case hyB2x8x7 => (refine Or.inl ⟨by rfl, ?_⟩; intro w' hSw; (try dsimp only at hSw); go_simp; (try (with_reducible rfl)))
        simp only [Act.put, List.setIfInBounds_toArray, List.set_cons_zero, List.set_cons_succ]
        refine wpAnyH_take (i := 8) (oi := ?oiB2x9x8) (v := ?vvB2x9x8) ?hiB2x9x8 (by kernel_rfl) (by kernel_rfl) (by kernel_rfl) ?hqB2x9x8 ?hyB2x9x8 hHeld ?_
        case hiB2x9x8 => simp only [List.getElem?_toArray, List.getElem?_cons_succ, List.getElem?_cons_zero]; rfl
        case hqB2x9x8 => exact fun _ _ _ h => hQ0 _ _ _ _ _ h
        case hyB2x9x8 => (refine Or.inl ⟨by rfl, ?_⟩; intro w' hSw; (try dsimp only at hSw); go_simp; (try (with_reducible rfl)))
        simp only [Act.put, List.setIfInBounds_toArray, List.set_cons_zero, List.set_cons_succ]
        refine wpAnyH_take (i := 9) (oi := ?oiB2x10x9) (v := ?vvB2x10x9) ?hiB2x10x9 (by kernel_rfl) (by kernel_rfl) (by kernel_rfl) ?hqB2x10x9 ?hyB2x10x9 hHeld ?_
        case hiB2x10x9 => simp only [List.getElem?_toArray, List.getElem?_cons_succ, List.getElem?_cons_zero]; rfl
        case hqB2x10x9 => exact fun _ _ _ h => hQ0 _ _ _ _ _ h
        case hyB2x10x9 => (refine Or.inl ⟨by rfl, ?_⟩; intro w' hSw; (try dsimp only at hSw); go_simp; (try (with_reducible rfl)))
        simp only [Act.put, List.setIfInBounds_toArray, List.set_cons_zero, List.set_cons_succ]
        refine wpAnyH_take (i := 11) (oi := ?oiB2x11x11) (v := ?vvB2x11x11) ?hiB2x11x11 (by kernel_rfl) (by kernel_rfl) (by kernel_rfl) ?hqB2x11x11 ?hyB2x11x11 hHeld ?_
        case hiB2x11x11 => simp only [List.getElem?_toArray, List.getElem?_cons_succ, List.getElem?_cons_zero]; rfl
        case hqB2x11x11 => exact fun _ _ _ h => hQ0 _ _ _ _ _ h
        case hyB2x11x11 => (refine Or.inl ⟨by rfl, ?_⟩; intro w' hSw; (try dsimp only at hSw); go_simp; (try (with_reducible rfl)))
        simp only [Act.put, List.setIfInBounds_toArray, List.set_cons_zero, List.set_cons_succ]
        refine wpAnyH_ready (rs := [10]) (by kernel_rfl) (by simp) ?_
        refine (AllReadyH.cons (o := ?oiB2x12x10) ?hiB2x12x10 (fun K hK => ?gB2x12x10) AllReadyH.nil)
        case hiB2x12x10 => simp only [List.getElem?_toArray, List.getElem?_cons_succ, List.getElem?_cons_zero]; rfl
        case gB2x12x10 =>
          go_simp
          refine (py_live hh1.out (n := nl) HLV.out).mono ?_
          rintro e v10 ⟨rfl, hz10, hb10⟩
          have hh10 : Hid (PY w v10 pm pr pc ph BX (Z i) M N C C) := hz10
          clear hz10
          go_wp2_with fail
          refine hK.out _ _ (keep_cell hb10 hHeld) (fun hN => ?_)
          clear hK K hHeld
          have hHeld := hN
          clear hN
          try simp only [Act.put, List.setIfInBounds_toArray, List.set_cons_zero, List.set_cons_succ]
          refine wpAnyH_ready (rs := [12]) (by kernel_rfl) (by simp) ?_
          refine (AllReadyH.cons (o := ?oiB2x13x12) ?hiB2x13x12 (fun K hK => ?gB2x13x12) AllReadyH.nil)
          case hiB2x13x12 => simp only [List.getElem?_toArray, List.getElem?_cons_succ, List.getElem?_cons_zero]; rfl
          case gB2x13x12 =>
            go_simp
            refine (ry_live hh10.out (n := nl) HLN.out).mono ?_
            rintro e v12 ⟨rfl, hz12, hb12⟩
            have hh12 : Hid (PY w v12 pm pr pc ph BX (Z i) M N C C) := hz12
            clear hz12
            go_wp2_with fail
            refine hK.out _ _ (keep_cell hb12 hHeld) (fun hN => ?_)
            clear hK K hHeld
            have hHeld := hN
            clear hN
            try simp only [Act.put, List.setIfInBounds_toArray, List.set_cons_zero, List.set_cons_succ]
            refine wpAnyH_take (i := 13) (oi := ?oiB2x14x13) (v := ?vvB2x14x13) ?hiB2x14x13 (by kernel_rfl) (by kernel_rfl) (by kernel_rfl) ?hqB2x14x13 ?hyB2x14x13 hHeld ?_
            case hiB2x14x13 => simp only [List.getElem?_toArray, List.getElem?_cons_succ, List.getElem?_cons_zero]; rfl
            case hqB2x14x13 => exact fun _ _ _ h => hQ0 _ _ _ _ _ h
            case hyB2x14x13 => (refine Or.inl ⟨by rfl, ?_⟩; intro w' hSw; (try dsimp only at hSw); go_simp; (try (with_reducible rfl)))
            simp only [Act.put, List.setIfInBounds_toArray, List.set_cons_zero, List.set_cons_succ]
            refine wpAnyH_take (i := 14) (oi := ?oiB2x15x14) (v := ?vvB2x15x14) ?hiB2x15x14 (by kernel_rfl) (by kernel_rfl) (by kernel_rfl) ?hqB2x15x14 ?hyB2x15x14 hHeld ?_
            case hiB2x15x14 => simp only [List.getElem?_toArray, List.getElem?_cons_succ, List.getElem?_cons_zero]; rfl
            case hqB2x15x14 => exact fun _ _ _ h => hQ0 _ _ _ _ _ h
            case hyB2x15x14 => (refine Or.inl ⟨by rfl, ?_⟩; intro w' hSw; (try dsimp only at hSw); go_simp; (try (with_reducible rfl)))
            simp only [Act.put, List.setIfInBounds_toArray, List.set_cons_zero, List.set_cons_succ]
            refine wpAnyH_done (by kernel_rfl) ?_ _
            have HPn : Hid (PK w v12 pm pr pc ph M N C C) := hh12.out.pk
            clear hHeld hb1 hb10 hb12 hh1 hh10 hh12
            go_wp2
            refine ⟨?_, ?_⟩
            · unfold PlI
              refine ⟨_, _, _, _, _, _, _, _, _, _, _, _, _, _, _, _, _, _, _, _, _, _, _, _, _, _, _, _, _, _, _, _, _, _, _, _, _, _, _, _, _, _, _, _, _, _, _, _, _, _, _, _, _, _, _, _, _, _, _, _, _, _, _, _, _, _, _, _, _, _, _, _, _, _, _, _, _, _, _, _, _, _, _, _, _, _, _, _, _, _, _, _, _, _, _, _, _, _, _, _, _, _, _, _, _, _, _, _, _, _, _, _, _, _, _, _, _, _, _, _, _, _, _, _, _, _, _, _, _, _, _, _, _, _, _, _, _, _, _, _, _, _, _, _, _, _, _, _, _, _, _, _, _, _, _, _, _, _, _, _, _, _, _, _, _, _, _, _, _, _, _, _, _, _, _, _, _, _, _, _, _, _, _, _, ?_, rfl⟩
              exact ⟨i + 1, pc, ph, M, N, C, by omega, rfl, rfl, by simp, HPn, HREL, HPT⟩
            · unfold PlMu
              show n1 - (intOf (Value.int .i64 ((i : Int) + 1))).toNat < n1 - (intOf (Value.int .i64 i)).toNat
              simp [intOf]
              omega

end Go.Proofs.Ytnklpccggbkknaa
