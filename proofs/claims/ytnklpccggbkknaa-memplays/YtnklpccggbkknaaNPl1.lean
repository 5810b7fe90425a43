/- MemPlays: a round at the call 1. -/
import Derived.Test.YtnklpccggbkknaaNPlR
import Derived.Deep.DeepCutAuto
import Derived.Deep.CutRange
namespace Go.Proofs.Ytnklpccggbkknaa
open Go.ChangeShapes Go.WideShapes Go.ChangeAt Go.RowKit Go.Joins Pl
set_option linter.unusedSimpArgs false
set_option linter.unusedVariables false

set_option maxRecDepth 1000000 in
set_option maxHeartbeats 20000000 in
theorem pl_op1  (n1 c1 pm pr : Nat) (cut : Int) (w : World) (z2z z3z z22z z23z z24z z25z z26z z27z z28z z29z z30z z31z z32z z33z z202z z203z z204z z205z z206z z207z z208z z209z z210z z211z z212z z213z z214z z215z : Value) (z4z z10z z11z z12z z13z z14z z15z z16z z17z z18z z19z z20z z21z z34z z35z z36z z37z z38z z39z z40z z41z z42z z43z z44z z45z z46z z47z z48z z49z z50z z51z z52z z53z z54z z55z z56z z57z z58z z59z z60z z61z z62z z63z z64z z65z z66z z67z z68z z69z z70z z71z z72z z73z z74z z75z z76z z77z z78z z79z z80z z81z z82z z83z z84z z85z z86z z87z z88z z89z z90z z91z z92z z93z z94z z95z z96z z97z z98z z99z z100z z101z z102z z103z z104z z105z z106z z107z z108z z109z z110z z111z z112z z113z z114z z115z z116z z117z z118z z119z z120z z121z z122z z123z z124z z125z z126z z127z z128z z129z z130z z131z z132z z133z z134z z135z z136z z137z z138z z139z z140z z141z z142z z143z z144z z145z z146z z147z z148z z149z z150z z151z z152z z153z z154z z155z z156z z157z z158z z159z z160z z161z z162z z163z z164z z165z z166z z167z z168z z169z z170z z171z z172z z173z z174z z175z z176z z177z z178z z179z z180z z181z z182z z183z z184z z185z z186z z187z z188z z189z z190z z191z z192z z193z z194z z195z z196z z197z z198z z199z z200z z201z : Value) (b1 off1 : Nat) (Z : Nat → Nat → Int) (i pc ph : Nat) (M : List AB) (N : RM) (C : List AB) (wr : World) (Q0 : Exit → Act → World → Prop) (hQ0 : ∀ c (a : Act) d v x, Q0 (.panic c) (a.put d v) x → Q0 (.panic c) a x) (h1 : (n1 : Int) ≤ 80) (hin : i < n1) (HA : Hid (∀ i, i < n1 → ∀ j, j < 9 → w.cell? ⟨b1, off1 + i * 9 + j, none⟩ = some (.int .i64 (Z i j))))
    (HPK : Hid (PK w wr pm pr pc ph M N C C)) (HREL : Hid (MRel M N)) (HPT0 : Hid (N.ptrs.length ≤ i)) (hop : Z i 0 = 1) :
    Code.wp Try.prog plBody (Exit.then (fun a' w'' => PlI (some ⟨b1, off1, none⟩) n1 c1 pm pr cut w z2z z3z z22z z23z z24z z25z z26z z27z z28z z29z z30z z31z z32z z33z z202z z203z z204z z205z z206z z207z z208z z209z z210z z211z z212z z213z z214z z215z a' w'' ∧ PlMu n1 a' w'' < PlMu n1 ⟨#[.slice (some ⟨b1, off1, none⟩) n1 c1, .int .i64 cut, z2z, z3z, z4z, .pointer (some ⟨pm, 0, none⟩), .pointer (some ⟨pr, 0, none⟩), .pointer (some ⟨pc, 0, none⟩), .pointer (some ⟨ph, 0, none⟩), .int .i64 i, z10z, z11z, z12z, z13z, z14z, z15z, z16z, z17z, z18z, z19z, z20z, z21z, z22z, z23z, z24z, z25z, z26z, z27z, z28z, z29z, z30z, z31z, z32z, z33z, z34z, z35z, z36z, z37z, z38z, z39z, z40z, z41z, z42z, z43z, z44z, z45z, z46z, z47z, z48z, z49z, z50z, z51z, z52z, z53z, z54z, z55z, z56z, z57z, z58z, z59z, z60z, z61z, z62z, z63z, z64z, z65z, z66z, z67z, z68z, z69z, z70z, z71z, z72z, z73z, z74z, z75z, z76z, z77z, z78z, z79z, z80z, z81z, z82z, z83z, z84z, z85z, z86z, z87z, z88z, z89z, z90z, z91z, z92z, z93z, z94z, z95z, z96z, z97z, z98z, z99z, z100z, z101z, z102z, z103z, z104z, z105z, z106z, z107z, z108z, z109z, z110z, z111z, z112z, z113z, z114z, z115z, z116z, z117z, z118z, z119z, z120z, z121z, z122z, z123z, z124z, z125z, z126z, z127z, z128z, z129z, z130z, z131z, z132z, z133z, z134z, z135z, z136z, z137z, z138z, z139z, z140z, z141z, z142z, z143z, z144z, z145z, z146z, z147z, z148z, z149z, z150z, z151z, z152z, z153z, z154z, z155z, z156z, z157z, z158z, z159z, z160z, z161z, z162z, z163z, z164z, z165z, z166z, z167z, z168z, z169z, z170z, z171z, z172z, z173z, z174z, z175z, z176z, z177z, z178z, z179z, z180z, z181z, z182z, z183z, z184z, z185z, z186z, z187z, z188z, z189z, z190z, z191z, z192z, z193z, z194z, z195z, z196z, z197z, z198z, z199z, z200z, z201z, z202z, z203z, z204z, z205z, z206z, z207z, z208z, z209z, z210z, z211z, z212z, z213z, z214z, z215z], []⟩ wr) Q0) ⟨#[.slice (some ⟨b1, off1, none⟩) n1 c1, .int .i64 cut, z2z, z3z, z4z, .pointer (some ⟨pm, 0, none⟩), .pointer (some ⟨pr, 0, none⟩), .pointer (some ⟨pc, 0, none⟩), .pointer (some ⟨ph, 0, none⟩), .int .i64 i, z10z, z11z, z12z, z13z, z14z, z15z, z16z, z17z, z18z, z19z, z20z, z21z, z22z, z23z, z24z, z25z, z26z, z27z, z28z, z29z, z30z, z31z, z32z, z33z, z34z, z35z, z36z, z37z, z38z, z39z, z40z, z41z, z42z, z43z, z44z, z45z, z46z, z47z, z48z, z49z, z50z, z51z, z52z, z53z, z54z, z55z, z56z, z57z, z58z, z59z, z60z, z61z, z62z, z63z, z64z, z65z, z66z, z67z, z68z, z69z, z70z, z71z, z72z, z73z, z74z, z75z, z76z, z77z, z78z, z79z, z80z, z81z, z82z, z83z, z84z, z85z, z86z, z87z, z88z, z89z, z90z, z91z, z92z, z93z, z94z, z95z, z96z, z97z, z98z, z99z, z100z, z101z, z102z, z103z, z104z, z105z, z106z, z107z, z108z, z109z, z110z, z111z, z112z, z113z, z114z, z115z, z116z, z117z, z118z, z119z, z120z, z121z, z122z, z123z, z124z, z125z, z126z, z127z, z128z, z129z, z130z, z131z, z132z, z133z, z134z, z135z, z136z, z137z, z138z, z139z, z140z, z141z, z142z, z143z, z144z, z145z, z146z, z147z, z148z, z149z, z150z, z151z, z152z, z153z, z154z, z155z, z156z, z157z, z158z, z159z, z160z, z161z, z162z, z163z, z164z, z165z, z166z, z167z, z168z, z169z, z170z, z171z, z172z, z173z, z174z, z175z, z176z, z177z, z178z, z179z, z180z, z181z, z182z, z183z, z184z, z185z, z186z, z187z, z188z, z189z, z190z, z191z, z192z, z193z, z194z, z195z, z196z, z197z, z198z, z199z, z200z, z201z, z202z, z203z, z204z, z205z, z206z, z207z, z208z, z209z, z210z, z211z, z212z, z213z, z214z, z215z], []⟩ wr := by
  have q0 : (Z i 0 == 0) = false := by simp [hop]
  have q1 : (Z i 0 == 1) = true := by simp [hop]
  clear hop
  have hc : ∀ i, i < n1 → ∀ j, j < 9 → wr.cell? ⟨b1, off1 + i * 9 + j, none⟩ = some (.int .i64 (Z i j)) := fun i hi j hj => keep_cell HPK.out.bel (HA.out i hi j hj)
  have i0 : (0 : Int) ≤ i := by omega
  have i1 : (i : Int) < n1 := by omega
  have y0 : wr.cell? ⟨b1, off1 + i * 9, none⟩ = some (.int .i64 (Z i 0)) := hc i hin 0 (by omega)
  have y1 : wr.cell? ⟨b1, off1 + i * 9 + 1, none⟩ = some (.int .i64 (Z i 1)) := hc i hin 1 (by omega)
  have y2 : wr.cell? ⟨b1, off1 + i * 9 + 2, none⟩ = some (.int .i64 (Z i 2)) := hc i hin 2 (by omega)
  have y3 : wr.cell? ⟨b1, off1 + i * 9 + 3, none⟩ = some (.int .i64 (Z i 3)) := hc i hin 3 (by omega)
  have y4 : wr.cell? ⟨b1, off1 + i * 9 + 4, none⟩ = some (.int .i64 (Z i 4)) := hc i hin 4 (by omega)
  have y5 : wr.cell? ⟨b1, off1 + i * 9 + 5, none⟩ = some (.int .i64 (Z i 5)) := hc i hin 5 (by omega)
  have y6 : wr.cell? ⟨b1, off1 + i * 9 + 6, none⟩ = some (.int .i64 (Z i 6)) := hc i hin 6 (by omega)
  have y7 : wr.cell? ⟨b1, off1 + i * 9 + 7, none⟩ = some (.int .i64 (Z i 7)) := hc i hin 7 (by omega)
  have y8 : wr.cell? ⟨b1, off1 + i * 9 + 8, none⟩ = some (.int .i64 (Z i 8)) := hc i hin 8 (by omega)
  have HPL : Hid (N.ptrs.length < 100000) := by have := HPT0.out; show _ < _; omega
  have HYb : Hid (PY w (wr.alloc (.cells #[.int .i64 (Z i 0), .int .i64 (Z i 1), .int .i64 (Z i 2), .int .i64 (Z i 3), .int .i64 (Z i 4), .int .i64 (Z i 5), .int .i64 (Z i 6), .int .i64 (Z i 7), .int .i64 (Z i 8)] 34)) pm pr pc ph wr.heap.size (Z i) M N C C) := by
    refine HPK.out.box ((Below.refl _ _).alloc (Nat.le_refl _) _) (Nat.le_refl _) (fun j hj => ?_)
    match j, hj with
    | 0, _ => go_simp
    | 1, _ => go_simp
    | 2, _ => go_simp
    | 3, _ => go_simp
    | 4, _ => go_simp
    | 5, _ => go_simp
    | 6, _ => go_simp
    | 7, _ => go_simp
    | 8, _ => go_simp
  clear hc HPK HA
  conv => arg 2; whnf
  go_upto_if 46 with fail
  go_cut [7, 8] from 34 to 201 (fun s7 s8 w' => ∃ (pc ph : Nat) (C : List AB), s7 = .pointer (some ⟨pc, 0, none⟩) ∧ s8 = .pointer (some ⟨ph, 0, none⟩) ∧ Hid (PY w w' pm pr pc ph wr.heap.size (Z i) M N C C))
  case first =>
    by_cases hcu : (i : Int) = cut
    · have qc : ((i : Int) == cut) = true := by simpa using hcu
      clear hcu
      go_wp2_with fail
      refine (py_copy1 HYb.out).mono ?_
      rintro e w6 ⟨P1, rfl, hz⟩
      have HY6 : Hid (PY w w6 pm pr P1 ph wr.heap.size (Z i) M N M C) := hz
      clear hz HYb
      go_wp2_with fail
      refine (py_copy2 HY6.out).mono ?_
      rintro e w7 ⟨P2, rfl, hz⟩
      have HY7 : Hid (PY w w7 pm pr P1 P2 wr.heap.size (Z i) M N M M) := hz
      clear hz HY6
      go_wp2
      go_meet
      case rel => exact ⟨P1, P2, M, rfl, rfl, HY7⟩
    · have qc : ((i : Int) == cut) = false := by simpa using hcu
      clear hcu
      go_wp2
      go_meet
      case rel => exact ⟨pc, ph, C, rfl, rfl, HYb⟩
  case rest =>
    clear HYb
    obtain ⟨pc, ph, C, rfl, rfl, HYs⟩ := hcut
    obtain ⟨BX, hBX⟩ : ∃ BX, BX = wr.heap.size := ⟨_, rfl⟩
    rw [← hBX] at HYs ⊢
    clear hBX
    have x0 := HYs.out.cell (j := 0) (by omega)
    obtain ⟨⟨M1, r0⟩, hM⟩ : ∃ t, freeM M (Z i 1) = t := ⟨_, rfl⟩
    obtain ⟨⟨N1, r1⟩, hN⟩ : ∃ t, freeN N (Z i 1) = t := ⟨_, rfl⟩
    have hr := rel_free HREL.out (Z i 1)
    rw [hM, hN] at hr
    have hpt : N1.ptrs.length ≤ i + 1 := by
      have h := ptrs_free N (Z i 1)
      rw [hN] at h
      have h2 := HPT0.out
      simp only [] at h; rw [h]; omega
    obtain ⟨hr1, hr2⟩ := hr
    simp only [] at hr1
    subst hr1
    have HM : Hid (freeM M (Z i 1) = (M1, r0)) := hM
    have HN : Hid (freeN N (Z i 1) = (N1, r0)) := hN
    have HREL1 : Hid (MRel M1 N1) := hr2
    have HPT1 : Hid (N1.ptrs.length ≤ i + 1) := hpt
    clear hM hN hr2 hpt
    have x1 := HYs.out.cell (j := 1) (by omega)
    go_wp2_with fail
    clear HREL
    refine wp_region_held_drew (S := (fun w' => w'.cell? ⟨BX, 1, none⟩ = some (.int .i64 (Z i 1)))) (by kernel_rfl) (x1) (fun hHeld => ?_)
    refine wpAnyH_take (i := 0) (oi := ?oiB1x1x0) (v := ?vvB1x1x0) ?hiB1x1x0 (by kernel_rfl) (by kernel_rfl) (by kernel_rfl) ?hqB1x1x0 ?hyB1x1x0 hHeld ?_
    case hiB1x1x0 => simp only [List.getElem?_toArray, List.getElem?_cons_succ, List.getElem?_cons_zero]; rfl
    case hqB1x1x0 => exact fun _ _ _ h => hQ0 _ _ _ _ _ h
    case hyB1x1x0 => (refine Or.inl ⟨by rfl, ?_⟩; intro w' hSw; (try dsimp only at hSw); go_simp; (try (with_reducible rfl)))
    simp only [Act.put, List.setIfInBounds_toArray, List.set_cons_zero, List.set_cons_succ]
    refine wpAnyH_take (i := 1) (oi := ?oiB1x2x1) (v := ?vvB1x2x1) ?hiB1x2x1 (by kernel_rfl) (by kernel_rfl) (by kernel_rfl) ?hqB1x2x1 ?hyB1x2x1 hHeld ?_
    case hiB1x2x1 => simp only [List.getElem?_toArray, List.getElem?_cons_succ, List.getElem?_cons_zero]; rfl
    case hqB1x2x1 => exact fun _ _ _ h => hQ0 _ _ _ _ _ h
    case hyB1x2x1 => (refine Or.inl ⟨by rfl, ?_⟩; intro w' hSw; (try dsimp only at hSw); go_simp; (try (with_reducible rfl)))
    simp only [Act.put, List.setIfInBounds_toArray, List.set_cons_zero, List.set_cons_succ]
    refine wpAnyH_take (i := 2) (oi := ?oiB1x3x2) (v := ?vvB1x3x2) ?hiB1x3x2 (by kernel_rfl) (by kernel_rfl) (by kernel_rfl) ?hqB1x3x2 ?hyB1x3x2 hHeld ?_
    case hiB1x3x2 => simp only [List.getElem?_toArray, List.getElem?_cons_succ, List.getElem?_cons_zero]; rfl
    case hqB1x3x2 => exact fun _ _ _ h => hQ0 _ _ _ _ _ h
    case hyB1x3x2 => (refine Or.inl ⟨by rfl, ?_⟩; intro w' hSw; (try dsimp only at hSw); go_simp; (try (with_reducible rfl)))
    simp only [Act.put, List.setIfInBounds_toArray, List.set_cons_zero, List.set_cons_succ]
    refine wpAnyH_take (i := 4) (oi := ?oiB1x4x4) (v := ?vvB1x4x4) ?hiB1x4x4 (by kernel_rfl) (by kernel_rfl) (by kernel_rfl) ?hqB1x4x4 ?hyB1x4x4 hHeld ?_
    case hiB1x4x4 => simp only [List.getElem?_toArray, List.getElem?_cons_succ, List.getElem?_cons_zero]; rfl
    case hqB1x4x4 => exact fun _ _ _ h => hQ0 _ _ _ _ _ h
    case hyB1x4x4 => (refine Or.inl ⟨by rfl, ?_⟩; intro w' hSw; (try dsimp only at hSw); go_simp; (try (with_reducible rfl)))
    simp only [Act.put, List.setIfInBounds_toArray, List.set_cons_zero, List.set_cons_succ]
    refine wpAnyH_take (i := 5) (oi := ?oiB1x5x5) (v := ?vvB1x5x5) ?hiB1x5x5 (by kernel_rfl) (by kernel_rfl) (by kernel_rfl) ?hqB1x5x5 ?hyB1x5x5 hHeld ?_
    case hiB1x5x5 => simp only [List.getElem?_toArray, List.getElem?_cons_succ, List.getElem?_cons_zero]; rfl
    case hqB1x5x5 => exact fun _ _ _ h => hQ0 _ _ _ _ _ h
    case hyB1x5x5 => (refine Or.inl ⟨by rfl, ?_⟩; intro w' hSw; (try dsimp only at hSw); go_simp; (try (with_reducible rfl)))
    simp only [Act.put, List.setIfInBounds_toArray, List.set_cons_zero, List.set_cons_succ]
    refine wpAnyH_take (i := 6) (oi := ?oiB1x6x6) (v := ?vvB1x6x6) ?hiB1x6x6 (by kernel_rfl) (by kernel_rfl) (by kernel_rfl) ?hqB1x6x6 ?hyB1x6x6 hHeld ?_
    case hiB1x6x6 => simp only [List.getElem?_toArray, List.getElem?_cons_succ, List.getElem?_cons_zero]; rfl
    case hqB1x6x6 => exact fun _ _ _ h => hQ0 _ _ _ _ _ h
    case hyB1x6x6 => (refine Or.inl ⟨by rfl, ?_⟩; intro w' hSw; (try dsimp only at hSw); go_simp; (try (with_reducible rfl)))
    simp only [Act.put, List.setIfInBounds_toArray, List.set_cons_zero, List.set_cons_succ]
    refine wpAnyH_ready (rs := [3]) (by kernel_rfl) (by simp) ?_
    refine (AllReadyH.cons (o := ?oiB1x7x3) ?hiB1x7x3 (fun K hK => ?gB1x7x3) AllReadyH.nil)
    case hiB1x7x3 => simp only [List.getElem?_toArray, List.getElem?_cons_succ, List.getElem?_cons_zero]; rfl
    case gB1x7x3 =>
      go_simp
      refine (py_free (PY.below HYs.out (Below.drew (Below.refl _ _))) (Z i 1) HM.out).mono ?_
      rintro e v3 ⟨rfl, hq3⟩
      have hz3 : Hid (PY w v3 pm pr pc ph BX (Z i) M1 N C C) := hq3
      clear hq3
      go_wp2_with fail
      refine hK.out _ _ (hz3.out.cell (j := 1) (by omega)) (fun hN => ?_)
      clear hK K hHeld
      have hHeld := hN
      clear hN
      try simp only [Act.put, List.setIfInBounds_toArray, List.set_cons_zero, List.set_cons_succ]
      refine wpAnyH_ready (rs := [7]) (by kernel_rfl) (by simp) ?_
      refine (AllReadyH.cons (o := ?oiB1x8x7) ?hiB1x8x7 (fun K hK => ?gB1x8x7) AllReadyH.nil)
      case hiB1x8x7 => simp only [List.getElem?_toArray, List.getElem?_cons_succ, List.getElem?_cons_zero]; rfl
      case gB1x8x7 =>
        go_simp
        refine (ry_free hz3.out (Z i 1) HN.out).mono ?_
        rintro e v7 ⟨rfl, hq7⟩
        have hz7 : Hid (PY w v7 pm pr pc ph BX (Z i) M1 N1 C C) := hq7
        clear hq7
        go_wp2_with fail
        refine hK.out _ _ (hz7.out.cell (j := 1) (by omega)) (fun hN => ?_)
        clear hK K hHeld
        have hHeld := hN
        clear hN
        try simp only [Act.put, List.setIfInBounds_toArray, List.set_cons_zero, List.set_cons_succ]
        refine wpAnyH_take (i := 8) (oi := ?oiB1x9x8) (v := ?vvB1x9x8) ?hiB1x9x8 (by kernel_rfl) (by kernel_rfl) (by kernel_rfl) ?hqB1x9x8 ?hyB1x9x8 hHeld ?_
        case hiB1x9x8 => simp only [List.getElem?_toArray, List.getElem?_cons_succ, List.getElem?_cons_zero]; rfl
        case hqB1x9x8 => exact fun _ _ _ h => hQ0 _ _ _ _ _ h
        case hyB1x9x8 => (refine Or.inl ⟨by rfl, ?_⟩; intro w' hSw; (try dsimp only at hSw); go_simp; (try (with_reducible rfl)))
        simp only [Act.put, List.setIfInBounds_toArray, List.set_cons_zero, List.set_cons_succ]
        refine wpAnyH_done (by kernel_rfl) ?_ _
        have HYt : Hid (PY w v7 pm pr pc ph BX (Z i) M1 N1 C C) := hz7
        have HREL : Hid (MRel M1 N1) := HREL1
        have HPT : Hid (N1.ptrs.length ≤ i + 1) := HPT1
        clear hHeld HM HN HREL1 HPT1 hz3 hz7 x1
        obtain ⟨ra, rc, hra⟩ := HYt.out.rows
        obtain ⟨nl, hnl⟩ : ∃ nl, live M1 = nl := ⟨_, rfl⟩
        have HLV : Hid (live M1 = nl) := hnl
        have HLN : Hid (liveN N1.L = nl) := (rel_live HREL.out).symm.trans hnl
        have HLEN : Hid (M1.length = N1.L.length) := HREL.out.len
        clear hnl
        go_wp2_with fail
        refine wp_region_held_drew (S := (fun w' => w'.cell? ⟨pr, 0, none⟩ = some (.slice ra N1.L.length rc))) (by kernel_rfl) (hra) (fun hHeld => ?_)
        refine wpAnyH_take (i := 0) (oi := ?oiB2x1x0) (v := ?vvB2x1x0) ?hiB2x1x0 (by kernel_rfl) (by kernel_rfl) (by kernel_rfl) ?hqB2x1x0 ?hyB2x1x0 hHeld ?_
        case hiB2x1x0 => simp only [List.getElem?_toArray, List.getElem?_cons_succ, List.getElem?_cons_zero]; rfl
        case hqB2x1x0 => exact fun _ _ _ h => hQ0 _ _ _ _ _ h
        case hyB2x1x0 => (refine Or.inl ⟨by rfl, ?_⟩; intro w' hSw; (try dsimp only at hSw); go_simp; (try (with_reducible rfl)))
        simp only [Act.put, List.setIfInBounds_toArray, List.set_cons_zero, List.set_cons_succ]
        refine wpAnyH_take (i := 2) (oi := ?oiB2x2x2) (v := ?vvB2x2x2) ?hiB2x2x2 (by kernel_rfl) (by kernel_rfl) (by kernel_rfl) ?hqB2x2x2 ?hyB2x2x2 hHeld ?_
        case hiB2x2x2 => simp only [List.getElem?_toArray, List.getElem?_cons_succ, List.getElem?_cons_zero]; rfl
        case hqB2x2x2 => exact fun _ _ _ h => hQ0 _ _ _ _ _ h
        case hyB2x2x2 => (refine Or.inl ⟨by rfl, ?_⟩; intro w' hSw; (try dsimp only at hSw); go_simp; (try (with_reducible rfl)))
        simp only [Act.put, List.setIfInBounds_toArray, List.set_cons_zero, List.set_cons_succ]
        refine wpAnyH_take (i := 3) (oi := ?oiB2x3x3) (v := ?vvB2x3x3) ?hiB2x3x3 (by kernel_rfl) (by kernel_rfl) (by kernel_rfl) ?hqB2x3x3 ?hyB2x3x3 hHeld ?_
        case hiB2x3x3 => simp only [List.getElem?_toArray, List.getElem?_cons_succ, List.getElem?_cons_zero]; rfl
        case hqB2x3x3 => exact fun _ _ _ h => hQ0 _ _ _ _ _ h
        case hyB2x3x3 => (refine Or.inl ⟨by rfl, ?_⟩; intro w' hSw; (try dsimp only at hSw); go_simp; (try (with_reducible rfl)))
        simp only [Act.put, List.setIfInBounds_toArray, List.set_cons_zero, List.set_cons_succ]
        refine wpAnyH_take (i := 4) (oi := ?oiB2x4x4) (v := ?vvB2x4x4) ?hiB2x4x4 (by kernel_rfl) (by kernel_rfl) (by kernel_rfl) ?hqB2x4x4 ?hyB2x4x4 hHeld ?_
        case hiB2x4x4 => simp only [List.getElem?_toArray, List.getElem?_cons_succ, List.getElem?_cons_zero]; rfl
        case hqB2x4x4 => exact fun _ _ _ h => hQ0 _ _ _ _ _ h
        case hyB2x4x4 => (refine Or.inl ⟨by rfl, ?_⟩; intro w' hSw; (try dsimp only at hSw); go_simp; (try (with_reducible rfl)))
        simp only [Act.put, List.setIfInBounds_toArray, List.set_cons_zero, List.set_cons_succ]
        refine wpAnyH_take (i := 5) (oi := ?oiB2x5x5) (v := ?vvB2x5x5) ?hiB2x5x5 (by kernel_rfl) (by kernel_rfl) (by kernel_rfl) ?hqB2x5x5 ?hyB2x5x5 hHeld ?_
        case hiB2x5x5 => simp only [List.getElem?_toArray, List.getElem?_cons_succ, List.getElem?_cons_zero]; rfl
        case hqB2x5x5 => exact fun _ _ _ h => hQ0 _ _ _ _ _ h
        case hyB2x5x5 => (refine Or.inl ⟨by rfl, ?_⟩; intro w' hSw; (try dsimp only at hSw); go_simp; (try (with_reducible rfl)))
        simp only [Act.put, List.setIfInBounds_toArray, List.set_cons_zero, List.set_cons_succ]
        refine wpAnyH_take (i := 6) (oi := ?oiB2x6x6) (v := ?vvB2x6x6) ?hiB2x6x6 (by kernel_rfl) (by kernel_rfl) (by kernel_rfl) ?hqB2x6x6 ?hyB2x6x6 hHeld ?_
        case hiB2x6x6 => simp only [List.getElem?_toArray, List.getElem?_cons_succ, List.getElem?_cons_zero]; rfl
        case hqB2x6x6 => exact fun _ _ _ h => hQ0 _ _ _ _ _ h
        case hyB2x6x6 => (refine Or.inl ⟨by rfl, ?_⟩; intro w' hSw; (try dsimp only at hSw); go_simp; (try (with_reducible rfl)))
        simp only [Act.put, List.setIfInBounds_toArray, List.set_cons_zero, List.set_cons_succ]
        refine wpAnyH_ready (rs := [1]) (by kernel_rfl) (by simp) ?_
        refine (AllReadyH.cons (o := ?oiB2x7x1) ?hiB2x7x1 (fun K hK => ?gB2x7x1) AllReadyH.nil)
        case hiB2x7x1 => simp only [List.getElem?_toArray, List.getElem?_cons_succ, List.getElem?_cons_zero]; rfl
        case gB2x7x1 =>
          go_simp
          refine (py_blocks (PY.below HYt.out (Below.drew (Below.refl _ _))) (n := N1.L.length) HLEN.out).mono ?_
          rintro e v1 ⟨rfl, hz1, hb1⟩
          have hh1 : Hid (PY w v1 pm pr pc ph BX (Z i) M1 N1 C C) := hz1
          clear hz1
          go_wp2_with fail
          refine hK.out _ _ (keep_cell hb1 hHeld) (fun hN => ?_)
          clear hK K hHeld
          have hHeld := hN
          clear hN
          try simp only [Act.put, List.setIfInBounds_toArray, List.set_cons_zero, List.set_cons_succ]
          refine wpAnyH_take (i := 7) (oi := ?oiB2x8x7) (v := ?vvB2x8x7) ?hiB2x8x7 (by kernel_rfl) (by kernel_rfl) (by kernel_rfl) ?hqB2x8x7 ?hyB2x8x7 hHeld ?_
          case hiB2x8x7 => simp only [List.getElem?_toArray, List.getElem?_cons_succ, List.getElem?_cons_zero]; rfl
          case hqB2x8x7 => exact fun _ _ _ h => hQ0 _ _ _ _ _ h
          case hyB2x8x7 => (refine Or.inl ⟨by rfl, ?_⟩; intro w' hSw; (try dsimp only at hSw); go_simp; (try (with_reducible rfl)))
          simp only [Act.put, List.setIfInBounds_toArray, List.set_cons_zero, List.set_cons_succ]
          refine wpAnyH_take (i := 8) (oi := ?oiB2x9x8) (v := ?vvB2x9x8) ?hiB2x9x8 (by kernel_rfl) (by kernel_rfl) (by kernel_rfl) ?hqB2x9x8 ?hyB2x9x8 hHeld ?_
          case hiB2x9x8 => simp only [List.getElem?_toArray, List.getElem?_cons_succ, List.getElem?_cons_zero]; rfl
          case hqB2x9x8 => exact fun _ _ _ h => hQ0 _ _ _ _ _ h
          case hyB2x9x8 => (refine Or.inl ⟨by rfl, ?_⟩; intro w' hSw; (try dsimp only at hSw); go_simp; (try (with_reducible rfl)))
          simp only [Act.put, List.setIfInBounds_toArray, List.set_cons_zero, List.set_cons_succ]
          refine wpAnyH_take (i := 9) (oi := ?oiB2x10x9) (v := ?vvB2x10x9) ?hiB2x10x9 (by kernel_rfl) (by kernel_rfl) (by kernel_rfl) ?hqB2x10x9 ?hyB2x10x9 hHeld ?_
          case hiB2x10x9 => simp only [List.getElem?_toArray, List.getElem?_cons_succ, List.getElem?_cons_zero]; rfl
          case hqB2x10x9 => exact fun _ _ _ h => hQ0 _ _ _ _ _ h
          case hyB2x10x9 => (refine Or.inl ⟨by rfl, ?_⟩; intro w' hSw; (try dsimp only at hSw); go_simp; (try (with_reducible rfl)))
          simp only [Act.put, List.setIfInBounds_toArray, List.set_cons_zero, List.set_cons_succ]
          refine wpAnyH_take (i := 11) (oi := ?oiB2x11x11) (v := ?vvB2x11x11) ?hiB2x11x11 (by kernel_rfl) (by kernel_rfl) (by kernel_rfl) ?hqB2x11x11 ?hyB2x11x11 hHeld ?_
          case hiB2x11x11 => simp only [List.getElem?_toArray, List.getElem?_cons_succ, List.getElem?_cons_zero]; rfl
          case hqB2x11x11 => exact fun _ _ _ h => hQ0 _ _ _ _ _ h
          case hyB2x11x11 => (refine Or.inl ⟨by rfl, ?_⟩; intro w' hSw; (try dsimp only at hSw); go_simp; (try (with_reducible rfl)))
          simp only [Act.put, List.setIfInBounds_toArray, List.set_cons_zero, List.set_cons_succ]
          refine wpAnyH_ready (rs := [10]) (by kernel_rfl) (by simp) ?_
          refine (AllReadyH.cons (o := ?oiB2x12x10) ?hiB2x12x10 (fun K hK => ?gB2x12x10) AllReadyH.nil)
          case hiB2x12x10 => simp only [List.getElem?_toArray, List.getElem?_cons_succ, List.getElem?_cons_zero]; rfl
          case gB2x12x10 =>
            go_simp
            refine (py_live hh1.out (n := nl) HLV.out).mono ?_
            rintro e v10 ⟨rfl, hz10, hb10⟩
            have hh10 : Hid (PY w v10 pm pr pc ph BX (Z i) M1 N1 C C) := hz10
            clear hz10
            go_wp2_with fail
            refine hK.out _ _ (keep_cell hb10 hHeld) (fun hN => ?_)
            clear hK K hHeld
            have hHeld := hN
            clear hN
            try simp only [Act.put, List.setIfInBounds_toArray, List.set_cons_zero, List.set_cons_succ]
            refine wpAnyH_ready (rs := [12]) (by kernel_rfl) (by simp) ?_
            refine (AllReadyH.cons (o := ?oiB2x13x12) ?hiB2x13x12 (fun K hK => ?gB2x13x12) AllReadyH.nil)
            case hiB2x13x12 => simp only [List.getElem?_toArray, List.getElem?_cons_succ, List.getElem?_cons_zero]; rfl
            case gB2x13x12 =>
              go_simp
              refine (ry_live hh10.out (n := nl) HLN.out).mono ?_
              rintro e v12 ⟨rfl, hz12, hb12⟩
              have hh12 : Hid (PY w v12 pm pr pc ph BX (Z i) M1 N1 C C) := hz12
              clear hz12
              go_wp2_with fail
              refine hK.out _ _ (keep_cell hb12 hHeld) (fun hN => ?_)
              clear hK K hHeld
              have hHeld := hN
              clear hN
              try simp only [Act.put, List.setIfInBounds_toArray, List.set_cons_zero, List.set_cons_succ]
              refine wpAnyH_take (i := 13) (oi := ?oiB2x14x13) (v := ?vvB2x14x13) ?hiB2x14x13 (by kernel_rfl) (by kernel_rfl) (by kernel_rfl) ?hqB2x14x13 ?hyB2x14x13 hHeld ?_
              case hiB2x14x13 => simp only [List.getElem?_toArray, List.getElem?_cons_succ, List.getElem?_cons_zero]; rfl
              case hqB2x14x13 => exact fun _ _ _ h => hQ0 _ _ _ _ _ h
              case hyB2x14x13 => (refine Or.inl ⟨by rfl, ?_⟩; intro w' hSw; (try dsimp only at hSw); go_simp; (try (with_reducible rfl)))
              simp only [Act.put, List.setIfInBounds_toArray, List.set_cons_zero, List.set_cons_succ]
              refine wpAnyH_take (i := 14) (oi := ?oiB2x15x14) (v := ?vvB2x15x14) ?hiB2x15x14 (by kernel_rfl) (by kernel_rfl) (by kernel_rfl) ?hqB2x15x14 ?hyB2x15x14 hHeld ?_
              case hiB2x15x14 => simp only [List.getElem?_toArray, List.getElem?_cons_succ, List.getElem?_cons_zero]; rfl
              case hqB2x15x14 => exact fun _ _ _ h => hQ0 _ _ _ _ _ h
              case hyB2x15x14 => (refine Or.inl ⟨by rfl, ?_⟩; intro w' hSw; (try dsimp only at hSw); go_simp; (try (with_reducible rfl)))
              simp only [Act.put, List.setIfInBounds_toArray, List.set_cons_zero, List.set_cons_succ]
              refine wpAnyH_done (by kernel_rfl) ?_ _
              have HPn : Hid (PK w v12 pm pr pc ph M1 N1 C C) := hh12.out.pk
              clear hHeld hb1 hb10 hb12 hh1 hh10 hh12
              go_wp2
              refine ⟨?_, ?_⟩
              · unfold PlI
                refine ⟨_, _, _, _, _, _, _, _, _, _, _, _, _, _, _, _, _, _, _, _, _, _, _, _, _, _, _, _, _, _, _, _, _, _, _, _, _, _, _, _, _, _, _, _, _, _, _, _, _, _, _, _, _, _, _, _, _, _, _, _, _, _, _, _, _, _, _, _, _, _, _, _, _, _, _, _, _, _, _, _, _, _, _, _, _, _, _, _, _, _, _, _, _, _, _, _, _, _, _, _, _, _, _, _, _, _, _, _, _, _, _, _, _, _, _, _, _, _, _, _, _, _, _, _, _, _, _, _, _, _, _, _, _, _, _, _, _, _, _, _, _, _, _, _, _, _, _, _, _, _, _, _, _, _, _, _, _, _, _, _, _, _, _, _, _, _, _, _, _, _, _, _, _, _, _, _, _, _, _, _, _, _, _, _, ?_, rfl⟩
                exact ⟨i + 1, pc, ph, M1, N1, C, by omega, rfl, rfl, by simp, HPn, HREL, HPT⟩
              · unfold PlMu
                show n1 - (intOf (Value.int .i64 ((i : Int) + 1))).toNat < n1 - (intOf (Value.int .i64 i)).toNat
                simp [intOf]
                omega

end Go.Proofs.Ytnklpccggbkknaa
