/- The document's own graphs over locations: is a program good? -/
import Derived.Test.YthieicjnenlpfaaGreatDoorLgA
import Derived.Test.YthieicjnenlpfaaGreatDoorRGood
import Derived.Test.YthieicjnenlpfaaGreatDoorRCp0
namespace Go.Proofs.YthieicjnenlpfaaGreatDoor
open Go.ChangeShapes Go.WideShapes Go.ChangeAt Go.RowKit
set_option linter.unusedSimpArgs false
set_option linter.unusedVariables false

def regionNL (n : Nat) : Code → Option Code
  | .region k o b => if k = n then some (.region k o b) else none
  | .seq a b => match regionNL n a with
    | some c => some c
    | none => regionNL n b
  | .block _ c => regionNL n c
  | .scope c => regionNL n c
  | .loop c => regionNL n c
  | .cond _ a b => match regionNL n a with
    | some c => some c
    | none => regionNL n b
  | _ => none
noncomputable def lgR13 : Code := ((Tryz.f9.body.bind (regionNL 13)).getD .skip)
theorem wp_calmL {P : Program} {c : Code} {K : Act → World → Prop} {QQ : Exit → Act → World → Prop} {a : Act} {w : World} (h : Code.wp P c (Exit.then K (fun _ _ _ => False)) a w) : Code.wp P c (Exit.then K QQ) a w :=
  Go.wp_mono h (fun e a w hq => by cases e <;> first | exact hq | exact hq.elim)
theorem ownsRow_blkL {W W' : World} {B : Nat} {e : TypeId} {v : Value} {k : Nat} {xs : List Value} (h : W.ownsRow B e 1 v k xs) (hk : ∀ b, v.ownBlock = some b → W'.heap[b]? = W.heap[b]?) : W'.ownsRow B e 1 v k xs := by
  refine ⟨h.1, ?_⟩
  rcases h.2 with z | ⟨b, cap, cur, h1, h2, h3, h4⟩
  · exact .inl z
  · exact .inr ⟨b, cap, cur, h1, h2, by rw [hk b (by rw [h1]; rfl)]; exact h3, h4⟩
theorem one_cell (w : World) (x : Int) : ∀ j u, [Value.int .i64 x][j]? = some u → (w.alloc (.cells #[.int .i64 x] 3)).cell? ((⟨w.heap.size, 0, none⟩ : Addr).add j) = some u := by
  intro j u hj
  match j, hj with
  | 0, hj => simp at hj; subst hj; simp [Addr.add]
/-- An instruction's copy, while its registers are gathered. -/
def Lg13 (D : Nat) (op sub a b d k : Int) (aa : Option Addr) (an ac : Nat) (s t : Int) (args : List Int) (w1 w' : World) : Prop := (w'.cell? ⟨D, 0, none⟩ = some (.int .i64 op) ∧ w'.cell? ⟨D, 1, none⟩ = some (.int .i64 sub) ∧ w'.cell? ⟨D, 2, none⟩ = some (.int .i64 a) ∧ w'.cell? ⟨D, 3, none⟩ = some (.int .i64 b) ∧ w'.cell? ⟨D, 4, none⟩ = some (.int .i64 d) ∧ w'.cell? ⟨D, 5, none⟩ = some (.int .i64 k) ∧ w'.cell? ⟨D, 6, none⟩ = some (.slice aa an ac) ∧ w'.cell? ⟨D, 7, none⟩ = some (.int .i64 s) ∧ w'.cell? ⟨D, 8, none⟩ = some (.int .i64 t)) ∧ IL w' (.slice aa an ac) args ∧ Below w1.heap.size w1 w'
theorem Lg13.keep {D : Nat} {op sub a b d k : Int} {aa : Option Addr} {an ac : Nat} {s t : Int} {args : List Int} {w1 w w' : World} (h : Lg13 D op sub a b d k aa an ac s t args w1 w) (hb : Below w.heap.size w w') : Lg13 D op sub a b d k aa an ac s t args w1 w' := by
  obtain ⟨⟨d0, d1, d2, d3, d4, d5, d6, d7, d8⟩, hv, hw⟩ := h
  exact ⟨⟨keep_cell hb d0, keep_cell hb d1, keep_cell hb d2, keep_cell hb d3, keep_cell hb d4, keep_cell hb d5, keep_cell hb d6, keep_cell hb d7, keep_cell hb d8⟩, hv.keep hb, bel_trans hw hb⟩
theorem Lg13.start {D : Nat} {op sub a b d k : Int} {aa : Option Addr} {an ac : Nat} {s t : Int} {args : List Int} {w1 w' : World} (h : w1.cell? ⟨D, 0, none⟩ = some (.int .i64 op) ∧ w1.cell? ⟨D, 1, none⟩ = some (.int .i64 sub) ∧ w1.cell? ⟨D, 2, none⟩ = some (.int .i64 a) ∧ w1.cell? ⟨D, 3, none⟩ = some (.int .i64 b) ∧ w1.cell? ⟨D, 4, none⟩ = some (.int .i64 d) ∧ w1.cell? ⟨D, 5, none⟩ = some (.int .i64 k) ∧ w1.cell? ⟨D, 6, none⟩ = some (.slice aa an ac) ∧ w1.cell? ⟨D, 7, none⟩ = some (.int .i64 s) ∧ w1.cell? ⟨D, 8, none⟩ = some (.int .i64 t)) (hv : IL w1 (.slice aa an ac) args) (hb : Below w1.heap.size w1 w') : Lg13 D op sub a b d k aa an ac s t args w1 w' := by
  obtain ⟨d0, d1, d2, d3, d4, d5, d6, d7, d8⟩ := h
  exact ⟨⟨keep_cell hb d0, keep_cell hb d1, keep_cell hb d2, keep_cell hb d3, keep_cell hb d4, keep_cell hb d5, keep_cell hb d6, keep_cell hb d7, keep_cell hb d8⟩, hv.keep hb, hb⟩

set_option maxRecDepth 100000 in
set_option maxHeartbeats 8000000 in
theorem lg_r13 (D : Nat) (op sub a b d k : Int) (aa : Option Addr) (an ac : Nat) (s t : Int) (args : List Int) (z0z z1z z2z z3z z4z z5z z7z z8z z9z z10z z11z z12z z13z z14z z15z z16z z17z z18z z19z z20z z21z z22z z23z z24z z25z z26z z27z z28z z29z z30z z31z z32z z33z z34z z35z z36z z37z z38z z39z z40z z41z z42z z43z z44z z45z z46z z47z z48z z49z z50z z51z z52z z53z z54z z55z z56z z57z z58z z59z z60z z61z z62z z63z z64z z65z z66z z67z z68z z69z z70z z71z z72z z73z z74z z75z z76z z77z z78z z79z z80z z81z z82z z83z z84z z85z z86z z87z z88z z89z z90z z91z z92z z93z z94z z95z z96z z97z z98z z99z : Value) (K : Act → World → Prop) (w1 : World)
    (hd : w1.cell? ⟨D, 0, none⟩ = some (.int .i64 op) ∧ w1.cell? ⟨D, 1, none⟩ = some (.int .i64 sub) ∧ w1.cell? ⟨D, 2, none⟩ = some (.int .i64 a) ∧ w1.cell? ⟨D, 3, none⟩ = some (.int .i64 b) ∧ w1.cell? ⟨D, 4, none⟩ = some (.int .i64 d) ∧ w1.cell? ⟨D, 5, none⟩ = some (.int .i64 k) ∧ w1.cell? ⟨D, 6, none⟩ = some (.slice aa an ac) ∧ w1.cell? ⟨D, 7, none⟩ = some (.int .i64 s) ∧ w1.cell? ⟨D, 8, none⟩ = some (.int .i64 t)) (HV : Hid (IL w1 (.slice aa an ac) args)) (HLN : Hid ((usesF op a b args).length ≤ 6000))
    (HK : Hid (∀ y45 y46 y47 y48 y49 y50 a' cap w5, w5.ownsRow (w1.heap.size + 1) 3 1 (.slice a' ((usesF op a b args).length + 1) cap) ((usesF op a b args).length + 1) (ints (usesF op a b args ++ [writesF op d])) → Lg13 D op sub a b d k aa an ac s t args w1 w5 → K ⟨#[z0z, z1z, z2z, z3z, z4z, z5z, .pointer (some ⟨D, 0, none⟩), (.slice a' ((usesF op a b args).length + 1) cap), z8z, z9z, z10z, z11z, z12z, z13z, z14z, z15z, z16z, z17z, z18z, z19z, z20z, z21z, z22z, z23z, z24z, z25z, z26z, z27z, z28z, z29z, z30z, z31z, z32z, z33z, z34z, z35z, z36z, z37z, z38z, z39z, z40z, z41z, z42z, z43z, z44z, y45, y46, y47, y48, y49, y50, z51z, z52z, z53z, z54z, z55z, z56z, z57z, z58z, z59z, z60z, z61z, z62z, z63z, z64z, z65z, z66z, z67z, z68z, z69z, z70z, z71z, z72z, z73z, z74z, z75z, z76z, z77z, z78z, z79z, z80z, z81z, z82z, z83z, z84z, z85z, z86z, z87z, z88z, z89z, z90z, z91z, z92z, z93z, z94z, z95z, z96z, z97z, z98z, z99z], []⟩ w5)) :
    Code.wp Tryz.prog lgR13 (Exit.then K (fun _ _ _ => False)) ⟨#[z0z, z1z, z2z, z3z, z4z, z5z, .pointer (some ⟨D, 0, none⟩), z7z, z8z, z9z, z10z, z11z, z12z, z13z, z14z, z15z, z16z, z17z, z18z, z19z, z20z, z21z, z22z, z23z, z24z, z25z, z26z, z27z, z28z, z29z, z30z, z31z, z32z, z33z, z34z, z35z, z36z, z37z, z38z, z39z, z40z, z41z, z42z, z43z, z44z, z45z, z46z, z47z, z48z, z49z, z50z, z51z, z52z, z53z, z54z, z55z, z56z, z57z, z58z, z59z, z60z, z61z, z62z, z63z, z64z, z65z, z66z, z67z, z68z, z69z, z70z, z71z, z72z, z73z, z74z, z75z, z76z, z77z, z78z, z79z, z80z, z81z, z82z, z83z, z84z, z85z, z86z, z87z, z88z, z89z, z90z, z91z, z92z, z93z, z94z, z95z, z96z, z97z, z98z, z99z], []⟩ w1 := by
  conv => arg 2; whnf
  obtain ⟨i0, hi, hz0, hz1, hz2⟩ : ∃ i0, Tryz.prog.info? 3 = some i0 ∧ i0.zero = some (.int .i64 0) ∧ i0.size = 1 ∧ i0.bytes = 8 := info_parts (by kernel_rfl)
  have HI := hid (And.intro hi (And.intro hz0 (And.intro hz1 hz2)))
  clear hi hz0 hz1 hz2
  refine wp_region_held_drew (S := (fun w' => (w'.cell? ⟨D, 0, none⟩ = some (.int .i64 op) ∧ w'.cell? ⟨D, 1, none⟩ = some (.int .i64 sub) ∧ w'.cell? ⟨D, 2, none⟩ = some (.int .i64 a) ∧ w'.cell? ⟨D, 3, none⟩ = some (.int .i64 b) ∧ w'.cell? ⟨D, 4, none⟩ = some (.int .i64 d) ∧ w'.cell? ⟨D, 5, none⟩ = some (.int .i64 k) ∧ w'.cell? ⟨D, 6, none⟩ = some (.slice aa an ac) ∧ w'.cell? ⟨D, 7, none⟩ = some (.int .i64 s) ∧ w'.cell? ⟨D, 8, none⟩ = some (.int .i64 t)) ∧ Hid (IL w' (.slice aa an ac) args) ∧ Hid (Below w1.heap.size w1 w'))) (by kernel_rfl) (Lg13.start hd HV.out (Below.drew (Below.refl _ _))) (fun hHeld => ?_)
  refine wpAnyH_take (i := 0) (oi := ?oiC1x1x0) (v := ?vvC1x1x0) ?hiC1x1x0 (by kernel_rfl) (by kernel_rfl) (by kernel_rfl) ?hqC1x1x0 ?hyC1x1x0 hHeld ?_
  case hiC1x1x0 => simp only [List.getElem?_toArray, List.getElem?_cons_succ, List.getElem?_cons_zero]; rfl
  case hqC1x1x0 => exact fun _ _ _ h => h.elim
  case hyC1x1x0 => (refine Or.inl ⟨by rfl, ?_⟩; intro w' hSw; (try dsimp only at hSw); go_simp; (try (with_reducible rfl)))
  simp only [Act.put, List.setIfInBounds_toArray, List.set_cons_zero, List.set_cons_succ]
  refine wpAnyH_take (i := 2) (oi := ?oiC1x2x2) (v := ?vvC1x2x2) ?hiC1x2x2 (by kernel_rfl) (by kernel_rfl) (by kernel_rfl) ?hqC1x2x2 ?hyC1x2x2 hHeld ?_
  case hiC1x2x2 => simp only [List.getElem?_toArray, List.getElem?_cons_succ, List.getElem?_cons_zero]; rfl
  case hqC1x2x2 => exact fun _ _ _ h => h.elim
  case hyC1x2x2 => (refine Or.inl ⟨by rfl, ?_⟩; intro w' hSw; (try dsimp only at hSw); go_simp; (try (with_reducible rfl)))
  simp only [Act.put, List.setIfInBounds_toArray, List.set_cons_zero, List.set_cons_succ]
  refine wpAnyH_ready (rs := [1]) (by kernel_rfl) (by simp) ?_
  refine (AllReadyH.cons (o := ?oiC1x3x1) ?hiC1x3x1 (fun K hK => ?gC1x3x1) AllReadyH.nil)
  case hiC1x3x1 => simp only [List.getElem?_toArray, List.getElem?_cons_succ, List.getElem?_cons_zero]; rfl
  case gC1x3x1 =>
    go_simp
    refine (rUsesO_any op sub a b d k (.slice aa an ac) args s t _ hHeld.2.1.out).mono ?_
    rintro e w2 ⟨uv, rfl, hown, hlen, hb2⟩
    have HO : Hid (w2.ownsRow (w1.heap.size + 1) 3 1 uv (usesF op a b args).length (ints (usesF op a b args))) := hown
    clear hown hlen
    go_wp2_with fail
    refine hK.out _ _ (Lg13.keep hHeld hb2) (fun hN => ?_)
    clear hK K hHeld
    have hHeld := hN
    clear hN
    try simp only [Act.put, List.setIfInBounds_toArray, List.set_cons_zero, List.set_cons_succ]
    refine wpAnyH_ready (rs := [3]) (by kernel_rfl) (by simp) ?_
    refine (AllReadyH.cons (o := ?oiC1x4x3) ?hiC1x4x3 (fun K hK => ?gC1x4x3) AllReadyH.nil)
    case hiC1x4x3 => simp only [List.getElem?_toArray, List.getElem?_cons_succ, List.getElem?_cons_zero]; rfl
    case gC1x4x3 =>
      go_simp
      refine (rWrites_any op sub a b d k (.slice aa an ac) s t _).mono ?_
      rintro e w3 ⟨rfl, hb3⟩
      have HO2 : Hid (w3.ownsRow (w1.heap.size + 1) 3 1 uv (usesF op a b args).length (ints (usesF op a b args))) := ownsRow_blkL HO.out (fun b hb => hb3.block b (HO.out.lt b hb).2)
      go_wp2_with fail
      refine hK.out _ _ (Lg13.keep hHeld hb3) (fun hN => ?_)
      clear hK K hHeld
      have hHeld := hN
      clear hN
      try simp only [Act.put, List.setIfInBounds_toArray, List.set_cons_zero, List.set_cons_succ]
      refine wpAnyH_ready (rs := [4]) (by kernel_rfl) (by simp) ?_
      refine (AllReadyH.cons (o := ?oiC1x5x4) ?hiC1x5x4 (fun K hK => ?gC1x5x4) AllReadyH.nil)
      case hiC1x5x4 => simp only [List.getElem?_toArray, List.getElem?_cons_succ, List.getElem?_cons_zero]; rfl
      case gC1x5x4 =>
        have hw34 := hHeld.2.2.out.size
        have HO4 : Hid ((w3.alloc (.cells #[.int .i64 (writesF op d)] 3)).ownsRow (w1.heap.size + 1) 3 1 uv (usesF op a b args).length (ints (usesF op a b args))) := HO2.out.alloc _
        go_simp
        refine hK.out _ _ (Lg13.keep hHeld (bel_alloc (Below.refl _ _) _)) (fun hN => ?_)
        clear hK K hHeld
        have hHeld := hN
        clear hN
        try simp only [Act.put, List.setIfInBounds_toArray, List.set_cons_zero, List.set_cons_succ]
        refine wpAnyH_ready (rs := [5]) (by kernel_rfl) (by simp) ?_
        refine (AllReadyH.cons (o := ?oiC1x6x5) ?hiC1x6x5 (fun K hK => ?gC1x6x5) AllReadyH.nil)
        case hiC1x6x5 => simp only [List.getElem?_toArray, List.getElem?_cons_succ, List.getElem?_cons_zero]; rfl
        case gC1x6x5 =>
          have HB4 : Hid (Below w1.heap.size w1 (w3.alloc (.cells #[.int .i64 (writesF op d)] 3))) := hHeld.2.2.out
          have hsz4 := HB4.out.size
          refine step_append_any _ (by rfl) _ _ 22 (by rfl) (w1.heap.size + 1) 3 i0 (.int .i64 0) 1 8 Tryz.underlying22 HI.out.1 HI.out.2.1 HI.out.2.2.1 HI.out.2.2.2 rfl (by decide) uv (usesF op a b args).length (ints (usesF op a b args)) (by rfl) HO4.out (.slice (some ⟨w3.heap.size, 0, none⟩) 1 1) 1 [.int .i64 (writesF op d)] (by rfl) rfl (.inl ⟨_, _, rfl, one_cell w3 (writesF op d)⟩) (by intro u hu; simp at hu; subst hu; rfl) (by have := HLN.out; unfold maxLen; omega) (by have := HLN.out; omega) (by simp; have := hw34; omega) _ rfl ?_
          intro a' cap w5 hown5 hgrow5 _
          have HO5 : Hid (w5.ownsRow (w1.heap.size + 1) 3 1 (.slice a' ((usesF op a b args).length + 1) cap) ((usesF op a b args).length + 1) (ints (usesF op a b args ++ [writesF op d]))) := by
            show World.ownsRow _ _ _ _ _ _ _
            simpa [ints] using hown5
          have HB5 : Hid (Below w1.heap.size w1 w5) := HB4.out.grown hgrow5 hsz4 (fun k hk => by have := (HO4.out.lt k hk).1; omega)
          clear hown5 hgrow5
          refine hK.out _ _ (Lg13.start hd HV.out HB5.out) (fun hN => ?_)
          clear hK K hHeld
          have hHeld := hN
          clear hN
          try simp only [Act.put, List.setIfInBounds_toArray, List.set_cons_zero, List.set_cons_succ]
          refine wpAnyH_take (i := 6) (oi := ?oiC1x7x6) (v := ?vvC1x7x6) ?hiC1x7x6 (by kernel_rfl) (by kernel_rfl) (by kernel_rfl) ?hqC1x7x6 ?hyC1x7x6 hHeld ?_
          case hiC1x7x6 => simp only [List.getElem?_toArray, List.getElem?_cons_succ, List.getElem?_cons_zero]; rfl
          case hqC1x7x6 => exact fun _ _ _ h => h.elim
          case hyC1x7x6 => (refine Or.inl ⟨by rfl, ?_⟩; intro w' hSw; (try dsimp only at hSw); go_simp; (try (with_reducible rfl)))
          simp only [Act.put, List.setIfInBounds_toArray, List.set_cons_zero, List.set_cons_succ]
          refine wpAnyH_done (by kernel_rfl) ?_ _
          have HF : Lg13 D op sub a b d k aa an ac s t args w1 w5 := hHeld
          clear hHeld
          exact HK.out _ _ _ _ _ _ _ _ _ HO5.out HF
end Go.Proofs.YthieicjnenlpfaaGreatDoor

