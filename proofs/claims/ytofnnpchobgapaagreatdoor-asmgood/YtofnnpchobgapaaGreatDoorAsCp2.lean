/- The document's own machine code: a copy's regions that draw their order. -/
import Derived.Test.YtofnnpchobgapaaGreatDoorAsCp1
namespace Go.Proofs.YtofnnpchobgapaaGreatDoor
open Go.ChangeShapes Go.WideShapes Go.ChangeAt Go.RowKit
set_option linter.unusedSimpArgs false
set_option linter.unusedVariables false

/-- The region n of a code. -/
def acregionN (n : Nat) : Code → Option Code
  | .region k o b => if k = n then some (.region k o b) else none
  | .seq a b => match acregionN n a with
    | some c => some c
    | none => acregionN n b
  | .block _ c => acregionN n c
  | .scope c => acregionN n c
  | .loop c => acregionN n c
  | .cond _ a b => match acregionN n a with
    | some c => some c
    | none => acregionN n b
  | _ => none
noncomputable def acpR1 : Code := ((Tryz.f7.body.bind (acregionN 1)).getD .skip)
noncomputable def acpR5 : Code := ((Tryz.f7.body.bind (acregionN 5)).getD .skip)
theorem afC_one (r : AFn × Value) (h : ∃ a n c, r.2 = .slice a n c) : ∀ u ∈ ([.string r.1.name, r.2] : List Value), u.oneCell' = true := by
  obtain ⟨a, n, c, e⟩ := h
  intro u hu
  simp only [List.mem_cons, List.not_mem_nil, or_false] at hu
  rcases hu with rfl | rfl
  · rfl
  · rw [e]; rfl
/-- What the first region leaves: a box for the copy, its globals copied. -/
structure ACpR (w1 W : World) (QB : Nat) (gv : Value) (main params : Int) (globals : List Int) : Prop where
  bel : Below w1.heap.size w1 W
  box : W.heap[QB]? = some (.cells #[gv, .slice none 0 0, .int .i64 main, .int .i64 params] 25 (0, 0))
  gl : ILq (fun k => (w1.heap.size ≤ k ∧ k < W.heap.size) ∧ k ≠ QB) W gv globals
  ge : w1.heap.size ≤ QB
theorem ACpR.a {w1 w3 : World} {g ng : Nat} {gv : Value} {main params : Int} {globals : List Int} (hn : ng = globals.length) (h8 : ng * 8 ≤ 140737488355328) (hb : Below w1.heap.size w1 w3) (ho : w3.ownsRow g 3 1 gv ng (ints globals)) (hg : w1.heap.size ≤ g) :
    ACpR w1 (w3.alloc (.cells #[gv, .slice none 0 0, .int .i64 main, .int .i64 params] 25)) w3.heap.size gv main params globals := by
  subst hn
  have q := (IL.fresh (w' := w3) ho h8).keep (Kc.all ((Below.refl w3.heap.size w3).alloc (Nat.le_refl _) (.cells #[gv, .slice none 0 0, .int .i64 main, .int .i64 params] 25)))
  exact ⟨bel_alloc hb _, xheap_new w3 _, q.mono (fun k hk => ⟨⟨by omega, by rw [World.size_alloc]; omega⟩, by omega⟩), hb.size⟩
theorem ACpR.b {w1 w3 : World} {g ng QB : Nat} {gv : Value} {main params : Int} {globals : List Int} (hn : ng = globals.length) (h8 : ng * 8 ≤ 140737488355328) (hb : Below w1.heap.size w1 w3) (hq : w3.heap[QB]? = some (.cells #[.slice none 0 0, .slice none 0 0, .int .i64 0, .int .i64 0] 25 (0, 0))) (hge : w1.heap.size ≤ QB) (ho : w3.ownsRow g 3 1 gv ng (ints globals)) (hg : w1.heap.size ≤ g) :
    ACpR w1 ((((w3.setCell ⟨QB, 0, none⟩ gv).setCell ⟨QB, 1, none⟩ (.slice none 0 0)).setCell ⟨QB, 2, none⟩ (.int .i64 main)).setCell ⟨QB, 3, none⟩ (.int .i64 params)) QB gv main params globals := by
  subst hn
  have hne : ∀ b, gv.ownBlock = some b → b ≠ QB := fun b hbk e => by
    subst e
    obtain ⟨_, ⟨e0, _⟩ | ⟨g2, c2, cur, e0, _, hh, _⟩⟩ := ho
    · rw [e0] at hbk; cases hbk
    · rw [e0] at hbk
      cases hbk
      rw [hq] at hh
      injection hh with hh
      injection hh with _ hh
      exact absurd hh (by decide)
  have q : ILq (fun k => (w1.heap.size ≤ k ∧ k < w3.heap.size) ∧ k ≠ QB) w3 gv globals := ⟨IL.own ho h8, fun _ b o s n c e => by
    have hbk : gv.ownBlock = some b := by rw [e]; rfl
    have := xrow_lt ho hbk
    exact ⟨⟨by omega, this.1⟩, hne b hbk⟩⟩
  refine ⟨(((hb.setCell hge _).setCell hge _).setCell hge _).setCell hge _, ?_, ?_, hge⟩
  · rw [xheap_set_same (xheap_set_same (xheap_set_same (xheap_set_same hq _) _) _) _]; rfl
  · have k := ((((Kc.refl (fun k => (w1.heap.size ≤ k ∧ k < w3.heap.size) ∧ k ≠ QB) w3).set (q := ⟨QB, 0, none⟩) (fun h => h.2 rfl) gv).set (q := ⟨QB, 1, none⟩) (fun h => h.2 rfl) (.slice none 0 0)).set (q := ⟨QB, 2, none⟩) (fun h => h.2 rfl) (.int .i64 main)).set (q := ⟨QB, 3, none⟩) (fun h => h.2 rfl) (.int .i64 params)
    exact (q.keep k).mono (fun j hj => ⟨⟨hj.1.1, by simp only [xsize_set]; exact hj.1.2⟩, hj.2⟩)
set_option maxRecDepth 100000 in
set_option maxHeartbeats 8000000 in
theorem acp_r1 (PB ng gc : Nat) (ga : Option Addr) (main params : Int) (globals : List Int) (z0z z2z z3z z4z z5z z6z z7z z8z z9z z10z z11z z12z z13z z14z z15z z16z z17z z18z z19z z20z z21z z22z z23z z24z z25z z26z z27z z28z z29z z30z z31z z32z z33z z34z z35z z36z z37z z38z z39z z40z z41z : Value) (K : Act → World → Prop) (Q0 : Exit → Act → World → Prop) (w1 : World)
    (hQ0 : ∀ c (a : Act) (dd : Option Tmp) v x, Q0 (.panic c) (a.put dd v) x → Q0 (.panic c) a x)
    (p0 : w1.cell? ⟨PB, 0, none⟩ = some (.slice ga ng gc)) (p2 : w1.cell? ⟨PB, 2, none⟩ = some (.int .i64 main)) (p3 : w1.cell? ⟨PB, 3, none⟩ = some (.int .i64 params)) (HA : Hid (ng = globals.length)) (HIL : Hid (IL w1 (.slice ga ng gc) globals))
    (HK : Hid (∀ y5 y6 y7 y8 y9 y10 y11 y12 y13 QB a2 c2 W, ACpR w1 W QB (.slice a2 ng c2) main params globals → K ⟨#[z0z, .pointer (some ⟨PB, 0, none⟩), z2z, .pointer (some ⟨QB, 0, none⟩), z4z, y5, y6, y7, y8, y9, y10, y11, y12, y13, z14z, z15z, z16z, z17z, z18z, z19z, z20z, z21z, z22z, z23z, z24z, z25z, z26z, z27z, z28z, z29z, z30z, z31z, z32z, z33z, z34z, z35z, z36z, z37z, z38z, z39z, z40z, z41z], []⟩ W)) :
    Code.wp Tryz.prog acpR1 (Exit.then K Q0) ⟨#[z0z, .pointer (some ⟨PB, 0, none⟩), z2z, z3z, z4z, z5z, z6z, z7z, z8z, z9z, z10z, z11z, z12z, z13z, z14z, z15z, z16z, z17z, z18z, z19z, z20z, z21z, z22z, z23z, z24z, z25z, z26z, z27z, z28z, z29z, z30z, z31z, z32z, z33z, z34z, z35z, z36z, z37z, z38z, z39z, z40z, z41z], []⟩ w1 := by
  obtain ⟨i1, hi1, hz10, hz11, hz12⟩ : ∃ i0, Tryz.prog.info? 3 = some i0 ∧ i0.zero = some (.int .i64 0) ∧ i0.size = 1 ∧ i0.bytes = 8 := info_parts (by kernel_rfl)
  have HI1 : Hid (Tryz.prog.info? 3 = some i1 ∧ i1.zero = some (.int .i64 0) ∧ i1.size = 1 ∧ i1.bytes = 8) := ⟨hi1, hz10, hz11, hz12⟩
  clear hi1 hz10 hz11 hz12
  have HL : Hid ((ints globals).length = ng * 1) := by
    show (ints globals).length = ng * 1
    rw [HA.out]; simp [ints_length]
  have HM : Hid (ng ≤ maxLen ∧ ng * 8 ≤ 140737488355328) := by
    obtain ⟨_, _, e, h8, _⟩ := HIL.out
    rw [← HA.out] at h8
    exact ⟨by unfold maxLen; omega, h8⟩
  have HSRf : Hid (∀ W, Below w1.heap.size w1 W → Srow W (.slice ga ng gc) ng (ints globals)) := fun W hW => by
    have h := (HIL.out.keep hW).srow
    rw [← HA.out] at h
    exact h
  have HG0 : Hid ((w1.drew.alloc (.cells #[] 3)).heap[w1.heap.size]? = some (.cells #[] 3 (0, 0))) := xheap_new w1.drew _
  have HW0 : Hid (Below w1.heap.size w1 (w1.drew.alloc (.cells #[] 3))) := bel_alloc (Below.drew (Below.refl _ _)) _
  have HG09 : Hid (((w1.drew.alloc (.cells #[] 3)).alloc (.cells #[.slice none 0 0, .slice none 0 0, .int .i64 0, .int .i64 0] 25)).heap[w1.heap.size]? = some (.cells #[] 3 (0, 0))) := (Below.heap_alloc (w1.drew.alloc (.cells #[] 3)) _ _ (by simp)).trans HG0.out
  have HW09 : Hid (Below w1.heap.size w1 ((w1.drew.alloc (.cells #[] 3)).alloc (.cells #[.slice none 0 0, .slice none 0 0, .int .i64 0, .int .i64 0] 25))) := bel_alloc HW0.out _
  have HZ09 : Hid (∀ w3, World.grownBy ((w1.drew.alloc (.cells #[] 3)).alloc (.cells #[.slice none 0 0, .slice none 0 0, .int .i64 0, .int .i64 0] 25)) w3 (some w1.heap.size) → w3.heap[w1.heap.size + 1]? = some (.cells #[.slice none 0 0, .slice none 0 0, .int .i64 0, .int .i64 0] 25 (0, 0))) := fun w3 h => by
    rw [h.block _ (by simp) (by simp)]
    have h := xheap_new (w1.drew.alloc (.cells #[] 3)) (.cells #[.slice none 0 0, .slice none 0 0, .int .i64 0, .int .i64 0] 25)
    rw [World.size_alloc] at h
    exact h
  have HW9 : Hid (Below w1.heap.size w1 (w1.drew.alloc (.cells #[.slice none 0 0, .slice none 0 0, .int .i64 0, .int .i64 0] 25))) := bel_alloc (Below.drew (Below.refl _ _)) _
  have HW90 : Hid (Below w1.heap.size w1 ((w1.drew.alloc (.cells #[.slice none 0 0, .slice none 0 0, .int .i64 0, .int .i64 0] 25)).alloc (.cells #[] 3))) := bel_alloc HW9.out _
  have HG90 : Hid (((w1.drew.alloc (.cells #[.slice none 0 0, .slice none 0 0, .int .i64 0, .int .i64 0] 25)).alloc (.cells #[] 3)).heap[w1.heap.size + 1]? = some (.cells #[] 3 (0, 0))) := by
    have h := xheap_new (w1.drew.alloc (.cells #[.slice none 0 0, .slice none 0 0, .int .i64 0, .int .i64 0] 25)) (.cells #[] 3)
    rw [World.size_alloc] at h
    exact h
  have HZ90 : Hid (∀ w3, World.grownBy ((w1.drew.alloc (.cells #[.slice none 0 0, .slice none 0 0, .int .i64 0, .int .i64 0] 25)).alloc (.cells #[] 3)) w3 (some (w1.heap.size + 1)) → w3.heap[w1.heap.size]? = some (.cells #[.slice none 0 0, .slice none 0 0, .int .i64 0, .int .i64 0] 25 (0, 0))) := fun w3 h => by
    rw [h.block _ (by simp; omega) (by simp), Below.heap_alloc (w1.drew.alloc (.cells #[.slice none 0 0, .slice none 0 0, .int .i64 0, .int .i64 0] 25)) _ _ (by simp)]
    exact xheap_new w1.drew _
  conv => arg 2; whnf
  refine wp_region_held_drew (S := (fun w' => w'.cell? ⟨PB, 0, none⟩ = some (.slice ga ng gc) ∧ w'.cell? ⟨PB, 2, none⟩ = some (.int .i64 main) ∧ w'.cell? ⟨PB, 3, none⟩ = some (.int .i64 params))) (by kernel_rfl) (⟨p0, p2, p3⟩) (fun hHeld => ?_)
  refine wpAnyH_take (i := 1) (oi := ?oiC1x1x1) (v := ?vvC1x1x1) ?hiC1x1x1 (by kernel_rfl) (by kernel_rfl) (by kernel_rfl) ?hqC1x1x1 ?hyC1x1x1 hHeld ?_
  case hiC1x1x1 => simp only [List.getElem?_toArray, List.getElem?_cons_succ, List.getElem?_cons_zero]; rfl
  case hqC1x1x1 => exact fun _ _ _ h => hQ0 _ _ _ _ _ h
  case hyC1x1x1 => (refine Or.inl ⟨by rfl, ?_⟩; intro w' hSw; (try dsimp only at hSw); go_simp; (try (with_reducible rfl)))
  simp only [Act.put, List.setIfInBounds_toArray, List.set_cons_zero, List.set_cons_succ]
  refine wpAnyH_take (i := 2) (oi := ?oiC1x2x2) (v := ?vvC1x2x2) ?hiC1x2x2 (by kernel_rfl) (by kernel_rfl) (by kernel_rfl) ?hqC1x2x2 ?hyC1x2x2 hHeld ?_
  case hiC1x2x2 => simp only [List.getElem?_toArray, List.getElem?_cons_succ, List.getElem?_cons_zero]; rfl
  case hqC1x2x2 => exact fun _ _ _ h => hQ0 _ _ _ _ _ h
  case hyC1x2x2 => (refine Or.inl ⟨by rfl, ?_⟩; intro w' hSw; (try dsimp only at hSw); go_simp; (try (with_reducible rfl)))
  simp only [Act.put, List.setIfInBounds_toArray, List.set_cons_zero, List.set_cons_succ]
  refine wpAnyH_take (i := 4) (oi := ?oiC1x3x4) (v := ?vvC1x3x4) ?hiC1x3x4 (by kernel_rfl) (by kernel_rfl) (by kernel_rfl) ?hqC1x3x4 ?hyC1x3x4 hHeld ?_
  case hiC1x3x4 => simp only [List.getElem?_toArray, List.getElem?_cons_succ, List.getElem?_cons_zero]; rfl
  case hqC1x3x4 => exact fun _ _ _ h => hQ0 _ _ _ _ _ h
  case hyC1x3x4 => (refine Or.inl ⟨by rfl, ?_⟩; intro w' hSw; (try dsimp only at hSw); go_simp; (try (with_reducible rfl)))
  simp only [Act.put, List.setIfInBounds_toArray, List.set_cons_zero, List.set_cons_succ]
  refine wpAnyH_take (i := 5) (oi := ?oiC1x4x5) (v := ?vvC1x4x5) ?hiC1x4x5 (by kernel_rfl) (by kernel_rfl) (by kernel_rfl) ?hqC1x4x5 ?hyC1x4x5 hHeld ?_
  case hiC1x4x5 => simp only [List.getElem?_toArray, List.getElem?_cons_succ, List.getElem?_cons_zero]; rfl
  case hqC1x4x5 => exact fun _ _ _ h => hQ0 _ _ _ _ _ h
  case hyC1x4x5 => (refine Or.inl ⟨by rfl, ?_⟩; intro w' hSw; (try dsimp only at hSw); go_simp; (try (with_reducible rfl)))
  simp only [Act.put, List.setIfInBounds_toArray, List.set_cons_zero, List.set_cons_succ]
  refine wpAnyH_take (i := 6) (oi := ?oiC1x5x6) (v := ?vvC1x5x6) ?hiC1x5x6 (by kernel_rfl) (by kernel_rfl) (by kernel_rfl) ?hqC1x5x6 ?hyC1x5x6 hHeld ?_
  case hiC1x5x6 => simp only [List.getElem?_toArray, List.getElem?_cons_succ, List.getElem?_cons_zero]; rfl
  case hqC1x5x6 => exact fun _ _ _ h => hQ0 _ _ _ _ _ h
  case hyC1x5x6 => (refine Or.inl ⟨by rfl, ?_⟩; intro w' hSw; (try dsimp only at hSw); go_simp; (try (with_reducible rfl)))
  simp only [Act.put, List.setIfInBounds_toArray, List.set_cons_zero, List.set_cons_succ]
  refine wpAnyH_take (i := 7) (oi := ?oiC1x6x7) (v := ?vvC1x6x7) ?hiC1x6x7 (by kernel_rfl) (by kernel_rfl) (by kernel_rfl) ?hqC1x6x7 ?hyC1x6x7 hHeld ?_
  case hiC1x6x7 => simp only [List.getElem?_toArray, List.getElem?_cons_succ, List.getElem?_cons_zero]; rfl
  case hqC1x6x7 => exact fun _ _ _ h => hQ0 _ _ _ _ _ h
  case hyC1x6x7 => (refine Or.inl ⟨by rfl, ?_⟩; intro w' hSw; (try dsimp only at hSw); go_simp; (try (with_reducible rfl)))
  simp only [Act.put, List.setIfInBounds_toArray, List.set_cons_zero, List.set_cons_succ]
  refine wpAnyH_ready (rs := [0, 9]) (by kernel_rfl) (by simp) ?_
  refine (AllReadyH.cons (o := ?oiC1x7x0) ?hiC1x7x0 (fun K hK => ?gC1x7x0) (AllReadyH.cons (o := ?oiC1x7x9) ?hiC1x7x9 (fun K hK => ?gC1x7x9) AllReadyH.nil))
  case hiC1x7x0 => simp only [List.getElem?_toArray, List.getElem?_cons_succ, List.getElem?_cons_zero]; rfl
  case hiC1x7x9 => simp only [List.getElem?_toArray, List.getElem?_cons_succ, List.getElem?_cons_zero]; rfl
  case gC1x7x0 =>
    go_simp
    refine hK.out _ _ (⟨keep_alloc hHeld.1 _, keep_alloc hHeld.2.1 _, keep_alloc hHeld.2.2 _⟩) (fun hN => ?_)
    clear hK K hHeld
    have hHeld := hN
    clear hN
    try simp only [Act.put, List.setIfInBounds_toArray, List.set_cons_zero, List.set_cons_succ]
    refine wpAnyH_ready (rs := [3, 9]) (by kernel_rfl) (by simp) ?_
    refine (AllReadyH.cons (o := ?oiC1x8x3) ?hiC1x8x3 (fun K hK => ?gC1x8x3) (AllReadyH.cons (o := ?oiC1x8x9) ?hiC1x8x9 (fun K hK => ?gC1x8x9) AllReadyH.nil))
    case hiC1x8x3 => simp only [List.getElem?_toArray, List.getElem?_cons_succ, List.getElem?_cons_zero]; rfl
    case hiC1x8x9 => simp only [List.getElem?_toArray, List.getElem?_cons_succ, List.getElem?_cons_zero]; rfl
    case gC1x8x3 =>
      have HG : Hid ((w1.drew.alloc (.cells #[] 3)).heap[w1.heap.size]? = some (.cells #[] 3 (0, 0))) := HG0.out
      have HW : Hid (Below w1.heap.size w1 (w1.drew.alloc (.cells #[] 3))) := HW0.out
      have HSR : Hid (Srow (w1.drew.alloc (.cells #[] 3)) (.slice ga ng gc) ng (ints globals)) := HSRf.out (w1.drew.alloc (.cells #[] 3)) HW.out
      refine step_append_fresh _ (by rfl) _ _ 22 (by rfl) 3 i1 (.int .i64 0) 1 8 Tryz.underlying22 HI1.out.1 HI1.out.2.1 HI1.out.2.2.1 HI1.out.2.2.2 rfl (by decide) w1.heap.size (by rfl) HG.out (.slice ga ng gc) ng (ints globals) (by rfl) HL.out HSR.out (ints_one _) HM.out.1 HM.out.2 ?_
      intro a2 c2 w3 hown hgrow
      have HO3 : Hid (w3.ownsRow w1.heap.size 3 1 (.slice a2 ng c2) ng (ints globals)) := hown
      have HR3 : Hid ((w1.drew.alloc (.cells #[] 3)).grownBy w3 (some w1.heap.size)) := hgrow
      have HB3 : Hid (Below w1.heap.size w1 w3) := HW.out.trans ((grown_below hgrow (by first | (simp; done) | (simp; omega))).mono (by omega))
      clear hown hgrow
      refine hK.out _ _ (⟨keep_cell HB3.out p0, keep_cell HB3.out p2, keep_cell HB3.out p3⟩) (fun hN => ?_)
      clear hK K hHeld
      have hHeld := hN
      clear hN
      try simp only [Act.put, List.setIfInBounds_toArray, List.set_cons_zero, List.set_cons_succ]
      refine wpAnyH_take (i := 8) (oi := ?oiC1x9x8) (v := ?vvC1x9x8) ?hiC1x9x8 (by kernel_rfl) (by kernel_rfl) (by kernel_rfl) ?hqC1x9x8 ?hyC1x9x8 hHeld ?_
      case hiC1x9x8 => simp only [List.getElem?_toArray, List.getElem?_cons_succ, List.getElem?_cons_zero]; rfl
      case hqC1x9x8 => exact fun _ _ _ h => hQ0 _ _ _ _ _ h
      case hyC1x9x8 => (refine Or.inl ⟨by rfl, ?_⟩; intro w' hSw; (try dsimp only at hSw); go_simp; (try (with_reducible rfl)))
      simp only [Act.put, List.setIfInBounds_toArray, List.set_cons_zero, List.set_cons_succ]
      refine wpAnyH_ready (rs := [9]) (by kernel_rfl) (by simp) ?_
      refine (AllReadyH.cons (o := ?oiC1x10x9) ?hiC1x10x9 (fun K hK => ?gC1x10x9) AllReadyH.nil)
      case hiC1x10x9 => simp only [List.getElem?_toArray, List.getElem?_cons_succ, List.getElem?_cons_zero]; rfl
      case gC1x10x9 =>
        go_simp
        have HB4 : Hid (w3.heap.size = w3.heap.size) := rfl
        refine hK.out _ _ (⟨keep_alloc hHeld.1 _, keep_alloc hHeld.2.1 _, keep_alloc hHeld.2.2 _⟩) (fun hN => ?_)
        clear hK K hHeld
        have hHeld := hN
        clear hN
        try simp only [Act.put, List.setIfInBounds_toArray, List.set_cons_zero, List.set_cons_succ]
        refine wpAnyH_ready (rs := [10]) (by kernel_rfl) (by simp) ?_
        refine (AllReadyH.cons (o := ?oiC1x11x10) ?hiC1x11x10 (fun K hK => ?gC1x11x10) AllReadyH.nil)
        case hiC1x11x10 => simp only [List.getElem?_toArray, List.getElem?_cons_succ, List.getElem?_cons_zero]; rfl
        case gC1x11x10 =>
          have HE : Hid (ACpR w1 (w3.alloc (.cells #[.slice a2 ng c2, .slice none 0 0, .int .i64 main, .int .i64 params] 25)) w3.heap.size (.slice a2 ng c2) main params globals) := ACpR.a HA.out HM.out.2 HB3.out HO3.out (Nat.le_refl _)
          go_simp
          refine hK.out _ _ (⟨keep_cell HE.out.bel p0, keep_cell HE.out.bel p2, keep_cell HE.out.bel p3⟩) (fun hN => ?_)
          clear hK K hHeld
          have hHeld := hN
          clear hN
          try simp only [Act.put, List.setIfInBounds_toArray, List.set_cons_zero, List.set_cons_succ]
          refine wpAnyH_done (by kernel_rfl) ?_ _
          exact HK.out _ _ _ _ _ _ _ _ _ _ a2 c2 _ HE.out
    case gC1x8x9 =>
      go_simp
      refine hK.out _ _ (⟨keep_alloc hHeld.1 _, keep_alloc hHeld.2.1 _, keep_alloc hHeld.2.2 _⟩) (fun hN => ?_)
      clear hK K hHeld
      have hHeld := hN
      clear hN
      try simp only [Act.put, List.setIfInBounds_toArray, List.set_cons_zero, List.set_cons_succ]
      refine wpAnyH_ready (rs := [3]) (by kernel_rfl) (by simp) ?_
      refine (AllReadyH.cons (o := ?oiC1x12x3) ?hiC1x12x3 (fun K hK => ?gC1x12x3) AllReadyH.nil)
      case hiC1x12x3 => simp only [List.getElem?_toArray, List.getElem?_cons_succ, List.getElem?_cons_zero]; rfl
      case gC1x12x3 =>
        have HG : Hid (((w1.drew.alloc (.cells #[] 3)).alloc (.cells #[.slice none 0 0, .slice none 0 0, .int .i64 0, .int .i64 0] 25)).heap[w1.heap.size]? = some (.cells #[] 3 (0, 0))) := HG09.out
        have HW : Hid (Below w1.heap.size w1 ((w1.drew.alloc (.cells #[] 3)).alloc (.cells #[.slice none 0 0, .slice none 0 0, .int .i64 0, .int .i64 0] 25))) := HW09.out
        have HSR : Hid (Srow ((w1.drew.alloc (.cells #[] 3)).alloc (.cells #[.slice none 0 0, .slice none 0 0, .int .i64 0, .int .i64 0] 25)) (.slice ga ng gc) ng (ints globals)) := HSRf.out ((w1.drew.alloc (.cells #[] 3)).alloc (.cells #[.slice none 0 0, .slice none 0 0, .int .i64 0, .int .i64 0] 25)) HW.out
        refine step_append_fresh _ (by rfl) _ _ 22 (by rfl) 3 i1 (.int .i64 0) 1 8 Tryz.underlying22 HI1.out.1 HI1.out.2.1 HI1.out.2.2.1 HI1.out.2.2.2 rfl (by decide) w1.heap.size (by rfl) HG.out (.slice ga ng gc) ng (ints globals) (by rfl) HL.out HSR.out (ints_one _) HM.out.1 HM.out.2 ?_
        intro a2 c2 w3 hown hgrow
        have HO3 : Hid (w3.ownsRow w1.heap.size 3 1 (.slice a2 ng c2) ng (ints globals)) := hown
        have HR3 : Hid (((w1.drew.alloc (.cells #[] 3)).alloc (.cells #[.slice none 0 0, .slice none 0 0, .int .i64 0, .int .i64 0] 25)).grownBy w3 (some w1.heap.size)) := hgrow
        have HB3 : Hid (Below w1.heap.size w1 w3) := HW.out.trans ((grown_below hgrow (by first | (simp; done) | (simp; omega))).mono (by omega))
        clear hown hgrow
        have HQ3 : Hid (w3.heap[w1.heap.size + 1]? = some (.cells #[.slice none 0 0, .slice none 0 0, .int .i64 0, .int .i64 0] 25 (0, 0))) := HZ09.out _ HR3.out
        have q0 := xheap_cell (o := 0) HQ3.out rfl
        have q1 := xheap_cell (o := 1) HQ3.out rfl
        have q2 := xheap_cell (o := 2) HQ3.out rfl
        have q3 := xheap_cell (o := 3) HQ3.out rfl
        have u0 := xheap_frozen (o := 0) HQ3.out
        have u1 := xheap_frozen (o := 1) HQ3.out
        have u2 := xheap_frozen (o := 2) HQ3.out
        have u3 := xheap_frozen (o := 3) HQ3.out
        refine hK.out _ _ (⟨keep_cell HB3.out p0, keep_cell HB3.out p2, keep_cell HB3.out p3⟩) (fun hN => ?_)
        clear hK K hHeld
        have hHeld := hN
        clear hN
        try simp only [Act.put, List.setIfInBounds_toArray, List.set_cons_zero, List.set_cons_succ]
        refine wpAnyH_take (i := 8) (oi := ?oiC1x13x8) (v := ?vvC1x13x8) ?hiC1x13x8 (by kernel_rfl) (by kernel_rfl) (by kernel_rfl) ?hqC1x13x8 ?hyC1x13x8 hHeld ?_
        case hiC1x13x8 => simp only [List.getElem?_toArray, List.getElem?_cons_succ, List.getElem?_cons_zero]; rfl
        case hqC1x13x8 => exact fun _ _ _ h => hQ0 _ _ _ _ _ h
        case hyC1x13x8 => (refine Or.inl ⟨by rfl, ?_⟩; intro w' hSw; (try dsimp only at hSw); go_simp; (try (with_reducible rfl)))
        simp only [Act.put, List.setIfInBounds_toArray, List.set_cons_zero, List.set_cons_succ]
        refine wpAnyH_ready (rs := [10]) (by kernel_rfl) (by simp) ?_
        refine (AllReadyH.cons (o := ?oiC1x14x10) ?hiC1x14x10 (fun K hK => ?gC1x14x10) AllReadyH.nil)
        case hiC1x14x10 => simp only [List.getElem?_toArray, List.getElem?_cons_succ, List.getElem?_cons_zero]; rfl
        case gC1x14x10 =>
          have HE : Hid (ACpR w1 ((((w3.setCell ⟨(w1.heap.size + 1), 0, none⟩ (.slice a2 ng c2)).setCell ⟨(w1.heap.size + 1), 1, none⟩ (.slice none 0 0)).setCell ⟨(w1.heap.size + 1), 2, none⟩ (.int .i64 main)).setCell ⟨(w1.heap.size + 1), 3, none⟩ (.int .i64 params)) (w1.heap.size + 1) (.slice a2 ng c2) main params globals) := ACpR.b HA.out HM.out.2 HB3.out HQ3.out (by omega) HO3.out (by omega)
          go_simp
          refine hK.out _ _ (⟨keep_cell HE.out.bel p0, keep_cell HE.out.bel p2, keep_cell HE.out.bel p3⟩) (fun hN => ?_)
          clear hK K hHeld
          have hHeld := hN
          clear hN
          try simp only [Act.put, List.setIfInBounds_toArray, List.set_cons_zero, List.set_cons_succ]
          refine wpAnyH_done (by kernel_rfl) ?_ _
          exact HK.out _ _ _ _ _ _ _ _ _ _ a2 c2 _ HE.out
  case gC1x7x9 =>
    go_simp
    refine hK.out _ _ (⟨keep_alloc hHeld.1 _, keep_alloc hHeld.2.1 _, keep_alloc hHeld.2.2 _⟩) (fun hN => ?_)
    clear hK K hHeld
    have hHeld := hN
    clear hN
    try simp only [Act.put, List.setIfInBounds_toArray, List.set_cons_zero, List.set_cons_succ]
    refine wpAnyH_ready (rs := [0]) (by kernel_rfl) (by simp) ?_
    refine (AllReadyH.cons (o := ?oiC1x15x0) ?hiC1x15x0 (fun K hK => ?gC1x15x0) AllReadyH.nil)
    case hiC1x15x0 => simp only [List.getElem?_toArray, List.getElem?_cons_succ, List.getElem?_cons_zero]; rfl
    case gC1x15x0 =>
      go_simp
      refine hK.out _ _ (⟨keep_alloc hHeld.1 _, keep_alloc hHeld.2.1 _, keep_alloc hHeld.2.2 _⟩) (fun hN => ?_)
      clear hK K hHeld
      have hHeld := hN
      clear hN
      try simp only [Act.put, List.setIfInBounds_toArray, List.set_cons_zero, List.set_cons_succ]
      refine wpAnyH_ready (rs := [3]) (by kernel_rfl) (by simp) ?_
      refine (AllReadyH.cons (o := ?oiC1x16x3) ?hiC1x16x3 (fun K hK => ?gC1x16x3) AllReadyH.nil)
      case hiC1x16x3 => simp only [List.getElem?_toArray, List.getElem?_cons_succ, List.getElem?_cons_zero]; rfl
      case gC1x16x3 =>
        have HG : Hid (((w1.drew.alloc (.cells #[.slice none 0 0, .slice none 0 0, .int .i64 0, .int .i64 0] 25)).alloc (.cells #[] 3)).heap[(w1.heap.size + 1)]? = some (.cells #[] 3 (0, 0))) := HG90.out
        have HW : Hid (Below w1.heap.size w1 ((w1.drew.alloc (.cells #[.slice none 0 0, .slice none 0 0, .int .i64 0, .int .i64 0] 25)).alloc (.cells #[] 3))) := HW90.out
        have HSR : Hid (Srow ((w1.drew.alloc (.cells #[.slice none 0 0, .slice none 0 0, .int .i64 0, .int .i64 0] 25)).alloc (.cells #[] 3)) (.slice ga ng gc) ng (ints globals)) := HSRf.out ((w1.drew.alloc (.cells #[.slice none 0 0, .slice none 0 0, .int .i64 0, .int .i64 0] 25)).alloc (.cells #[] 3)) HW.out
        refine step_append_fresh _ (by rfl) _ _ 22 (by rfl) 3 i1 (.int .i64 0) 1 8 Tryz.underlying22 HI1.out.1 HI1.out.2.1 HI1.out.2.2.1 HI1.out.2.2.2 rfl (by decide) (w1.heap.size + 1) (by rfl) HG.out (.slice ga ng gc) ng (ints globals) (by rfl) HL.out HSR.out (ints_one _) HM.out.1 HM.out.2 ?_
        intro a2 c2 w3 hown hgrow
        have HO3 : Hid (w3.ownsRow (w1.heap.size + 1) 3 1 (.slice a2 ng c2) ng (ints globals)) := hown
        have HR3 : Hid (((w1.drew.alloc (.cells #[.slice none 0 0, .slice none 0 0, .int .i64 0, .int .i64 0] 25)).alloc (.cells #[] 3)).grownBy w3 (some (w1.heap.size + 1))) := hgrow
        have HB3 : Hid (Below w1.heap.size w1 w3) := HW.out.trans ((grown_below hgrow (by first | (simp; done) | (simp; omega))).mono (by omega))
        clear hown hgrow
        have HQ3 : Hid (w3.heap[w1.heap.size]? = some (.cells #[.slice none 0 0, .slice none 0 0, .int .i64 0, .int .i64 0] 25 (0, 0))) := HZ90.out _ HR3.out
        have q0 := xheap_cell (o := 0) HQ3.out rfl
        have q1 := xheap_cell (o := 1) HQ3.out rfl
        have q2 := xheap_cell (o := 2) HQ3.out rfl
        have q3 := xheap_cell (o := 3) HQ3.out rfl
        have u0 := xheap_frozen (o := 0) HQ3.out
        have u1 := xheap_frozen (o := 1) HQ3.out
        have u2 := xheap_frozen (o := 2) HQ3.out
        have u3 := xheap_frozen (o := 3) HQ3.out
        refine hK.out _ _ (⟨keep_cell HB3.out p0, keep_cell HB3.out p2, keep_cell HB3.out p3⟩) (fun hN => ?_)
        clear hK K hHeld
        have hHeld := hN
        clear hN
        try simp only [Act.put, List.setIfInBounds_toArray, List.set_cons_zero, List.set_cons_succ]
        refine wpAnyH_take (i := 8) (oi := ?oiC1x17x8) (v := ?vvC1x17x8) ?hiC1x17x8 (by kernel_rfl) (by kernel_rfl) (by kernel_rfl) ?hqC1x17x8 ?hyC1x17x8 hHeld ?_
        case hiC1x17x8 => simp only [List.getElem?_toArray, List.getElem?_cons_succ, List.getElem?_cons_zero]; rfl
        case hqC1x17x8 => exact fun _ _ _ h => hQ0 _ _ _ _ _ h
        case hyC1x17x8 => (refine Or.inl ⟨by rfl, ?_⟩; intro w' hSw; (try dsimp only at hSw); go_simp; (try (with_reducible rfl)))
        simp only [Act.put, List.setIfInBounds_toArray, List.set_cons_zero, List.set_cons_succ]
        refine wpAnyH_ready (rs := [10]) (by kernel_rfl) (by simp) ?_
        refine (AllReadyH.cons (o := ?oiC1x18x10) ?hiC1x18x10 (fun K hK => ?gC1x18x10) AllReadyH.nil)
        case hiC1x18x10 => simp only [List.getElem?_toArray, List.getElem?_cons_succ, List.getElem?_cons_zero]; rfl
        case gC1x18x10 =>
          have HE : Hid (ACpR w1 ((((w3.setCell ⟨w1.heap.size, 0, none⟩ (.slice a2 ng c2)).setCell ⟨w1.heap.size, 1, none⟩ (.slice none 0 0)).setCell ⟨w1.heap.size, 2, none⟩ (.int .i64 main)).setCell ⟨w1.heap.size, 3, none⟩ (.int .i64 params)) w1.heap.size (.slice a2 ng c2) main params globals) := ACpR.b HA.out HM.out.2 HB3.out HQ3.out (by omega) HO3.out (by omega)
          go_simp
          refine hK.out _ _ (⟨keep_cell HE.out.bel p0, keep_cell HE.out.bel p2, keep_cell HE.out.bel p3⟩) (fun hN => ?_)
          clear hK K hHeld
          have hHeld := hN
          clear hN
          try simp only [Act.put, List.setIfInBounds_toArray, List.set_cons_zero, List.set_cons_succ]
          refine wpAnyH_done (by kernel_rfl) ?_ _
          exact HK.out _ _ _ _ _ _ _ _ _ _ a2 c2 _ HE.out

set_option maxRecDepth 100000 in
set_option maxHeartbeats 8000000 in
theorem acp_r5 (PB QB fb fo nf fc i n cc vc : Nat) (va ca : Option Addr) (f : AFn) (gv : Value) (main params : Int) (globals : List Int) (rows : List (AFn × Value)) (z0z z2z z5z z6z z7z z8z z9z z10z z11z z12z z13z z14z z15z z16z z17z z18z z19z z20z z21z z22z z23z z24z z25z z26z z27z z28z z29z z30z z31z z32z z33z z34z z35z z36z z37z z38z z39z z40z z41z : Value) (Q0 : Exit → Act → World → Prop) (w0 w1 : World)
    (hQ0 : ∀ c (a : Act) (dd : Option Tmp) v x, Q0 (.panic c) (a.put dd v) x → Q0 (.panic c) a x)
    (p1 : w1.cell? ⟨PB, 1, none⟩ = some (.slice (some ⟨fb, fo, none⟩) nf fc)) (d0 : w1.cell? ⟨fb, fo + i * 2, none⟩ = some (.string f.name)) (d1 : w1.cell? ⟨fb, fo + i * 2 + 1, none⟩ = some (.slice ca n cc)) (j0 : (0 : Int) ≤ i) (j1 : (i : Int) < nf)
    (hPB : PB < w0.heap.size) (hfb : fb < w0.heap.size) (HA : Hid (n = f.code.length)) (HCD : Hid (ACodeAt w1 (.slice ca n cc) f.code)) (HNM : Hid (f.name.size ≤ 140737488355328)) (HRL : Hid (rows.length = i)) (hi1 : (i + 1) * 40 ≤ 140737488355328)
    (HI : Hid (ACpI w0 w1 QB gv (.slice va i vc) main params globals rows))
    (HK : Hid (∀ y21 y22 y23 y24 y25 y26 y27 y28 y29 y30 y31 y32 y33 y34 y35 y36 y37 y38 y39 y40 g2 cap2 cv W, ACpI w0 W QB gv (.slice (some ⟨g2, 0, none⟩) (i + 1) cap2) main params globals (rows ++ [(f, cv)]) → Q0 .normal ⟨#[z0z, .pointer (some ⟨PB, 0, none⟩), z2z, .pointer (some ⟨QB, 0, none⟩), .int .i64 (i : Int), z5z, z6z, z7z, z8z, z9z, z10z, z11z, z12z, z13z, z14z, z15z, z16z, z17z, z18z, z19z, z20z, y21, y22, y23, y24, y25, y26, y27, y28, y29, y30, y31, y32, y33, y34, y35, y36, y37, y38, y39, y40, z41z], []⟩ W)) :
    Code.wp Tryz.prog acpR5 Q0 ⟨#[z0z, .pointer (some ⟨PB, 0, none⟩), z2z, .pointer (some ⟨QB, 0, none⟩), .int .i64 (i : Int), z5z, z6z, z7z, z8z, z9z, z10z, z11z, z12z, z13z, z14z, z15z, z16z, z17z, z18z, z19z, z20z, z21z, z22z, z23z, z24z, z25z, z26z, z27z, z28z, z29z, z30z, z31z, z32z, z33z, z34z, z35z, z36z, z37z, z38z, z39z, z40z, z41z], []⟩ w1 := by
  obtain ⟨i2, hi2, hz20, hz21, hz22⟩ : ∃ i0, Tryz.prog.info? 46 = some i0 ∧ i0.zero = some (.agg #[.int .i64 0, .int .i64 0, .int .i64 0, .int .i64 0, .int .i64 0, .int .i64 0, .int .i64 0]) ∧ i0.size = 7 ∧ i0.bytes = 56 := info_parts (by kernel_rfl)
  have HI2 : Hid (Tryz.prog.info? 46 = some i2 ∧ i2.zero = some (.agg #[.int .i64 0, .int .i64 0, .int .i64 0, .int .i64 0, .int .i64 0, .int .i64 0, .int .i64 0]) ∧ i2.size = 7 ∧ i2.bytes = 56) := ⟨hi2, hz20, hz21, hz22⟩
  clear hi2 hz20 hz21 hz22
  obtain ⟨i3, hi3, hz30, hz31, hz32⟩ : ∃ i0, Tryz.prog.info? 44 = some i0 ∧ i0.zero = some (.agg #[.string ⟨#[]⟩, .slice none 0 0]) ∧ i0.size = 2 ∧ i0.bytes = 40 := info_parts (by kernel_rfl)
  have HI3 : Hid (Tryz.prog.info? 44 = some i3 ∧ i3.zero = some (.agg #[.string ⟨#[]⟩, .slice none 0 0]) ∧ i3.size = 2 ∧ i3.bytes = 40) := ⟨hi3, hz30, hz31, hz32⟩
  clear hi3 hz30 hz31 hz32
  have q1 := xheap_cell (o := 1) HI.out.box rfl
  have hlq : QB < w1.heap.size := block_lt_of_cell q1
  have HNP : PB ≠ QB := by have := HI.out.ge; omega
  have HNF : fb ≠ QB := by have := HI.out.ge; omega
  have hS : ∀ W, Below w1.heap.size w1 W → (fun w' => w'.cell? ⟨PB, 1, none⟩ = some (.slice (some ⟨fb, fo, none⟩) nf fc) ∧ w'.cell? ⟨fb, fo + i * 2, none⟩ = some (.string f.name) ∧ w'.cell? ⟨fb, fo + i * 2 + 1, none⟩ = some (.slice ca n cc)) W := fun W hW => ⟨keep_cell hW p1, keep_cell hW d0, keep_cell hW d1⟩
  have x1 : ∀ o, (w1.drew.alloc o).cell? ⟨QB, 1, none⟩ = some (.slice va i vc) := fun o => keep_alloc (w := w1.drew) q1 o
  have x1' : ∀ o, (w1.alloc o).cell? ⟨QB, 1, none⟩ = some (.slice va i vc) := fun o => keep_alloc (w := w1) q1 o
  have HG : Hid ((w1.drew.alloc (.cells #[] 46)).heap[w1.heap.size]? = some (.cells #[] 46 (0, 0))) := xheap_new w1.drew _
  have HL : Hid ((acC f.code).length = n * 7) := by
    show (acC f.code).length = n * 7
    rw [HA.out, acC_len]
  have HSR : Hid (Srow (w1.drew.alloc (.cells #[] 46)) (.slice ca n cc) n (acC f.code)) := by
    have h := (HCD.out.keep (bel_alloc (Below.drew (Below.refl w1.heap.size w1)) (.cells #[] 46))).srow
    rw [← HA.out] at h
    exact h
  have HM : Hid (n ≤ maxLen ∧ n * 56 ≤ 140737488355328) := by
    obtain ⟨_, _, e, h8, _⟩ := HCD.out
    rw [← HA.out] at h8
    exact ⟨by unfold maxLen; omega, h8⟩
  have HM3 : Hid (i + 1 ≤ maxLen ∧ (i + 1) * 40 ≤ 140737488355328) := ⟨by unfold maxLen; omega, hi1⟩
  have HOf : Hid (∀ w3 o, Below w1.heap.size w1 w3 → (w3.alloc o).ownsRow w0.heap.size 44 2 (.slice va i vc) i (rows.flatMap afC)) := fun w3 o hb => by
    have h := HI.out.own
    rw [HRL.out] at h
    exact xowns_of_heap h (fun b hbk => (Below.heap_alloc w3 _ b (Nat.lt_of_lt_of_le (xrow_lt h hbk).1 hb.size)).trans (hb.block b (xrow_lt h hbk).1))
  have HStep : Hid (∀ a2 c2 w3 g2 cap2 w5 o, Below w1.heap.size w1 w3 → w3.ownsRow w1.heap.size 46 7 (.slice a2 n c2) n (acC f.code) → w5.ownsRow w0.heap.size 44 2 (.slice (some ⟨g2, 0, none⟩) (i + 1) cap2) (i + 1) (rows.flatMap afC ++ [.string f.name, .slice a2 n c2]) → (w3.alloc o).grownBy w5 (Value.slice va i vc).ownBlock → ((Value.slice va i vc).ownBlock = some g2 ∨ g2 = w3.heap.size + 1) →
      ACpI w0 (w5.setCell ⟨QB, 1, none⟩ (.slice (some ⟨g2, 0, none⟩) (i + 1) cap2)) QB gv (.slice (some ⟨g2, 0, none⟩) (i + 1) cap2) main params globals (rows ++ [(f, .slice a2 n c2)])) := fun a2 c2 w3 g2 cap2 w5 o hb ho hown hgrow hat => by
    have hq := ho
    rw [HA.out] at hq
    have hcode : ACodeQ (fun k => w1.heap.size ≤ k ∧ k < w3.heap.size) w3 (.slice a2 n c2) f.code := by
      have h := ACodeAt.fresh hq (by rw [← HA.out]; exact HM.out.2)
      rw [← HA.out] at h
      exact h
    have hown' := hown
    rw [← HRL.out] at hown'
    have := ACpI.step HI.out hb hcode HNM.out hown' hgrow hat
    rw [HRL.out] at this
    exact this
  have HOld : Hid (∀ w3 w5 o, Below w1.heap.size w1 w3 → (w3.alloc o).grownBy w5 (Value.slice va i vc).ownBlock → w5.heap[QB]? = some (.cells #[gv, .slice va i vc, .int .i64 main, .int .i64 params] 25 (0, 0)) ∧ w5.cell? ⟨PB, 1, none⟩ = some (.slice (some ⟨fb, fo, none⟩) nf fc) ∧ w5.cell? ⟨fb, fo + i * 2, none⟩ = some (.string f.name) ∧ w5.cell? ⟨fb, fo + i * 2 + 1, none⟩ = some (.slice ca n cc)) := fun w3 w5 o hb hg => by
    have hs := hb.size
    have hw := HI.out.bel.size
    have hold : ∀ k, k < w1.heap.size → (Value.slice va i vc).ownBlock ≠ some k → w5.heap[k]? = w1.heap[k]? := fun k h1 h2 => by
      rw [hg.block k (by rw [World.size_alloc]; omega) (Ne.symm h2), Below.heap_alloc w3 o k (by omega)]
      exact hb.block k h1
    have hlow : ∀ k, k < w0.heap.size → (Value.slice va i vc).ownBlock ≠ some k := fun k hk e => by have := (xrow_lt HI.out.own e).2; omega
    refine ⟨(hold QB hlq HI.out.ne).trans HI.out.box, ?_, ?_, ?_⟩
    · rw [World.cell?_of_block (hold PB (by omega) (hlow PB hPB))]; exact p1
    · rw [World.cell?_of_block (hold fb (by omega) (hlow fb hfb))]; exact d0
    · rw [World.cell?_of_block (hold fb (by omega) (hlow fb hfb))]; exact d1
  conv => arg 2; whnf
  refine wp_region_held_drew (S := (fun w' => w'.cell? ⟨PB, 1, none⟩ = some (.slice (some ⟨fb, fo, none⟩) nf fc) ∧ w'.cell? ⟨fb, fo + i * 2, none⟩ = some (.string f.name) ∧ w'.cell? ⟨fb, fo + i * 2 + 1, none⟩ = some (.slice ca n cc))) (by kernel_rfl) (hS _ (Below.drew (Below.refl _ _))) (fun hHeld => ?_)
  refine wpAnyH_take (i := 0) (oi := ?oiC2x1x0) (v := ?vvC2x1x0) ?hiC2x1x0 (by kernel_rfl) (by kernel_rfl) (by kernel_rfl) ?hqC2x1x0 ?hyC2x1x0 hHeld ?_
  case hiC2x1x0 => simp only [List.getElem?_toArray, List.getElem?_cons_succ, List.getElem?_cons_zero]; rfl
  case hqC2x1x0 => exact fun _ _ _ h => hQ0 _ _ _ _ _ h
  case hyC2x1x0 => (refine Or.inl ⟨by rfl, ?_⟩; intro w' hSw; (try dsimp only at hSw); go_simp; (try (with_reducible rfl)))
  simp only [Act.put, List.setIfInBounds_toArray, List.set_cons_zero, List.set_cons_succ]
  refine wpAnyH_take (i := 2) (oi := ?oiC2x2x2) (v := ?vvC2x2x2) ?hiC2x2x2 (by kernel_rfl) (by kernel_rfl) (by kernel_rfl) ?hqC2x2x2 ?hyC2x2x2 hHeld ?_
  case hiC2x2x2 => simp only [List.getElem?_toArray, List.getElem?_cons_succ, List.getElem?_cons_zero]; rfl
  case hqC2x2x2 => exact fun _ _ _ h => hQ0 _ _ _ _ _ h
  case hyC2x2x2 => (refine Or.inl ⟨by rfl, ?_⟩; intro w' hSw; (try dsimp only at hSw); go_simp; (try (with_reducible rfl)))
  simp only [Act.put, List.setIfInBounds_toArray, List.set_cons_zero, List.set_cons_succ]
  refine wpAnyH_take (i := 3) (oi := ?oiC2x3x3) (v := ?vvC2x3x3) ?hiC2x3x3 (by kernel_rfl) (by kernel_rfl) (by kernel_rfl) ?hqC2x3x3 ?hyC2x3x3 hHeld ?_
  case hiC2x3x3 => simp only [List.getElem?_toArray, List.getElem?_cons_succ, List.getElem?_cons_zero]; rfl
  case hqC2x3x3 => exact fun _ _ _ h => hQ0 _ _ _ _ _ h
  case hyC2x3x3 => (refine Or.inl ⟨by rfl, ?_⟩; intro w' hSw; (try dsimp only at hSw); go_simp; (try (with_reducible rfl)))
  simp only [Act.put, List.setIfInBounds_toArray, List.set_cons_zero, List.set_cons_succ]
  refine wpAnyH_take (i := 4) (oi := ?oiC2x4x4) (v := ?vvC2x4x4) ?hiC2x4x4 (by kernel_rfl) (by kernel_rfl) (by kernel_rfl) ?hqC2x4x4 ?hyC2x4x4 hHeld ?_
  case hiC2x4x4 => simp only [List.getElem?_toArray, List.getElem?_cons_succ, List.getElem?_cons_zero]; rfl
  case hqC2x4x4 => exact fun _ _ _ h => hQ0 _ _ _ _ _ h
  case hyC2x4x4 => (refine Or.inl ⟨by rfl, ?_⟩; intro w' hSw; (try dsimp only at hSw); go_simp; (try (with_reducible rfl)))
  simp only [Act.put, List.setIfInBounds_toArray, List.set_cons_zero, List.set_cons_succ]
  refine wpAnyH_take (i := 5) (oi := ?oiC2x5x5) (v := ?vvC2x5x5) ?hiC2x5x5 (by kernel_rfl) (by kernel_rfl) (by kernel_rfl) ?hqC2x5x5 ?hyC2x5x5 hHeld ?_
  case hiC2x5x5 => simp only [List.getElem?_toArray, List.getElem?_cons_succ, List.getElem?_cons_zero]; rfl
  case hqC2x5x5 => exact fun _ _ _ h => hQ0 _ _ _ _ _ h
  case hyC2x5x5 => (refine Or.inl ⟨by rfl, ?_⟩; intro w' hSw; (try dsimp only at hSw); go_simp; (try (with_reducible rfl)))
  simp only [Act.put, List.setIfInBounds_toArray, List.set_cons_zero, List.set_cons_succ]
  refine wpAnyH_take (i := 6) (oi := ?oiC2x6x6) (v := ?vvC2x6x6) ?hiC2x6x6 (by kernel_rfl) (by kernel_rfl) (by kernel_rfl) ?hqC2x6x6 ?hyC2x6x6 hHeld ?_
  case hiC2x6x6 => simp only [List.getElem?_toArray, List.getElem?_cons_succ, List.getElem?_cons_zero]; rfl
  case hqC2x6x6 => exact fun _ _ _ h => hQ0 _ _ _ _ _ h
  case hyC2x6x6 => (refine Or.inl ⟨by rfl, ?_⟩; intro w' hSw; (try dsimp only at hSw); go_simp; (try (with_reducible rfl)))
  simp only [Act.put, List.setIfInBounds_toArray, List.set_cons_zero, List.set_cons_succ]
  refine wpAnyH_take (i := 7) (oi := ?oiC2x7x7) (v := ?vvC2x7x7) ?hiC2x7x7 (by kernel_rfl) (by kernel_rfl) (by kernel_rfl) ?hqC2x7x7 ?hyC2x7x7 hHeld ?_
  case hiC2x7x7 => simp only [List.getElem?_toArray, List.getElem?_cons_succ, List.getElem?_cons_zero]; rfl
  case hqC2x7x7 => exact fun _ _ _ h => hQ0 _ _ _ _ _ h
  case hyC2x7x7 => (refine Or.inl ⟨by rfl, ?_⟩; intro w' hSw; (try dsimp only at hSw); go_simp; (try (with_reducible rfl)))
  simp only [Act.put, List.setIfInBounds_toArray, List.set_cons_zero, List.set_cons_succ]
  refine wpAnyH_take (i := 9) (oi := ?oiC2x8x9) (v := ?vvC2x8x9) ?hiC2x8x9 (by kernel_rfl) (by kernel_rfl) (by kernel_rfl) ?hqC2x8x9 ?hyC2x8x9 hHeld ?_
  case hiC2x8x9 => simp only [List.getElem?_toArray, List.getElem?_cons_succ, List.getElem?_cons_zero]; rfl
  case hqC2x8x9 => exact fun _ _ _ h => hQ0 _ _ _ _ _ h
  case hyC2x8x9 => (refine Or.inl ⟨by rfl, ?_⟩; intro w' hSw; (try dsimp only at hSw); go_simp; (try (with_reducible rfl)))
  simp only [Act.put, List.setIfInBounds_toArray, List.set_cons_zero, List.set_cons_succ]
  refine wpAnyH_take (i := 10) (oi := ?oiC2x9x10) (v := ?vvC2x9x10) ?hiC2x9x10 (by kernel_rfl) (by kernel_rfl) (by kernel_rfl) ?hqC2x9x10 ?hyC2x9x10 hHeld ?_
  case hiC2x9x10 => simp only [List.getElem?_toArray, List.getElem?_cons_succ, List.getElem?_cons_zero]; rfl
  case hqC2x9x10 => exact fun _ _ _ h => hQ0 _ _ _ _ _ h
  case hyC2x9x10 => (refine Or.inl ⟨by rfl, ?_⟩; intro w' hSw; (try dsimp only at hSw); go_simp; (try (with_reducible rfl)))
  simp only [Act.put, List.setIfInBounds_toArray, List.set_cons_zero, List.set_cons_succ]
  refine wpAnyH_take (i := 11) (oi := ?oiC2x10x11) (v := ?vvC2x10x11) ?hiC2x10x11 (by kernel_rfl) (by kernel_rfl) (by kernel_rfl) ?hqC2x10x11 ?hyC2x10x11 hHeld ?_
  case hiC2x10x11 => simp only [List.getElem?_toArray, List.getElem?_cons_succ, List.getElem?_cons_zero]; rfl
  case hqC2x10x11 => exact fun _ _ _ h => hQ0 _ _ _ _ _ h
  case hyC2x10x11 => (refine Or.inl ⟨by rfl, ?_⟩; intro w' hSw; (try dsimp only at hSw); go_simp; (try (with_reducible rfl)))
  simp only [Act.put, List.setIfInBounds_toArray, List.set_cons_zero, List.set_cons_succ]
  refine wpAnyH_take (i := 12) (oi := ?oiC2x11x12) (v := ?vvC2x11x12) ?hiC2x11x12 (by kernel_rfl) (by kernel_rfl) (by kernel_rfl) ?hqC2x11x12 ?hyC2x11x12 hHeld ?_
  case hiC2x11x12 => simp only [List.getElem?_toArray, List.getElem?_cons_succ, List.getElem?_cons_zero]; rfl
  case hqC2x11x12 => exact fun _ _ _ h => hQ0 _ _ _ _ _ h
  case hyC2x11x12 => (refine Or.inl ⟨by rfl, ?_⟩; intro w' hSw; (try dsimp only at hSw); go_simp; (try (with_reducible rfl)))
  simp only [Act.put, List.setIfInBounds_toArray, List.set_cons_zero, List.set_cons_succ]
  refine wpAnyH_take (i := 13) (oi := ?oiC2x12x13) (v := ?vvC2x12x13) ?hiC2x12x13 (by kernel_rfl) (by kernel_rfl) (by kernel_rfl) ?hqC2x12x13 ?hyC2x12x13 hHeld ?_
  case hiC2x12x13 => simp only [List.getElem?_toArray, List.getElem?_cons_succ, List.getElem?_cons_zero]; rfl
  case hqC2x12x13 => exact fun _ _ _ h => hQ0 _ _ _ _ _ h
  case hyC2x12x13 => (refine Or.inl ⟨by rfl, ?_⟩; intro w' hSw; (try dsimp only at hSw); go_simp; (try (with_reducible rfl)))
  simp only [Act.put, List.setIfInBounds_toArray, List.set_cons_zero, List.set_cons_succ]
  refine wpAnyH_take (i := 14) (oi := ?oiC2x13x14) (v := ?vvC2x13x14) ?hiC2x13x14 (by kernel_rfl) (by kernel_rfl) (by kernel_rfl) ?hqC2x13x14 ?hyC2x13x14 hHeld ?_
  case hiC2x13x14 => simp only [List.getElem?_toArray, List.getElem?_cons_succ, List.getElem?_cons_zero]; rfl
  case hqC2x13x14 => exact fun _ _ _ h => hQ0 _ _ _ _ _ h
  case hyC2x13x14 => (refine Or.inl ⟨by rfl, ?_⟩; intro w' hSw; (try dsimp only at hSw); go_simp; (try (with_reducible rfl)))
  simp only [Act.put, List.setIfInBounds_toArray, List.set_cons_zero, List.set_cons_succ]
  refine wpAnyH_ready (rs := [1, 8]) (by kernel_rfl) (by simp) ?_
  refine (AllReadyH.cons (o := ?oiC2x14x1) ?hiC2x14x1 (fun K hK => ?gC2x14x1) (AllReadyH.cons (o := ?oiC2x14x8) ?hiC2x14x8 (fun K hK => ?gC2x14x8) AllReadyH.nil))
  case hiC2x14x1 => simp only [List.getElem?_toArray, List.getElem?_cons_succ, List.getElem?_cons_zero]; rfl
  case hiC2x14x8 => simp only [List.getElem?_toArray, List.getElem?_cons_succ, List.getElem?_cons_zero]; rfl
  case gC2x14x1 =>
    go_simp
    refine hK.out _ _ (hHeld) (fun hN => ?_)
    clear hK K hHeld
    have hHeld := hN
    clear hN
    try simp only [Act.put, List.setIfInBounds_toArray, List.set_cons_zero, List.set_cons_succ]
    refine wpAnyH_ready (rs := [8]) (by kernel_rfl) (by simp) ?_
    refine (AllReadyH.cons (o := ?oiC2x15x8) ?hiC2x15x8 (fun K hK => ?gC2x15x8) AllReadyH.nil)
    case hiC2x15x8 => simp only [List.getElem?_toArray, List.getElem?_cons_succ, List.getElem?_cons_zero]; rfl
    case gC2x15x8 =>
      go_simp
      refine hK.out _ _ (hS _ (bel_alloc (Below.drew (Below.refl _ _)) _)) (fun hN => ?_)
      clear hK K hHeld
      have hHeld := hN
      clear hN
      try simp only [Act.put, List.setIfInBounds_toArray, List.set_cons_zero, List.set_cons_succ]
      refine wpAnyH_ready (rs := [15]) (by kernel_rfl) (by simp) ?_
      refine (AllReadyH.cons (o := ?oiC2x16x15) ?hiC2x16x15 (fun K hK => ?gC2x16x15) AllReadyH.nil)
      case hiC2x16x15 => simp only [List.getElem?_toArray, List.getElem?_cons_succ, List.getElem?_cons_zero]; rfl
      case gC2x16x15 =>
        refine step_append_fresh _ (by rfl) _ _ 42 (by rfl) 46 i2 (.agg #[.int .i64 0, .int .i64 0, .int .i64 0, .int .i64 0, .int .i64 0, .int .i64 0, .int .i64 0]) 7 56 Tryz.underlying42 HI2.out.1 HI2.out.2.1 HI2.out.2.2.1 HI2.out.2.2.2 rfl (by decide) w1.heap.size (by rfl) HG.out (.slice ca n cc) n (acC f.code) (by rfl) HL.out HSR.out (acC_one _) HM.out.1 HM.out.2 ?_
        intro a2 c2 w3 hown hbel
        have HQ3 : Hid (w3.ownsRow w1.heap.size 46 7 (.slice a2 n c2) n (acC f.code)) := hown
        have HB3 : Hid (Below w1.heap.size w1 w3) := (bel_alloc (Below.drew (Below.refl w1.heap.size w1)) _).trans (grown_below hbel (by simp))
        have y1 := keep_cell HB3.out q1
        have hlq3 : QB < w3.heap.size := block_lt_of_cell y1
        have HO3 : Hid ((w3.alloc (.cells ([.string f.name, .slice a2 n c2] : List Value).toArray 44)).ownsRow w0.heap.size 44 2 (.slice va i vc) i (rows.flatMap afC)) := HOf.out w3 _ HB3.out
        clear hown hbel
        refine hK.out _ _ (hS _ HB3.out) (fun hN => ?_)
        clear hK K hHeld
        have hHeld := hN
        clear hN
        try simp only [Act.put, List.setIfInBounds_toArray, List.set_cons_zero, List.set_cons_succ]
        refine wpAnyH_take (i := 16) (oi := ?oiC2x17x16) (v := ?vvC2x17x16) ?hiC2x17x16 (by kernel_rfl) (by kernel_rfl) (by kernel_rfl) ?hqC2x17x16 ?hyC2x17x16 hHeld ?_
        case hiC2x17x16 => simp only [List.getElem?_toArray, List.getElem?_cons_succ, List.getElem?_cons_zero]; rfl
        case hqC2x17x16 => exact fun _ _ _ h => hQ0 _ _ _ _ _ h
        case hyC2x17x16 => (refine Or.inl ⟨by rfl, ?_⟩; intro w' hSw; (try dsimp only at hSw); go_simp; (try (with_reducible rfl)))
        simp only [Act.put, List.setIfInBounds_toArray, List.set_cons_zero, List.set_cons_succ]
        refine wpAnyH_ready (rs := [17]) (by kernel_rfl) (by simp) ?_
        refine (AllReadyH.cons (o := ?oiC2x18x17) ?hiC2x18x17 (fun K hK => ?gC2x18x17) AllReadyH.nil)
        case hiC2x18x17 => simp only [List.getElem?_toArray, List.getElem?_cons_succ, List.getElem?_cons_zero]; rfl
        case gC2x18x17 =>
          go_simp
          refine hK.out _ _ (hS _ (bel_alloc HB3.out _)) (fun hN => ?_)
          clear hK K hHeld
          have hHeld := hN
          clear hN
          try simp only [Act.put, List.setIfInBounds_toArray, List.set_cons_zero, List.set_cons_succ]
          refine wpAnyH_ready (rs := [18]) (by kernel_rfl) (by simp) ?_
          refine (AllReadyH.cons (o := ?oiC2x19x18) ?hiC2x19x18 (fun K hK => ?gC2x19x18) AllReadyH.nil)
          case hiC2x19x18 => simp only [List.getElem?_toArray, List.getElem?_cons_succ, List.getElem?_cons_zero]; rfl
          case gC2x19x18 =>
            refine step_append_lies _ (by rfl) _ _ 23 (by rfl) w0.heap.size 44 i3 (.agg #[.string ⟨#[]⟩, .slice none 0 0]) 2 40 Tryz.underlying23 HI3.out.1 HI3.out.2.1 HI3.out.2.2.1 HI3.out.2.2.2 rfl (by decide) (.slice va i vc) i (rows.flatMap afC) (by rfl) HO3.out ⟨w3.heap.size, 0, none⟩ 1 1 [.string f.name, .slice a2 n c2] (by rfl) (by rfl) (World.news_of_block (xheap_new w3 _)) (afC_one (f, .slice a2 n c2) ⟨_, _, _, rfl⟩) (by decide) HM3.out.1 HM3.out.2 (by rw [World.size_alloc]; have := HB3.out.size; have := HI.out.bel.size; omega) (w3.heap.size + 1) (by simp) ?_
            intro g2 cap2 w5 hown hgrow hat hlt
            have HST : Hid (ACpI w0 (w5.setCell ⟨QB, 1, none⟩ (.slice (some ⟨g2, 0, none⟩) (i + 1) cap2)) QB gv (.slice (some ⟨g2, 0, none⟩) (i + 1) cap2) main params globals (rows ++ [(f, .slice a2 n c2)])) := HStep.out a2 c2 w3 g2 cap2 w5 _ HB3.out HQ3.out hown hgrow hat
            have HX : Hid (w5.heap[QB]? = some (.cells #[gv, .slice va i vc, .int .i64 main, .int .i64 params] 25 (0, 0)) ∧ w5.cell? ⟨PB, 1, none⟩ = some (.slice (some ⟨fb, fo, none⟩) nf fc) ∧ w5.cell? ⟨fb, fo + i * 2, none⟩ = some (.string f.name) ∧ w5.cell? ⟨fb, fo + i * 2 + 1, none⟩ = some (.slice ca n cc)) := HOld.out w3 w5 _ HB3.out hgrow
            have y5 := xheap_cell (o := 1) HX.out.1 rfl
            have z5 := xheap_frozen (o := 1) HX.out.1
            clear hown hgrow hat hlt
            refine hK.out _ _ (HX.out.2) (fun hN => ?_)
            clear hK K hHeld
            have hHeld := hN
            clear hN
            try simp only [Act.put, List.setIfInBounds_toArray, List.set_cons_zero, List.set_cons_succ]
            refine wpAnyH_take (i := 19) (oi := ?oiC2x20x19) (v := ?vvC2x20x19) ?hiC2x20x19 (by kernel_rfl) (by kernel_rfl) (by kernel_rfl) ?hqC2x20x19 ?hyC2x20x19 hHeld ?_
            case hiC2x20x19 => simp only [List.getElem?_toArray, List.getElem?_cons_succ, List.getElem?_cons_zero]; rfl
            case hqC2x20x19 => exact fun _ _ _ h => hQ0 _ _ _ _ _ h
            case hyC2x20x19 => (refine Or.inl ⟨by rfl, ?_⟩; intro w' hSw; (try dsimp only at hSw); go_simp; (try (with_reducible rfl)))
            simp only [Act.put, List.setIfInBounds_toArray, List.set_cons_zero, List.set_cons_succ]
            refine wpAnyH_ready (rs := [20]) (by kernel_rfl) (by simp) ?_
            refine (AllReadyH.cons (o := ?oiC2x21x20) ?hiC2x21x20 (fun K hK => ?gC2x21x20) AllReadyH.nil)
            case hiC2x21x20 => simp only [List.getElem?_toArray, List.getElem?_cons_succ, List.getElem?_cons_zero]; rfl
            case gC2x21x20 =>
              go_simp
              refine hK.out _ _ (⟨keep_set HX.out.2.1 HNP, keep_set HX.out.2.2.1 HNF, keep_set HX.out.2.2.2 HNF⟩) (fun hN => ?_)
              clear hK K hHeld
              have hHeld := hN
              clear hN
              try simp only [Act.put, List.setIfInBounds_toArray, List.set_cons_zero, List.set_cons_succ]
              refine wpAnyH_done (by kernel_rfl) ?_ _
              exact HK.out _ _ _ _ _ _ _ _ _ _ _ _ _ _ _ _ _ _ _ _ g2 cap2 _ _ HST.out
  case gC2x14x8 =>
    go_simp
    refine hK.out _ _ (hS _ (bel_alloc (Below.drew (Below.refl _ _)) _)) (fun hN => ?_)
    clear hK K hHeld
    have hHeld := hN
    clear hN
    try simp only [Act.put, List.setIfInBounds_toArray, List.set_cons_zero, List.set_cons_succ]
    refine wpAnyH_ready (rs := [1, 15]) (by kernel_rfl) (by simp) ?_
    refine (AllReadyH.cons (o := ?oiC2x22x1) ?hiC2x22x1 (fun K hK => ?gC2x22x1) (AllReadyH.cons (o := ?oiC2x22x15) ?hiC2x22x15 (fun K hK => ?gC2x22x15) AllReadyH.nil))
    case hiC2x22x1 => simp only [List.getElem?_toArray, List.getElem?_cons_succ, List.getElem?_cons_zero]; rfl
    case hiC2x22x15 => simp only [List.getElem?_toArray, List.getElem?_cons_succ, List.getElem?_cons_zero]; rfl
    case gC2x22x1 =>
      go_simp
      refine hK.out _ _ (hHeld) (fun hN => ?_)
      clear hK K hHeld
      have hHeld := hN
      clear hN
      try simp only [Act.put, List.setIfInBounds_toArray, List.set_cons_zero, List.set_cons_succ]
      refine wpAnyH_ready (rs := [15]) (by kernel_rfl) (by simp) ?_
      refine (AllReadyH.cons (o := ?oiC2x23x15) ?hiC2x23x15 (fun K hK => ?gC2x23x15) AllReadyH.nil)
      case hiC2x23x15 => simp only [List.getElem?_toArray, List.getElem?_cons_succ, List.getElem?_cons_zero]; rfl
      case gC2x23x15 =>
        refine step_append_fresh _ (by rfl) _ _ 42 (by rfl) 46 i2 (.agg #[.int .i64 0, .int .i64 0, .int .i64 0, .int .i64 0, .int .i64 0, .int .i64 0, .int .i64 0]) 7 56 Tryz.underlying42 HI2.out.1 HI2.out.2.1 HI2.out.2.2.1 HI2.out.2.2.2 rfl (by decide) w1.heap.size (by rfl) HG.out (.slice ca n cc) n (acC f.code) (by rfl) HL.out HSR.out (acC_one _) HM.out.1 HM.out.2 ?_
        intro a2 c2 w3 hown hbel
        have HQ3 : Hid (w3.ownsRow w1.heap.size 46 7 (.slice a2 n c2) n (acC f.code)) := hown
        have HB3 : Hid (Below w1.heap.size w1 w3) := (bel_alloc (Below.drew (Below.refl w1.heap.size w1)) _).trans (grown_below hbel (by simp))
        have y1 := keep_cell HB3.out q1
        have hlq3 : QB < w3.heap.size := block_lt_of_cell y1
        have HO3 : Hid ((w3.alloc (.cells ([.string f.name, .slice a2 n c2] : List Value).toArray 44)).ownsRow w0.heap.size 44 2 (.slice va i vc) i (rows.flatMap afC)) := HOf.out w3 _ HB3.out
        clear hown hbel
        refine hK.out _ _ (hS _ HB3.out) (fun hN => ?_)
        clear hK K hHeld
        have hHeld := hN
        clear hN
        try simp only [Act.put, List.setIfInBounds_toArray, List.set_cons_zero, List.set_cons_succ]
        refine wpAnyH_take (i := 16) (oi := ?oiC2x24x16) (v := ?vvC2x24x16) ?hiC2x24x16 (by kernel_rfl) (by kernel_rfl) (by kernel_rfl) ?hqC2x24x16 ?hyC2x24x16 hHeld ?_
        case hiC2x24x16 => simp only [List.getElem?_toArray, List.getElem?_cons_succ, List.getElem?_cons_zero]; rfl
        case hqC2x24x16 => exact fun _ _ _ h => hQ0 _ _ _ _ _ h
        case hyC2x24x16 => (refine Or.inl ⟨by rfl, ?_⟩; intro w' hSw; (try dsimp only at hSw); go_simp; (try (with_reducible rfl)))
        simp only [Act.put, List.setIfInBounds_toArray, List.set_cons_zero, List.set_cons_succ]
        refine wpAnyH_ready (rs := [17]) (by kernel_rfl) (by simp) ?_
        refine (AllReadyH.cons (o := ?oiC2x25x17) ?hiC2x25x17 (fun K hK => ?gC2x25x17) AllReadyH.nil)
        case hiC2x25x17 => simp only [List.getElem?_toArray, List.getElem?_cons_succ, List.getElem?_cons_zero]; rfl
        case gC2x25x17 =>
          go_simp
          refine hK.out _ _ (hS _ (bel_alloc HB3.out _)) (fun hN => ?_)
          clear hK K hHeld
          have hHeld := hN
          clear hN
          try simp only [Act.put, List.setIfInBounds_toArray, List.set_cons_zero, List.set_cons_succ]
          refine wpAnyH_ready (rs := [18]) (by kernel_rfl) (by simp) ?_
          refine (AllReadyH.cons (o := ?oiC2x26x18) ?hiC2x26x18 (fun K hK => ?gC2x26x18) AllReadyH.nil)
          case hiC2x26x18 => simp only [List.getElem?_toArray, List.getElem?_cons_succ, List.getElem?_cons_zero]; rfl
          case gC2x26x18 =>
            refine step_append_lies _ (by rfl) _ _ 23 (by rfl) w0.heap.size 44 i3 (.agg #[.string ⟨#[]⟩, .slice none 0 0]) 2 40 Tryz.underlying23 HI3.out.1 HI3.out.2.1 HI3.out.2.2.1 HI3.out.2.2.2 rfl (by decide) (.slice va i vc) i (rows.flatMap afC) (by rfl) HO3.out ⟨w3.heap.size, 0, none⟩ 1 1 [.string f.name, .slice a2 n c2] (by rfl) (by rfl) (World.news_of_block (xheap_new w3 _)) (afC_one (f, .slice a2 n c2) ⟨_, _, _, rfl⟩) (by decide) HM3.out.1 HM3.out.2 (by rw [World.size_alloc]; have := HB3.out.size; have := HI.out.bel.size; omega) (w3.heap.size + 1) (by simp) ?_
            intro g2 cap2 w5 hown hgrow hat hlt
            have HST : Hid (ACpI w0 (w5.setCell ⟨QB, 1, none⟩ (.slice (some ⟨g2, 0, none⟩) (i + 1) cap2)) QB gv (.slice (some ⟨g2, 0, none⟩) (i + 1) cap2) main params globals (rows ++ [(f, .slice a2 n c2)])) := HStep.out a2 c2 w3 g2 cap2 w5 _ HB3.out HQ3.out hown hgrow hat
            have HX : Hid (w5.heap[QB]? = some (.cells #[gv, .slice va i vc, .int .i64 main, .int .i64 params] 25 (0, 0)) ∧ w5.cell? ⟨PB, 1, none⟩ = some (.slice (some ⟨fb, fo, none⟩) nf fc) ∧ w5.cell? ⟨fb, fo + i * 2, none⟩ = some (.string f.name) ∧ w5.cell? ⟨fb, fo + i * 2 + 1, none⟩ = some (.slice ca n cc)) := HOld.out w3 w5 _ HB3.out hgrow
            have y5 := xheap_cell (o := 1) HX.out.1 rfl
            have z5 := xheap_frozen (o := 1) HX.out.1
            clear hown hgrow hat hlt
            refine hK.out _ _ (HX.out.2) (fun hN => ?_)
            clear hK K hHeld
            have hHeld := hN
            clear hN
            try simp only [Act.put, List.setIfInBounds_toArray, List.set_cons_zero, List.set_cons_succ]
            refine wpAnyH_take (i := 19) (oi := ?oiC2x27x19) (v := ?vvC2x27x19) ?hiC2x27x19 (by kernel_rfl) (by kernel_rfl) (by kernel_rfl) ?hqC2x27x19 ?hyC2x27x19 hHeld ?_
            case hiC2x27x19 => simp only [List.getElem?_toArray, List.getElem?_cons_succ, List.getElem?_cons_zero]; rfl
            case hqC2x27x19 => exact fun _ _ _ h => hQ0 _ _ _ _ _ h
            case hyC2x27x19 => (refine Or.inl ⟨by rfl, ?_⟩; intro w' hSw; (try dsimp only at hSw); go_simp; (try (with_reducible rfl)))
            simp only [Act.put, List.setIfInBounds_toArray, List.set_cons_zero, List.set_cons_succ]
            refine wpAnyH_ready (rs := [20]) (by kernel_rfl) (by simp) ?_
            refine (AllReadyH.cons (o := ?oiC2x28x20) ?hiC2x28x20 (fun K hK => ?gC2x28x20) AllReadyH.nil)
            case hiC2x28x20 => simp only [List.getElem?_toArray, List.getElem?_cons_succ, List.getElem?_cons_zero]; rfl
            case gC2x28x20 =>
              go_simp
              refine hK.out _ _ (⟨keep_set HX.out.2.1 HNP, keep_set HX.out.2.2.1 HNF, keep_set HX.out.2.2.2 HNF⟩) (fun hN => ?_)
              clear hK K hHeld
              have hHeld := hN
              clear hN
              try simp only [Act.put, List.setIfInBounds_toArray, List.set_cons_zero, List.set_cons_succ]
              refine wpAnyH_done (by kernel_rfl) ?_ _
              exact HK.out _ _ _ _ _ _ _ _ _ _ _ _ _ _ _ _ _ _ _ _ g2 cap2 _ _ HST.out
    case gC2x22x15 =>
      refine step_append_fresh _ (by rfl) _ _ 42 (by rfl) 46 i2 (.agg #[.int .i64 0, .int .i64 0, .int .i64 0, .int .i64 0, .int .i64 0, .int .i64 0, .int .i64 0]) 7 56 Tryz.underlying42 HI2.out.1 HI2.out.2.1 HI2.out.2.2.1 HI2.out.2.2.2 rfl (by decide) w1.heap.size (by rfl) HG.out (.slice ca n cc) n (acC f.code) (by rfl) HL.out HSR.out (acC_one _) HM.out.1 HM.out.2 ?_
      intro a2 c2 w3 hown hbel
      have HQ3 : Hid (w3.ownsRow w1.heap.size 46 7 (.slice a2 n c2) n (acC f.code)) := hown
      have HB3 : Hid (Below w1.heap.size w1 w3) := (bel_alloc (Below.drew (Below.refl w1.heap.size w1)) _).trans (grown_below hbel (by simp))
      have y1 := keep_cell HB3.out q1
      have hlq3 : QB < w3.heap.size := block_lt_of_cell y1
      have HO3 : Hid ((w3.alloc (.cells ([.string f.name, .slice a2 n c2] : List Value).toArray 44)).ownsRow w0.heap.size 44 2 (.slice va i vc) i (rows.flatMap afC)) := HOf.out w3 _ HB3.out
      clear hown hbel
      refine hK.out _ _ (hS _ HB3.out) (fun hN => ?_)
      clear hK K hHeld
      have hHeld := hN
      clear hN
      try simp only [Act.put, List.setIfInBounds_toArray, List.set_cons_zero, List.set_cons_succ]
      refine wpAnyH_take (i := 16) (oi := ?oiC2x29x16) (v := ?vvC2x29x16) ?hiC2x29x16 (by kernel_rfl) (by kernel_rfl) (by kernel_rfl) ?hqC2x29x16 ?hyC2x29x16 hHeld ?_
      case hiC2x29x16 => simp only [List.getElem?_toArray, List.getElem?_cons_succ, List.getElem?_cons_zero]; rfl
      case hqC2x29x16 => exact fun _ _ _ h => hQ0 _ _ _ _ _ h
      case hyC2x29x16 => (refine Or.inl ⟨by rfl, ?_⟩; intro w' hSw; (try dsimp only at hSw); go_simp; (try (with_reducible rfl)))
      simp only [Act.put, List.setIfInBounds_toArray, List.set_cons_zero, List.set_cons_succ]
      refine wpAnyH_ready (rs := [1, 17]) (by kernel_rfl) (by simp) ?_
      refine (AllReadyH.cons (o := ?oiC2x30x1) ?hiC2x30x1 (fun K hK => ?gC2x30x1) (AllReadyH.cons (o := ?oiC2x30x17) ?hiC2x30x17 (fun K hK => ?gC2x30x17) AllReadyH.nil))
      case hiC2x30x1 => simp only [List.getElem?_toArray, List.getElem?_cons_succ, List.getElem?_cons_zero]; rfl
      case hiC2x30x17 => simp only [List.getElem?_toArray, List.getElem?_cons_succ, List.getElem?_cons_zero]; rfl
      case gC2x30x1 =>
        go_simp
        refine hK.out _ _ (hHeld) (fun hN => ?_)
        clear hK K hHeld
        have hHeld := hN
        clear hN
        try simp only [Act.put, List.setIfInBounds_toArray, List.set_cons_zero, List.set_cons_succ]
        refine wpAnyH_ready (rs := [17]) (by kernel_rfl) (by simp) ?_
        refine (AllReadyH.cons (o := ?oiC2x31x17) ?hiC2x31x17 (fun K hK => ?gC2x31x17) AllReadyH.nil)
        case hiC2x31x17 => simp only [List.getElem?_toArray, List.getElem?_cons_succ, List.getElem?_cons_zero]; rfl
        case gC2x31x17 =>
          go_simp
          refine hK.out _ _ (hS _ (bel_alloc HB3.out _)) (fun hN => ?_)
          clear hK K hHeld
          have hHeld := hN
          clear hN
          try simp only [Act.put, List.setIfInBounds_toArray, List.set_cons_zero, List.set_cons_succ]
          refine wpAnyH_ready (rs := [18]) (by kernel_rfl) (by simp) ?_
          refine (AllReadyH.cons (o := ?oiC2x32x18) ?hiC2x32x18 (fun K hK => ?gC2x32x18) AllReadyH.nil)
          case hiC2x32x18 => simp only [List.getElem?_toArray, List.getElem?_cons_succ, List.getElem?_cons_zero]; rfl
          case gC2x32x18 =>
            refine step_append_lies _ (by rfl) _ _ 23 (by rfl) w0.heap.size 44 i3 (.agg #[.string ⟨#[]⟩, .slice none 0 0]) 2 40 Tryz.underlying23 HI3.out.1 HI3.out.2.1 HI3.out.2.2.1 HI3.out.2.2.2 rfl (by decide) (.slice va i vc) i (rows.flatMap afC) (by rfl) HO3.out ⟨w3.heap.size, 0, none⟩ 1 1 [.string f.name, .slice a2 n c2] (by rfl) (by rfl) (World.news_of_block (xheap_new w3 _)) (afC_one (f, .slice a2 n c2) ⟨_, _, _, rfl⟩) (by decide) HM3.out.1 HM3.out.2 (by rw [World.size_alloc]; have := HB3.out.size; have := HI.out.bel.size; omega) (w3.heap.size + 1) (by simp) ?_
            intro g2 cap2 w5 hown hgrow hat hlt
            have HST : Hid (ACpI w0 (w5.setCell ⟨QB, 1, none⟩ (.slice (some ⟨g2, 0, none⟩) (i + 1) cap2)) QB gv (.slice (some ⟨g2, 0, none⟩) (i + 1) cap2) main params globals (rows ++ [(f, .slice a2 n c2)])) := HStep.out a2 c2 w3 g2 cap2 w5 _ HB3.out HQ3.out hown hgrow hat
            have HX : Hid (w5.heap[QB]? = some (.cells #[gv, .slice va i vc, .int .i64 main, .int .i64 params] 25 (0, 0)) ∧ w5.cell? ⟨PB, 1, none⟩ = some (.slice (some ⟨fb, fo, none⟩) nf fc) ∧ w5.cell? ⟨fb, fo + i * 2, none⟩ = some (.string f.name) ∧ w5.cell? ⟨fb, fo + i * 2 + 1, none⟩ = some (.slice ca n cc)) := HOld.out w3 w5 _ HB3.out hgrow
            have y5 := xheap_cell (o := 1) HX.out.1 rfl
            have z5 := xheap_frozen (o := 1) HX.out.1
            clear hown hgrow hat hlt
            refine hK.out _ _ (HX.out.2) (fun hN => ?_)
            clear hK K hHeld
            have hHeld := hN
            clear hN
            try simp only [Act.put, List.setIfInBounds_toArray, List.set_cons_zero, List.set_cons_succ]
            refine wpAnyH_take (i := 19) (oi := ?oiC2x33x19) (v := ?vvC2x33x19) ?hiC2x33x19 (by kernel_rfl) (by kernel_rfl) (by kernel_rfl) ?hqC2x33x19 ?hyC2x33x19 hHeld ?_
            case hiC2x33x19 => simp only [List.getElem?_toArray, List.getElem?_cons_succ, List.getElem?_cons_zero]; rfl
            case hqC2x33x19 => exact fun _ _ _ h => hQ0 _ _ _ _ _ h
            case hyC2x33x19 => (refine Or.inl ⟨by rfl, ?_⟩; intro w' hSw; (try dsimp only at hSw); go_simp; (try (with_reducible rfl)))
            simp only [Act.put, List.setIfInBounds_toArray, List.set_cons_zero, List.set_cons_succ]
            refine wpAnyH_ready (rs := [20]) (by kernel_rfl) (by simp) ?_
            refine (AllReadyH.cons (o := ?oiC2x34x20) ?hiC2x34x20 (fun K hK => ?gC2x34x20) AllReadyH.nil)
            case hiC2x34x20 => simp only [List.getElem?_toArray, List.getElem?_cons_succ, List.getElem?_cons_zero]; rfl
            case gC2x34x20 =>
              go_simp
              refine hK.out _ _ (⟨keep_set HX.out.2.1 HNP, keep_set HX.out.2.2.1 HNF, keep_set HX.out.2.2.2 HNF⟩) (fun hN => ?_)
              clear hK K hHeld
              have hHeld := hN
              clear hN
              try simp only [Act.put, List.setIfInBounds_toArray, List.set_cons_zero, List.set_cons_succ]
              refine wpAnyH_done (by kernel_rfl) ?_ _
              exact HK.out _ _ _ _ _ _ _ _ _ _ _ _ _ _ _ _ _ _ _ _ g2 cap2 _ _ HST.out
      case gC2x30x17 =>
        go_simp
        refine hK.out _ _ (hS _ (bel_alloc HB3.out _)) (fun hN => ?_)
        clear hK K hHeld
        have hHeld := hN
        clear hN
        try simp only [Act.put, List.setIfInBounds_toArray, List.set_cons_zero, List.set_cons_succ]
        refine wpAnyH_ready (rs := [1]) (by kernel_rfl) (by simp) ?_
        refine (AllReadyH.cons (o := ?oiC2x35x1) ?hiC2x35x1 (fun K hK => ?gC2x35x1) AllReadyH.nil)
        case hiC2x35x1 => simp only [List.getElem?_toArray, List.getElem?_cons_succ, List.getElem?_cons_zero]; rfl
        case gC2x35x1 =>
          go_simp
          refine hK.out _ _ (hHeld) (fun hN => ?_)
          clear hK K hHeld
          have hHeld := hN
          clear hN
          try simp only [Act.put, List.setIfInBounds_toArray, List.set_cons_zero, List.set_cons_succ]
          refine wpAnyH_ready (rs := [18]) (by kernel_rfl) (by simp) ?_
          refine (AllReadyH.cons (o := ?oiC2x36x18) ?hiC2x36x18 (fun K hK => ?gC2x36x18) AllReadyH.nil)
          case hiC2x36x18 => simp only [List.getElem?_toArray, List.getElem?_cons_succ, List.getElem?_cons_zero]; rfl
          case gC2x36x18 =>
            refine step_append_lies _ (by rfl) _ _ 23 (by rfl) w0.heap.size 44 i3 (.agg #[.string ⟨#[]⟩, .slice none 0 0]) 2 40 Tryz.underlying23 HI3.out.1 HI3.out.2.1 HI3.out.2.2.1 HI3.out.2.2.2 rfl (by decide) (.slice va i vc) i (rows.flatMap afC) (by rfl) HO3.out ⟨w3.heap.size, 0, none⟩ 1 1 [.string f.name, .slice a2 n c2] (by rfl) (by rfl) (World.news_of_block (xheap_new w3 _)) (afC_one (f, .slice a2 n c2) ⟨_, _, _, rfl⟩) (by decide) HM3.out.1 HM3.out.2 (by rw [World.size_alloc]; have := HB3.out.size; have := HI.out.bel.size; omega) (w3.heap.size + 1) (by simp) ?_
            intro g2 cap2 w5 hown hgrow hat hlt
            have HST : Hid (ACpI w0 (w5.setCell ⟨QB, 1, none⟩ (.slice (some ⟨g2, 0, none⟩) (i + 1) cap2)) QB gv (.slice (some ⟨g2, 0, none⟩) (i + 1) cap2) main params globals (rows ++ [(f, .slice a2 n c2)])) := HStep.out a2 c2 w3 g2 cap2 w5 _ HB3.out HQ3.out hown hgrow hat
            have HX : Hid (w5.heap[QB]? = some (.cells #[gv, .slice va i vc, .int .i64 main, .int .i64 params] 25 (0, 0)) ∧ w5.cell? ⟨PB, 1, none⟩ = some (.slice (some ⟨fb, fo, none⟩) nf fc) ∧ w5.cell? ⟨fb, fo + i * 2, none⟩ = some (.string f.name) ∧ w5.cell? ⟨fb, fo + i * 2 + 1, none⟩ = some (.slice ca n cc)) := HOld.out w3 w5 _ HB3.out hgrow
            have y5 := xheap_cell (o := 1) HX.out.1 rfl
            have z5 := xheap_frozen (o := 1) HX.out.1
            clear hown hgrow hat hlt
            refine hK.out _ _ (HX.out.2) (fun hN => ?_)
            clear hK K hHeld
            have hHeld := hN
            clear hN
            try simp only [Act.put, List.setIfInBounds_toArray, List.set_cons_zero, List.set_cons_succ]
            refine wpAnyH_take (i := 19) (oi := ?oiC2x37x19) (v := ?vvC2x37x19) ?hiC2x37x19 (by kernel_rfl) (by kernel_rfl) (by kernel_rfl) ?hqC2x37x19 ?hyC2x37x19 hHeld ?_
            case hiC2x37x19 => simp only [List.getElem?_toArray, List.getElem?_cons_succ, List.getElem?_cons_zero]; rfl
            case hqC2x37x19 => exact fun _ _ _ h => hQ0 _ _ _ _ _ h
            case hyC2x37x19 => (refine Or.inl ⟨by rfl, ?_⟩; intro w' hSw; (try dsimp only at hSw); go_simp; (try (with_reducible rfl)))
            simp only [Act.put, List.setIfInBounds_toArray, List.set_cons_zero, List.set_cons_succ]
            refine wpAnyH_ready (rs := [20]) (by kernel_rfl) (by simp) ?_
            refine (AllReadyH.cons (o := ?oiC2x38x20) ?hiC2x38x20 (fun K hK => ?gC2x38x20) AllReadyH.nil)
            case hiC2x38x20 => simp only [List.getElem?_toArray, List.getElem?_cons_succ, List.getElem?_cons_zero]; rfl
            case gC2x38x20 =>
              go_simp
              refine hK.out _ _ (⟨keep_set HX.out.2.1 HNP, keep_set HX.out.2.2.1 HNF, keep_set HX.out.2.2.2 HNF⟩) (fun hN => ?_)
              clear hK K hHeld
              have hHeld := hN
              clear hN
              try simp only [Act.put, List.setIfInBounds_toArray, List.set_cons_zero, List.set_cons_succ]
              refine wpAnyH_done (by kernel_rfl) ?_ _
              exact HK.out _ _ _ _ _ _ _ _ _ _ _ _ _ _ _ _ _ _ _ _ g2 cap2 _ _ HST.out
end Go.Proofs.YtofnnpchobgapaaGreatDoor

