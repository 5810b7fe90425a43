/- Package flow: the graph's rows, one edge after another. -/
import Derived.Test.YtiigfggebpmlnaaGreatDoorFlFrom
namespace Go.Proofs.YtiigfggebpmlnaaGreatDoor
open Go.ChangeShapes Go.WideShapes Go.ChangeAt Go.RowKit
set_option linter.unusedSimpArgs false
set_option linter.unusedVariables false

theorem grown_drew {w W : World} {row : Option Nat} (h : w.drew.grownBy W row) : w.grownBy W row := ⟨h.os, h.tape, h.output, h.size, h.block⟩
theorem cell_new (w : World) (x : Value) (e : TypeId) (h : x.oneCell' = true) : (w.alloc (.cells #[x] e)).cell? ⟨w.heap.size, 0, none⟩ = some x := by simp
noncomputable def svR5 : Code := ((Tryz.f15.body.bind (regionN 5)).getD .skip)
set_option maxRecDepth 100000 in
set_option maxHeartbeats 8000000 in
theorem sv_r5 (NB n cn eb B x t k c : Nat) (a : Option Addr) (l : List Value) (z0z z1z z2z z3z z4z z6z z8z z9z z10z z11z z12z z13z z14z z15z z16z z17z z18z z19z z20z z21z z22z z23z z24z z25z z26z z27z z28z z29z z30z z31z z32z z33z z34z z35z z36z z37z z38z z39z z40z z41z z42z z43z z44z z45z z46z z47z z48z z49z z50z z51z z52z z53z z54z z55z z56z z57z z58z z59z z60z z61z z62z z63z z64z z65z z66z z67z z68z z69z z70z z71z z72z z73z z74z z75z z76z z77z z78z : Value) (Q0 : Exit → Act → World → Prop) (w1 : World)
    (hQ0 : ∀ c (a : Act) (dd : Option Tmp) v x, Q0 (.panic c) (a.put dd v) x → Q0 (.panic c) a x)
    (c0 : w1.cell? ⟨eb, 0, none⟩ = some (.int .i64 x)) (c1 : w1.cell? ⟨eb, 1, none⟩ = some (.int .i64 t)) (cv : w1.cell? ⟨NB, x, none⟩ = some (.slice a k c)) (zv : w1.frozen? ⟨NB, x, none⟩ = false)
    (j0 : (0 : Int) ≤ x) (j1 : (x : Int) < n) (hk : k ≤ 1000000) (HO : Hid (w1.ownsRow B 3 1 (.slice a k c) k l)) (HBS0 : Hid (B ≤ w1.heap.size)) (HNB : Hid (some NB ≠ (Value.slice a k c).ownBlock)) (HEB : Hid (some eb ≠ (Value.slice a k c).ownBlock)) (HNE : Hid (eb ≠ NB))
    (HK : Hid (∀ y24 y25 y26 y27 y28 y29 y30 y31 y32 y33 y34 y35 y36 a2 c2 w3, w3.ownsRow B 3 1 (.slice a2 (k + 1) c2) (k + 1) (l ++ [.int .i64 t]) → w1.grownBy w3 (Value.slice a k c).ownBlock → ((Value.slice a2 (k + 1) c2).ownBlock = (Value.slice a k c).ownBlock ∨ (Value.slice a2 (k + 1) c2).ownBlock = some (w1.heap.size + 1)) → Q0 .normal ⟨#[z0z, z1z, z2z, z3z, z4z, .slice (some ⟨NB, 0, none⟩) n cn, z6z, .pointer (some ⟨eb, 0, none⟩), z8z, z9z, z10z, z11z, z12z, z13z, z14z, z15z, z16z, z17z, z18z, z19z, z20z, z21z, z22z, z23z, y24, y25, y26, y27, y28, y29, y30, y31, y32, y33, y34, y35, y36, z37z, z38z, z39z, z40z, z41z, z42z, z43z, z44z, z45z, z46z, z47z, z48z, z49z, z50z, z51z, z52z, z53z, z54z, z55z, z56z, z57z, z58z, z59z, z60z, z61z, z62z, z63z, z64z, z65z, z66z, z67z, z68z, z69z, z70z, z71z, z72z, z73z, z74z, z75z, z76z, z77z, z78z], []⟩ (w3.setCell ⟨NB, x, none⟩ (.slice a2 (k + 1) c2)))) :
    Code.wp Tryz.prog svR5 Q0 ⟨#[z0z, z1z, z2z, z3z, z4z, .slice (some ⟨NB, 0, none⟩) n cn, z6z, .pointer (some ⟨eb, 0, none⟩), z8z, z9z, z10z, z11z, z12z, z13z, z14z, z15z, z16z, z17z, z18z, z19z, z20z, z21z, z22z, z23z, z24z, z25z, z26z, z27z, z28z, z29z, z30z, z31z, z32z, z33z, z34z, z35z, z36z, z37z, z38z, z39z, z40z, z41z, z42z, z43z, z44z, z45z, z46z, z47z, z48z, z49z, z50z, z51z, z52z, z53z, z54z, z55z, z56z, z57z, z58z, z59z, z60z, z61z, z62z, z63z, z64z, z65z, z66z, z67z, z68z, z69z, z70z, z71z, z72z, z73z, z74z, z75z, z76z, z77z, z78z], []⟩ w1 := by
  obtain ⟨i0, hi, hz0, hz1, hz2⟩ : ∃ i0, Tryz.prog.info? 3 = some i0 ∧ i0.zero = some (.int .i64 0) ∧ i0.size = 1 ∧ i0.bytes = 8 := info_parts (by kernel_rfl)
  have HI := hid (And.intro hi (And.intro hz0 (And.intro hz1 hz2)))
  clear hi hz0 hz1 hz2
  have HOA : Hid ((w1.drew.alloc (.cells #[.int .i64 t] 3)).ownsRow B 3 1 (.slice a k c) k l) := World.ownsRow.alloc (w := w1.drew) HO.out _
  have HSR : Hid (Srow (w1.drew.alloc (.cells #[.int .i64 t] 3)) (.slice (some ⟨w1.heap.size, 0, none⟩) 1 1) 1 [.int .i64 t]) := by
    refine .inl ⟨_, _, rfl, fun j u hj => ?_⟩
    match j, hj with
    | 0, hj =>
      cases hj
      rw [show (⟨w1.heap.size, 0, none⟩ : Addr).add 0 = ⟨w1.heap.size, 0 + 0, none⟩ from Addr.add_mid _ _ _]
      exact cell_new w1.drew (.int .i64 t) 3 (by rfl)
    | j + 1, hj => simp at hj
  have HON : Hid (∀ u ∈ [Value.int .i64 t], u.oneCell' = true) := fun u hu => by cases List.mem_singleton.1 hu; rfl
  have HM : Hid (k + 1 ≤ maxLen ∧ (k + 1) * 8 ≤ 140737488355328) := ⟨by unfold maxLen; omega, by omega⟩
  have HBS : Hid (B ≤ (w1.drew.alloc (.cells #[.int .i64 t] 3)).heap.size) := by
    show _ ≤ _
    rw [World.size_alloc]
    have := HBS0.out
    have : w1.drew.heap.size = w1.heap.size := rfl
    omega
  have x7 : ∀ o, (w1.drew.alloc o).cell? ⟨NB, x, none⟩ = some (.slice a k c) := fun o => keep_alloc (w := w1.drew) cv o
  have x7' : ∀ o, (w1.alloc o).cell? ⟨NB, x, none⟩ = some (.slice a k c) := fun o => keep_alloc (w := w1) cv o
  conv => arg 2; whnf
  refine wp_region_held_drew (S := (fun w' => w'.cell? ⟨eb, 0, none⟩ = some (.int .i64 x) ∧ w'.cell? ⟨eb, 1, none⟩ = some (.int .i64 t))) (by kernel_rfl) (⟨c0, c1⟩) (fun hHeld => ?_)
  refine wpAnyH_take (i := 0) (oi := ?oiC1x1x0) (v := ?vvC1x1x0) ?hiC1x1x0 (by kernel_rfl) (by kernel_rfl) (by kernel_rfl) ?hqC1x1x0 ?hyC1x1x0 hHeld ?_
  case hiC1x1x0 => simp only [List.getElem?_toArray, List.getElem?_cons_succ, List.getElem?_cons_zero]; rfl
  case hqC1x1x0 => exact fun _ _ _ h => hQ0 _ _ _ _ _ h
  case hyC1x1x0 => (refine Or.inl ⟨by rfl, ?_⟩; intro w' hSw; (try dsimp only at hSw); go_simp; (try (with_reducible rfl)))
  simp only [Act.put, List.setIfInBounds_toArray, List.set_cons_zero, List.set_cons_succ]
  refine wpAnyH_take (i := 1) (oi := ?oiC1x2x1) (v := ?vvC1x2x1) ?hiC1x2x1 (by kernel_rfl) (by kernel_rfl) (by kernel_rfl) ?hqC1x2x1 ?hyC1x2x1 hHeld ?_
  case hiC1x2x1 => simp only [List.getElem?_toArray, List.getElem?_cons_succ, List.getElem?_cons_zero]; rfl
  case hqC1x2x1 => exact fun _ _ _ h => hQ0 _ _ _ _ _ h
  case hyC1x2x1 => (refine Or.inl ⟨by rfl, ?_⟩; intro w' hSw; (try dsimp only at hSw); go_simp; (try (with_reducible rfl)))
  simp only [Act.put, List.setIfInBounds_toArray, List.set_cons_zero, List.set_cons_succ]
  refine wpAnyH_take (i := 2) (oi := ?oiC1x3x2) (v := ?vvC1x3x2) ?hiC1x3x2 (by kernel_rfl) (by kernel_rfl) (by kernel_rfl) ?hqC1x3x2 ?hyC1x3x2 hHeld ?_
  case hiC1x3x2 => simp only [List.getElem?_toArray, List.getElem?_cons_succ, List.getElem?_cons_zero]; rfl
  case hqC1x3x2 => exact fun _ _ _ h => hQ0 _ _ _ _ _ h
  case hyC1x3x2 => (refine Or.inl ⟨by rfl, ?_⟩; intro w' hSw; (try dsimp only at hSw); go_simp; (try (with_reducible rfl)))
  simp only [Act.put, List.setIfInBounds_toArray, List.set_cons_zero, List.set_cons_succ]
  refine wpAnyH_take (i := 3) (oi := ?oiC1x4x3) (v := ?vvC1x4x3) ?hiC1x4x3 (by kernel_rfl) (by kernel_rfl) (by kernel_rfl) ?hqC1x4x3 ?hyC1x4x3 hHeld ?_
  case hiC1x4x3 => simp only [List.getElem?_toArray, List.getElem?_cons_succ, List.getElem?_cons_zero]; rfl
  case hqC1x4x3 => exact fun _ _ _ h => hQ0 _ _ _ _ _ h
  case hyC1x4x3 => (refine Or.inl ⟨by rfl, ?_⟩; intro w' hSw; (try dsimp only at hSw); go_simp; (try (with_reducible rfl)))
  simp only [Act.put, List.setIfInBounds_toArray, List.set_cons_zero, List.set_cons_succ]
  refine wpAnyH_take (i := 4) (oi := ?oiC1x5x4) (v := ?vvC1x5x4) ?hiC1x5x4 (by kernel_rfl) (by kernel_rfl) (by kernel_rfl) ?hqC1x5x4 ?hyC1x5x4 hHeld ?_
  case hiC1x5x4 => simp only [List.getElem?_toArray, List.getElem?_cons_succ, List.getElem?_cons_zero]; rfl
  case hqC1x5x4 => exact fun _ _ _ h => hQ0 _ _ _ _ _ h
  case hyC1x5x4 => (refine Or.inl ⟨by rfl, ?_⟩; intro w' hSw; (try dsimp only at hSw); go_simp; (try (with_reducible rfl)))
  simp only [Act.put, List.setIfInBounds_toArray, List.set_cons_zero, List.set_cons_succ]
  refine wpAnyH_take (i := 5) (oi := ?oiC1x6x5) (v := ?vvC1x6x5) ?hiC1x6x5 (by kernel_rfl) (by kernel_rfl) (by kernel_rfl) ?hqC1x6x5 ?hyC1x6x5 hHeld ?_
  case hiC1x6x5 => simp only [List.getElem?_toArray, List.getElem?_cons_succ, List.getElem?_cons_zero]; rfl
  case hqC1x6x5 => exact fun _ _ _ h => hQ0 _ _ _ _ _ h
  case hyC1x6x5 => (refine Or.inl ⟨by rfl, ?_⟩; intro w' hSw; (try dsimp only at hSw); go_simp; (try (with_reducible rfl)))
  simp only [Act.put, List.setIfInBounds_toArray, List.set_cons_zero, List.set_cons_succ]
  refine wpAnyH_take (i := 6) (oi := ?oiC1x7x6) (v := ?vvC1x7x6) ?hiC1x7x6 (by kernel_rfl) (by kernel_rfl) (by kernel_rfl) ?hqC1x7x6 ?hyC1x7x6 hHeld ?_
  case hiC1x7x6 => simp only [List.getElem?_toArray, List.getElem?_cons_succ, List.getElem?_cons_zero]; rfl
  case hqC1x7x6 => exact fun _ _ _ h => hQ0 _ _ _ _ _ h
  case hyC1x7x6 => (refine Or.inl ⟨by rfl, ?_⟩; intro w' hSw; (try dsimp only at hSw); go_simp; (try (with_reducible rfl)))
  simp only [Act.put, List.setIfInBounds_toArray, List.set_cons_zero, List.set_cons_succ]
  refine wpAnyH_take (i := 8) (oi := ?oiC1x8x8) (v := ?vvC1x8x8) ?hiC1x8x8 (by kernel_rfl) (by kernel_rfl) (by kernel_rfl) ?hqC1x8x8 ?hyC1x8x8 hHeld ?_
  case hiC1x8x8 => simp only [List.getElem?_toArray, List.getElem?_cons_succ, List.getElem?_cons_zero]; rfl
  case hqC1x8x8 => exact fun _ _ _ h => hQ0 _ _ _ _ _ h
  case hyC1x8x8 => (refine Or.inl ⟨by rfl, ?_⟩; intro w' hSw; (try dsimp only at hSw); go_simp; (try (with_reducible rfl)))
  simp only [Act.put, List.setIfInBounds_toArray, List.set_cons_zero, List.set_cons_succ]
  refine wpAnyH_take (i := 9) (oi := ?oiC1x9x9) (v := ?vvC1x9x9) ?hiC1x9x9 (by kernel_rfl) (by kernel_rfl) (by kernel_rfl) ?hqC1x9x9 ?hyC1x9x9 hHeld ?_
  case hiC1x9x9 => simp only [List.getElem?_toArray, List.getElem?_cons_succ, List.getElem?_cons_zero]; rfl
  case hqC1x9x9 => exact fun _ _ _ h => hQ0 _ _ _ _ _ h
  case hyC1x9x9 => (refine Or.inl ⟨by rfl, ?_⟩; intro w' hSw; (try dsimp only at hSw); go_simp; (try (with_reducible rfl)))
  simp only [Act.put, List.setIfInBounds_toArray, List.set_cons_zero, List.set_cons_succ]
  refine wpAnyH_ready (rs := [7, 10]) (by kernel_rfl) (by simp) ?_
  refine (AllReadyH.cons (o := ?oiC1x10x7) ?hiC1x10x7 (fun K hK => ?gC1x10x7) (AllReadyH.cons (o := ?oiC1x10x10) ?hiC1x10x10 (fun K hK => ?gC1x10x10) AllReadyH.nil))
  case hiC1x10x7 => simp only [List.getElem?_toArray, List.getElem?_cons_succ, List.getElem?_cons_zero]; rfl
  case hiC1x10x10 => simp only [List.getElem?_toArray, List.getElem?_cons_succ, List.getElem?_cons_zero]; rfl
  case gC1x10x7 =>
    go_simp
    refine hK.out _ _ (hHeld) (fun hN => ?_)
    clear hK K hHeld
    have hHeld := hN
    clear hN
    try simp only [Act.put, List.setIfInBounds_toArray, List.set_cons_zero, List.set_cons_succ]
    refine wpAnyH_ready (rs := [10]) (by kernel_rfl) (by simp) ?_
    refine (AllReadyH.cons (o := ?oiC1x11x10) ?hiC1x11x10 (fun K hK => ?gC1x11x10) AllReadyH.nil)
    case hiC1x11x10 => simp only [List.getElem?_toArray, List.getElem?_cons_succ, List.getElem?_cons_zero]; rfl
    case gC1x11x10 =>
      go_simp
      refine hK.out _ _ (⟨keep_alloc hHeld.1 _, keep_alloc hHeld.2 _⟩) (fun hN => ?_)
      clear hK K hHeld
      have hHeld := hN
      clear hN
      try simp only [Act.put, List.setIfInBounds_toArray, List.set_cons_zero, List.set_cons_succ]
      refine wpAnyH_ready (rs := [11]) (by kernel_rfl) (by simp) ?_
      refine (AllReadyH.cons (o := ?oiC1x12x11) ?hiC1x12x11 (fun K hK => ?gC1x12x11) AllReadyH.nil)
      case hiC1x12x11 => simp only [List.getElem?_toArray, List.getElem?_cons_succ, List.getElem?_cons_zero]; rfl
      case gC1x12x11 =>
        refine step_append_any _ (by rfl) _ _ 23 (by rfl) B 3 i0 (.int .i64 0) 1 8 Tryz.underlying23 HI.out.1 HI.out.2.1 HI.out.2.2.1 HI.out.2.2.2 rfl (by decide) (.slice a k c) k l (by rfl) HOA.out (.slice (some ⟨w1.heap.size, 0, none⟩) 1 1) 1 [.int .i64 t] (by rfl) (by rfl) HSR.out HON.out HM.out.1 HM.out.2 HBS.out _ rfl ?_
        intro a2 c2 w3 hown hgrow hblk
        have HO3 : Hid (w3.ownsRow B 3 1 (.slice a2 (k + 1) c2) (k + 1) (l ++ [.int .i64 t])) := hown
        have HG3 : Hid (w1.grownBy w3 (Value.slice a k c).ownBlock) := hid (grown_drew (grown_alloc (w := w1.drew) hgrow))
        have HB3 : Hid ((Value.slice a2 (k + 1) c2).ownBlock = (Value.slice a k c).ownBlock ∨ (Value.slice a2 (k + 1) c2).ownBlock = some (w1.heap.size + 1)) := hid (by first | exact hblk | simpa using hblk)
        have hv3 := HG3.out.cell cv HNB.out
        have hz3 := (World.frozen?_of_block (w := w1) (HG3.out.block NB (block_lt_of_cell cv) HNB.out)).trans zv
        have h03 := HG3.out.cell c0 HEB.out
        have h13 := HG3.out.cell c1 HEB.out
        clear hown hgrow hblk
        refine hK.out _ _ (⟨h03, h13⟩) (fun hN => ?_)
        clear hK K hHeld
        have hHeld := hN
        clear hN
        try simp only [Act.put, List.setIfInBounds_toArray, List.set_cons_zero, List.set_cons_succ]
        refine wpAnyH_take (i := 12) (oi := ?oiC1x13x12) (v := ?vvC1x13x12) ?hiC1x13x12 (by kernel_rfl) (by kernel_rfl) (by kernel_rfl) ?hqC1x13x12 ?hyC1x13x12 hHeld ?_
        case hiC1x13x12 => simp only [List.getElem?_toArray, List.getElem?_cons_succ, List.getElem?_cons_zero]; rfl
        case hqC1x13x12 => exact fun _ _ _ h => hQ0 _ _ _ _ _ h
        case hyC1x13x12 => (refine Or.inl ⟨by rfl, ?_⟩; intro w' hSw; (try dsimp only at hSw); go_simp; (try (with_reducible rfl)))
        simp only [Act.put, List.setIfInBounds_toArray, List.set_cons_zero, List.set_cons_succ]
        refine wpAnyH_ready (rs := [13]) (by kernel_rfl) (by simp) ?_
        refine (AllReadyH.cons (o := ?oiC1x14x13) ?hiC1x14x13 (fun K hK => ?gC1x14x13) AllReadyH.nil)
        case hiC1x14x13 => simp only [List.getElem?_toArray, List.getElem?_cons_succ, List.getElem?_cons_zero]; rfl
        case gC1x14x13 =>
          go_simp
          refine hK.out _ _ (⟨keep_set h03 HNE.out, keep_set h13 HNE.out⟩) (fun hN => ?_)
          clear hK K hHeld
          have hHeld := hN
          clear hN
          try simp only [Act.put, List.setIfInBounds_toArray, List.set_cons_zero, List.set_cons_succ]
          refine wpAnyH_done (by kernel_rfl) ?_ _
          exact HK.out _ _ _ _ _ _ _ _ _ _ _ _ _ a2 c2 w3 HO3.out HG3.out HB3.out
  case gC1x10x10 =>
    go_simp
    refine hK.out _ _ (⟨keep_alloc hHeld.1 _, keep_alloc hHeld.2 _⟩) (fun hN => ?_)
    clear hK K hHeld
    have hHeld := hN
    clear hN
    try simp only [Act.put, List.setIfInBounds_toArray, List.set_cons_zero, List.set_cons_succ]
    refine wpAnyH_ready (rs := [7]) (by kernel_rfl) (by simp) ?_
    refine (AllReadyH.cons (o := ?oiC1x15x7) ?hiC1x15x7 (fun K hK => ?gC1x15x7) AllReadyH.nil)
    case hiC1x15x7 => simp only [List.getElem?_toArray, List.getElem?_cons_succ, List.getElem?_cons_zero]; rfl
    case gC1x15x7 =>
      go_simp
      refine hK.out _ _ (hHeld) (fun hN => ?_)
      clear hK K hHeld
      have hHeld := hN
      clear hN
      try simp only [Act.put, List.setIfInBounds_toArray, List.set_cons_zero, List.set_cons_succ]
      refine wpAnyH_ready (rs := [11]) (by kernel_rfl) (by simp) ?_
      refine (AllReadyH.cons (o := ?oiC1x16x11) ?hiC1x16x11 (fun K hK => ?gC1x16x11) AllReadyH.nil)
      case hiC1x16x11 => simp only [List.getElem?_toArray, List.getElem?_cons_succ, List.getElem?_cons_zero]; rfl
      case gC1x16x11 =>
        refine step_append_any _ (by rfl) _ _ 23 (by rfl) B 3 i0 (.int .i64 0) 1 8 Tryz.underlying23 HI.out.1 HI.out.2.1 HI.out.2.2.1 HI.out.2.2.2 rfl (by decide) (.slice a k c) k l (by rfl) HOA.out (.slice (some ⟨w1.heap.size, 0, none⟩) 1 1) 1 [.int .i64 t] (by rfl) (by rfl) HSR.out HON.out HM.out.1 HM.out.2 HBS.out _ rfl ?_
        intro a2 c2 w3 hown hgrow hblk
        have HO3 : Hid (w3.ownsRow B 3 1 (.slice a2 (k + 1) c2) (k + 1) (l ++ [.int .i64 t])) := hown
        have HG3 : Hid (w1.grownBy w3 (Value.slice a k c).ownBlock) := hid (grown_drew (grown_alloc (w := w1.drew) hgrow))
        have HB3 : Hid ((Value.slice a2 (k + 1) c2).ownBlock = (Value.slice a k c).ownBlock ∨ (Value.slice a2 (k + 1) c2).ownBlock = some (w1.heap.size + 1)) := hid (by first | exact hblk | simpa using hblk)
        have hv3 := HG3.out.cell cv HNB.out
        have hz3 := (World.frozen?_of_block (w := w1) (HG3.out.block NB (block_lt_of_cell cv) HNB.out)).trans zv
        have h03 := HG3.out.cell c0 HEB.out
        have h13 := HG3.out.cell c1 HEB.out
        clear hown hgrow hblk
        refine hK.out _ _ (⟨h03, h13⟩) (fun hN => ?_)
        clear hK K hHeld
        have hHeld := hN
        clear hN
        try simp only [Act.put, List.setIfInBounds_toArray, List.set_cons_zero, List.set_cons_succ]
        refine wpAnyH_take (i := 12) (oi := ?oiC1x17x12) (v := ?vvC1x17x12) ?hiC1x17x12 (by kernel_rfl) (by kernel_rfl) (by kernel_rfl) ?hqC1x17x12 ?hyC1x17x12 hHeld ?_
        case hiC1x17x12 => simp only [List.getElem?_toArray, List.getElem?_cons_succ, List.getElem?_cons_zero]; rfl
        case hqC1x17x12 => exact fun _ _ _ h => hQ0 _ _ _ _ _ h
        case hyC1x17x12 => (refine Or.inl ⟨by rfl, ?_⟩; intro w' hSw; (try dsimp only at hSw); go_simp; (try (with_reducible rfl)))
        simp only [Act.put, List.setIfInBounds_toArray, List.set_cons_zero, List.set_cons_succ]
        refine wpAnyH_ready (rs := [13]) (by kernel_rfl) (by simp) ?_
        refine (AllReadyH.cons (o := ?oiC1x18x13) ?hiC1x18x13 (fun K hK => ?gC1x18x13) AllReadyH.nil)
        case hiC1x18x13 => simp only [List.getElem?_toArray, List.getElem?_cons_succ, List.getElem?_cons_zero]; rfl
        case gC1x18x13 =>
          go_simp
          refine hK.out _ _ (⟨keep_set h03 HNE.out, keep_set h13 HNE.out⟩) (fun hN => ?_)
          clear hK K hHeld
          have hHeld := hN
          clear hN
          try simp only [Act.put, List.setIfInBounds_toArray, List.set_cons_zero, List.set_cons_succ]
          refine wpAnyH_done (by kernel_rfl) ?_ _
          exact HK.out _ _ _ _ _ _ _ _ _ _ _ _ _ a2 c2 w3 HO3.out HG3.out HB3.out
end Go.Proofs.YtiigfggebpmlnaaGreatDoor

