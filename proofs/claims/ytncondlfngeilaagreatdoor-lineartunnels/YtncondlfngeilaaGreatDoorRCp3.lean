
import Derived.Test.YtncondlfngeilaaGreatDoorTzA
import Derived.Test.YtncondlfngeilaaGreatDoorTzF
namespace Go.Proofs.YtncondlfngeilaaGreatDoor
open Go.ChangeShapes Go.WideShapes Go.ChangeAt Go.RowKit Go.Proofs.Tryz
set_option linter.unusedSimpArgs false
set_option linter.unusedVariables false
set_option maxRecDepth 100000
set_option maxHeartbeats 8000000

def cregionN (n : Nat) : Code → Option Code
 | .region k o b => if k = n then some (.region k o b) else none
 | .seq a b => match cregionN n a with
  | some c => some c
  | none => cregionN n b
 | .block _ c => cregionN n c
 | .scope c => cregionN n c
 | .loop c => cregionN n c
 | .cond _ a b => match cregionN n a with
  | some c => some c
  | none => cregionN n b
 | _ => none
noncomputable def cpR1 : Code := ((Tryz.f5.body.bind (cregionN 1)).getD .skip)
noncomputable def cpR11 : Code := ((Tryz.f5.body.bind (cregionN 11)).getD .skip)
theorem cp_r11 (FB CB co k n cc an ac : Nat) (aa : Option Addr) (args : List Int) (z0z z1z z2z z3z z4z z7z z8z z9z z10z z11z z12z z13z z14z z15z z16z z17z z18z z19z z20z z21z z22z z23z z24z z25z z26z z27z z28z z29z z30z z31z z32z z33z z34z z35z z36z z37z z38z z39z z40z z41z z42z z43z z44z z45z z46z z47z z48z z49z z50z z51z z52z z53z z54z z55z z56z z57z z58z z59z z60z z61z z62z : Value) (Q0 : Exit → Act → World → Prop) (w1 : World)
  (hQ0 : ∀ c (a : Act) (dd : Option Tmp) v x, Q0 (.panic c) (a.put dd v) x → Q0 (.panic c) a x)
  (f5 : w1.cell? ⟨FB, 5, none⟩ = some (.slice (some ⟨CB, co, none⟩) n cc)) (c6 : w1.cell? ⟨CB, co + k * 9 + 6, none⟩ = some (.slice aa an ac)) (z6 : w1.frozen? ⟨CB, co + k * 9 + 6, none⟩ = false)
  (j0 : (0 : Int) ≤ k) (j1 : (k : Int) < n) (HA : Hid (an = args.length)) (HIL : Hid (IL w1 (.slice aa an ac) args)) (HNE : FB ≠ CB)
  (HK : Hid (∀ y43 y44 y45 y46 y47 y48 y49 y50 y51 y52 y53 y54 y55 a2 c2 w3, Below w1.heap.size w1 w3 → w3.ownsRow w1.heap.size 3 1 (.slice a2 an c2) an (ints args) → Q0 .normal ⟨#[z0z, z1z, z2z, z3z, z4z, .pointer (some ⟨FB, 0, none⟩), .int .i64 (k : Int), z7z, z8z, z9z, z10z, z11z, z12z, z13z, z14z, z15z, z16z, z17z, z18z, z19z, z20z, z21z, z22z, z23z, z24z, z25z, z26z, z27z, z28z, z29z, z30z, z31z, z32z, z33z, z34z, z35z, z36z, z37z, z38z, z39z, z40z, z41z, z42z, y43, y44, y45, y46, y47, y48, y49, y50, y51, y52, y53, y54, y55, z56z, z57z, z58z, z59z, z60z, z61z, z62z], []⟩ (w3.setCell ⟨CB, co + k * 9 + 6, none⟩ (.slice a2 an c2)))) :
  Code.wp prog cpR11 Q0 ⟨#[z0z, z1z, z2z, z3z, z4z, .pointer (some ⟨FB, 0, none⟩), .int .i64 (k : Int), z7z, z8z, z9z, z10z, z11z, z12z, z13z, z14z, z15z, z16z, z17z, z18z, z19z, z20z, z21z, z22z, z23z, z24z, z25z, z26z, z27z, z28z, z29z, z30z, z31z, z32z, z33z, z34z, z35z, z36z, z37z, z38z, z39z, z40z, z41z, z42z, z43z, z44z, z45z, z46z, z47z, z48z, z49z, z50z, z51z, z52z, z53z, z54z, z55z, z56z, z57z, z58z, z59z, z60z, z61z, z62z], []⟩ w1 := by
 obtain ⟨i0, hi, hz0, hz1, hz2⟩ : ∃ i0, prog.info? 3 = some i0 ∧ i0.zero = some (.int .i64 0) ∧ i0.size = 1 ∧ i0.bytes = 8 := info_parts (by kernel_rfl);have HI : Hid (prog.info? 3 = some i0 ∧ i0.zero = some (.int .i64 0) ∧ i0.size = 1 ∧ i0.bytes = 8) := ⟨hi, hz0, hz1, hz2⟩;clear hi hz0 hz1 hz2;have hS : ∀ W, Below w1.heap.size w1 W → (fun w' => w'.cell? ⟨FB, 5, none⟩ = some (.slice (some ⟨CB, co, none⟩) n cc)) W := fun W hW => keep_cell hW f5;have HG : Hid ((w1.drew.alloc (.cells #[] 3)).heap[w1.heap.size]? = some (.cells #[] 3 (0, 0))) := xheap_new w1.drew _
 have HL : Hid ((ints args).length = an * 1) := by
  show (ints args).length = an * 1
  rw [HA.out]; simp [ints_length]
 have HSR : Hid (Srow (w1.drew.alloc (.cells #[] 3)) (.slice aa an ac) an (ints args)) := by
  have h := (HIL.out.keep (bel_alloc (Below.drew (Below.refl w1.heap.size w1)) (.cells #[] 3))).srow;rw [← HA.out] at h;exact h
 have HM : Hid (an ≤ maxLen ∧ an * 8 ≤ 140737488355328) := by
  obtain ⟨_, _, e, h8, _⟩ := HIL.out;rw [← HA.out] at h8;exact ⟨by unfold maxLen; omega, h8⟩
 have x6 : ∀ o, (w1.drew.alloc o).cell? ⟨CB, co + k * 9 + 6, none⟩ = some (.slice aa an ac) := fun o => keep_alloc (w := w1.drew) c6 o;have x6' : ∀ o, (w1.alloc o).cell? ⟨CB, co + k * 9 + 6, none⟩ = some (.slice aa an ac) := fun o => keep_alloc (w := w1) c6 o
 conv => arg 2; whnf
 refine wp_region_held_drew (S := (fun w' => w'.cell? ⟨FB, 5, none⟩ = some (.slice (some ⟨CB, co, none⟩) n cc))) (by kernel_rfl) (f5) (fun hHeld => ?_);refine wpAnyH_take (i := 0) (oi := ?o0) (v := ?v0) ?i0 (by kernel_rfl) (by kernel_rfl) (by kernel_rfl) ?q0 ?y0 hHeld ?_
 case i0 => simp only [zga, zgs, zgz]; rfl
 case q0 => exact fun _ _ _ h => hQ0 _ _ _ _ _ h
 case y0 => refine .inl ⟨by rfl, ?_⟩; intro w' hSw; (try dsimp only at hSw); go_simp; try with_reducible rfl
 simp only [Act.put, zsa, zsz, zss];refine wpAnyH_take (i := 1) (oi := ?o1) (v := ?v1) ?i1 (by kernel_rfl) (by kernel_rfl) (by kernel_rfl) ?q1 ?y1 hHeld ?_
 case i1 => simp only [zga, zgs, zgz]; rfl
 case q1 => exact fun _ _ _ h => hQ0 _ _ _ _ _ h
 case y1 => refine .inl ⟨by rfl, ?_⟩; intro w' hSw; (try dsimp only at hSw); go_simp; try with_reducible rfl
 simp only [Act.put, zsa, zsz, zss];refine wpAnyH_take (i := 2) (oi := ?o2) (v := ?v2) ?i2 (by kernel_rfl) (by kernel_rfl) (by kernel_rfl) ?q2 ?y2 hHeld ?_
 case i2 => simp only [zga, zgs, zgz]; rfl
 case q2 => exact fun _ _ _ h => hQ0 _ _ _ _ _ h
 case y2 => refine .inl ⟨by rfl, ?_⟩; intro w' hSw; (try dsimp only at hSw); go_simp; try with_reducible rfl
 simp only [Act.put, zsa, zsz, zss];refine wpAnyH_take (i := 4) (oi := ?o3) (v := ?v3) ?i3 (by kernel_rfl) (by kernel_rfl) (by kernel_rfl) ?q3 ?y3 hHeld ?_
 case i3 => simp only [zga, zgs, zgz]; rfl
 case q3 => exact fun _ _ _ h => hQ0 _ _ _ _ _ h
 case y3 => refine .inl ⟨by rfl, ?_⟩; intro w' hSw; (try dsimp only at hSw); go_simp; try with_reducible rfl
 simp only [Act.put, zsa, zsz, zss];refine wpAnyH_take (i := 5) (oi := ?o4) (v := ?v4) ?i4 (by kernel_rfl) (by kernel_rfl) (by kernel_rfl) ?q4 ?y4 hHeld ?_
 case i4 => simp only [zga, zgs, zgz]; rfl
 case q4 => exact fun _ _ _ h => hQ0 _ _ _ _ _ h
 case y4 => refine .inl ⟨by rfl, ?_⟩; intro w' hSw; (try dsimp only at hSw); go_simp; try with_reducible rfl
 simp only [Act.put, zsa, zsz, zss];refine wpAnyH_take (i := 6) (oi := ?o5) (v := ?v5) ?i5 (by kernel_rfl) (by kernel_rfl) (by kernel_rfl) ?q5 ?y5 hHeld ?_
 case i5 => simp only [zga, zgs, zgz]; rfl
 case q5 => exact fun _ _ _ h => hQ0 _ _ _ _ _ h
 case y5 => refine .inl ⟨by rfl, ?_⟩; intro w' hSw; (try dsimp only at hSw); go_simp; try with_reducible rfl
 simp only [Act.put, zsa, zsz, zss];refine wpAnyH_take (i := 7) (oi := ?o6) (v := ?v6) ?i6 (by kernel_rfl) (by kernel_rfl) (by kernel_rfl) ?q6 ?y6 hHeld ?_
 case i6 => simp only [zga, zgs, zgz]; rfl
 case q6 => exact fun _ _ _ h => hQ0 _ _ _ _ _ h
 case y6 => refine .inl ⟨by rfl, ?_⟩; intro w' hSw; (try dsimp only at hSw); go_simp; try with_reducible rfl
 simp only [Act.put, zsa, zsz, zss];refine wpAnyH_take (i := 8) (oi := ?o7) (v := ?v7) ?i7 (by kernel_rfl) (by kernel_rfl) (by kernel_rfl) ?q7 ?y7 hHeld ?_
 case i7 => simp only [zga, zgs, zgz]; rfl
 case q7 => exact fun _ _ _ h => hQ0 _ _ _ _ _ h
 case y7 => refine .inl ⟨by rfl, ?_⟩; intro w' hSw; (try dsimp only at hSw); go_simp; try with_reducible rfl
 simp only [Act.put, zsa, zsz, zss];refine wpAnyH_ready (rs := [3, 9]) (by kernel_rfl) (by simp) ?_;refine (AllReadyH.cons (o := ?o8) ?i8 (fun K hK => ?g8) (AllReadyH.cons (o := ?o9) ?i9 (fun K hK => ?g9) AllReadyH.nil))
 case i8 => simp only [zga, zgs, zgz]; rfl
 case i9 => simp only [zga, zgs, zgz]; rfl
 case g8 =>
  go_simp;refine hK.out _ _ (hS _ (bel_alloc (Below.drew (Below.refl _ _)) _)) (fun hN => ?_);clear hK K hHeld;have hHeld := hN;clear hN
  try simp only [Act.put, zsa, zsz, zss]
  refine zr (r := 9) (o := ?o10) (by kernel_rfl) ?i10 (fun K hK => ?g10)
  case i10 => simp only [zga, zgs, zgz]; rfl
  case g10 =>
   go_simp;refine hK.out _ _ (hHeld) (fun hN => ?_);clear hK K hHeld;have hHeld := hN;clear hN
   try simp only [Act.put, zsa, zsz, zss]
   refine zr (r := 10) (o := ?o11) (by kernel_rfl) ?i11 (fun K hK => ?g11)
   case i11 => simp only [zga, zgs, zgz]; rfl
   case g11 =>
    refine step_append_fresh _ (by rfl) _ _ 22 (by rfl) 3 i0 (.int .i64 0) 1 8 underlying22 HI.out.1 HI.out.2.1 HI.out.2.2.1 HI.out.2.2.2 rfl (by decide) w1.heap.size (by rfl) HG.out (.slice aa an ac) an (ints args) (by rfl) HL.out HSR.out (ints_one _) HM.out.1 HM.out.2 ?_;intro a2 c2 w3 hown hbel;have HQ3 : Hid (w3.ownsRow w1.heap.size 3 1 (.slice a2 an c2) an (ints args)) := hown;have HB3 : Hid (Below w1.heap.size w1 w3) := (bel_alloc (Below.drew (Below.refl w1.heap.size w1)) _).trans (grown_below hbel (by simp));have y5 := keep_cell HB3.out f5;have y6 := keep_cell HB3.out c6;have yz := keep_frozen HB3.out c6 z6;clear hown hbel;refine hK.out _ _ (hS _ HB3.out) (fun hN => ?_);clear hK K hHeld;have hHeld := hN;clear hN
    try simp only [Act.put, zsa, zsz, zss]
    refine wpAnyH_take (i := 11) (oi := ?o12) (v := ?v12) ?i12 (by kernel_rfl) (by kernel_rfl) (by kernel_rfl) ?q12 ?y12 hHeld ?_
    case i12 => simp only [zga, zgs, zgz]; rfl
    case q12 => exact fun _ _ _ h => hQ0 _ _ _ _ _ h
    case y12 => refine .inl ⟨by rfl, ?_⟩; intro w' hSw; (try dsimp only at hSw); go_simp; try with_reducible rfl
    simp only [Act.put, zsa, zsz, zss];refine wpAnyH_take (i := 12) (oi := ?o13) (v := ?v13) ?i13 (by kernel_rfl) (by kernel_rfl) (by kernel_rfl) ?q13 ?y13 hHeld ?_
    case i13 => simp only [zga, zgs, zgz]; rfl
    case q13 => exact fun _ _ _ h => hQ0 _ _ _ _ _ h
    case y13 => refine .inl ⟨by rfl, ?_⟩; intro w' hSw; (try dsimp only at hSw); go_simp; try with_reducible rfl
    simp only [Act.put, zsa, zsz, zss];refine zr (r := 13) (o := ?o14) (by kernel_rfl) ?i14 (fun K hK => ?g14)
    case i14 => simp only [zga, zgs, zgz]; rfl
    case g14 =>
     go_simp;refine hK.out _ _ (keep_set y5 HNE) (fun hN => ?_);clear hK K hHeld;have hHeld := hN;clear hN
     try simp only [Act.put, zsa, zsz, zss]
     refine wpAnyH_done (by kernel_rfl) ?_ _;clear hHeld;exact HK.out _ _ _ _ _ _ _ _ _ _ _ _ _ a2 c2 w3 HB3.out HQ3.out
 case g9 =>
  go_simp;refine hK.out _ _ (hHeld) (fun hN => ?_);clear hK K hHeld;have hHeld := hN;clear hN
  try simp only [Act.put, zsa, zsz, zss]
  refine zr (r := 3) (o := ?o15) (by kernel_rfl) ?i15 (fun K hK => ?g15)
  case i15 => simp only [zga, zgs, zgz]; rfl
  case g15 =>
   go_simp;refine hK.out _ _ (hS _ (bel_alloc (Below.drew (Below.refl _ _)) _)) (fun hN => ?_);clear hK K hHeld;have hHeld := hN;clear hN
   try simp only [Act.put, zsa, zsz, zss]
   refine zr (r := 10) (o := ?o16) (by kernel_rfl) ?i16 (fun K hK => ?g16)
   case i16 => simp only [zga, zgs, zgz]; rfl
   case g16 =>
    refine step_append_fresh _ (by rfl) _ _ 22 (by rfl) 3 i0 (.int .i64 0) 1 8 underlying22 HI.out.1 HI.out.2.1 HI.out.2.2.1 HI.out.2.2.2 rfl (by decide) w1.heap.size (by rfl) HG.out (.slice aa an ac) an (ints args) (by rfl) HL.out HSR.out (ints_one _) HM.out.1 HM.out.2 ?_;intro a2 c2 w3 hown hbel;have HQ3 : Hid (w3.ownsRow w1.heap.size 3 1 (.slice a2 an c2) an (ints args)) := hown;have HB3 : Hid (Below w1.heap.size w1 w3) := (bel_alloc (Below.drew (Below.refl w1.heap.size w1)) _).trans (grown_below hbel (by simp));have y5 := keep_cell HB3.out f5;have y6 := keep_cell HB3.out c6;have yz := keep_frozen HB3.out c6 z6;clear hown hbel;refine hK.out _ _ (hS _ HB3.out) (fun hN => ?_);clear hK K hHeld;have hHeld := hN;clear hN
    try simp only [Act.put, zsa, zsz, zss]
    refine wpAnyH_take (i := 11) (oi := ?o17) (v := ?v17) ?i17 (by kernel_rfl) (by kernel_rfl) (by kernel_rfl) ?q17 ?y17 hHeld ?_
    case i17 => simp only [zga, zgs, zgz]; rfl
    case q17 => exact fun _ _ _ h => hQ0 _ _ _ _ _ h
    case y17 => refine .inl ⟨by rfl, ?_⟩; intro w' hSw; (try dsimp only at hSw); go_simp; try with_reducible rfl
    simp only [Act.put, zsa, zsz, zss];refine wpAnyH_take (i := 12) (oi := ?o18) (v := ?v18) ?i18 (by kernel_rfl) (by kernel_rfl) (by kernel_rfl) ?q18 ?y18 hHeld ?_
    case i18 => simp only [zga, zgs, zgz]; rfl
    case q18 => exact fun _ _ _ h => hQ0 _ _ _ _ _ h
    case y18 => refine .inl ⟨by rfl, ?_⟩; intro w' hSw; (try dsimp only at hSw); go_simp; try with_reducible rfl
    simp only [Act.put, zsa, zsz, zss];refine zr (r := 13) (o := ?o19) (by kernel_rfl) ?i19 (fun K hK => ?g19)
    case i19 => simp only [zga, zgs, zgz]; rfl
    case g19 =>
     go_simp;refine hK.out _ _ (keep_set y5 HNE) (fun hN => ?_);clear hK K hHeld;have hHeld := hN;clear hN
     try simp only [Act.put, zsa, zsz, zss]
     refine wpAnyH_done (by kernel_rfl) ?_ _;clear hHeld;exact HK.out _ _ _ _ _ _ _ _ _ _ _ _ _ a2 c2 w3 HB3.out HQ3.out

structure CpR (w1 W : World) (QB : Nat) (gv : Value) (main : Int) (globals : List Int) : Prop where
 bel : Below w1.heap.size w1 W
 box : W.heap[QB]? = some (.cells #[gv, .slice none 0 0, .int .i64 main] 29 (0, 0))
 gl : ILq (fun k => (w1.heap.size ≤ k ∧ k < W.heap.size) ∧ k ≠ QB) W gv globals
 ge : w1.heap.size ≤ QB
theorem CpR.a {w1 w3 : World} {g ng : Nat} {gv : Value} {main : Int} {globals : List Int} (hn : ng = globals.length) (h8 : ng * 8 ≤ 140737488355328) (hb : Below w1.heap.size w1 w3) (ho : w3.ownsRow g 3 1 gv ng (ints globals)) (hg : w1.heap.size ≤ g) :
  CpR w1 (w3.alloc (.cells #[gv, .slice none 0 0, .int .i64 main] 29)) w3.heap.size gv main globals := by
 subst hn;have q := (IL.fresh (w' := w3) ho h8).keep (Kc.all ((Below.refl w3.heap.size w3).alloc (Nat.le_refl _) (.cells #[gv, .slice none 0 0, .int .i64 main] 29)));exact ⟨bel_alloc hb _, xheap_new w3 _, q.mono (fun k hk => ⟨⟨by omega, by rw [World.size_alloc]; omega⟩, by omega⟩), hb.size⟩
theorem CpR.b {w1 w3 : World} {g ng QB : Nat} {gv : Value} {main : Int} {globals : List Int} (hn : ng = globals.length) (h8 : ng * 8 ≤ 140737488355328) (hb : Below w1.heap.size w1 w3) (hq : w3.heap[QB]? = some (.cells #[.slice none 0 0, .slice none 0 0, .int .i64 0] 29 (0, 0))) (hge : w1.heap.size ≤ QB) (ho : w3.ownsRow g 3 1 gv ng (ints globals)) (hg : w1.heap.size ≤ g) :
  CpR w1 (((w3.setCell ⟨QB, 0, none⟩ gv).setCell ⟨QB, 1, none⟩ (.slice none 0 0)).setCell ⟨QB, 2, none⟩ (.int .i64 main)) QB gv main globals := by
 subst hn
 have hne : ∀ b, gv.ownBlock = some b → b ≠ QB := fun b hbk e => by
  subst e;obtain ⟨_, ⟨e0, _⟩ | ⟨g2, c2, cur, e0, _, hh, _⟩⟩ := ho
  ·rw [e0] at hbk; cases hbk
  ·rw [e0] at hbk
   cases hbk
   rw [hq] at hh
   injection hh with hh
   injection hh with _ hh
   exact absurd hh (by decide)
 have q : ILq (fun k => (w1.heap.size ≤ k ∧ k < w3.heap.size) ∧ k ≠ QB) w3 gv globals := ⟨IL.own ho h8, fun _ b o s n c e => by
  have hbk : gv.ownBlock = some b := by rw [e]; rfl
  have := xrow_lt ho hbk;exact ⟨⟨by omega, this.1⟩, hne b hbk⟩⟩
 refine ⟨((hb.setCell hge _).setCell hge _).setCell hge _, ?_, ?_, hge⟩
 ·rw [xheap_set_same (xheap_set_same (xheap_set_same hq _) _) _]; rfl
 ·have k := (((Kc.refl (fun k => (w1.heap.size ≤ k ∧ k < w3.heap.size) ∧ k ≠ QB) w3).set (q := ⟨QB, 0, none⟩) (fun h => h.2 rfl) gv).set (q := ⟨QB, 1, none⟩) (fun h => h.2 rfl) (.slice none 0 0)).set (q := ⟨QB, 2, none⟩) (fun h => h.2 rfl) (.int .i64 main)
  exact (q.keep k).mono (fun j hj => ⟨⟨hj.1.1, by simp only [xsize_set]; exact hj.1.2⟩, hj.2⟩)
theorem cp_r1 (PB ng gc : Nat) (ga : Option Addr) (main : Int) (globals : List Int) (z0z z2z z3z z4z z5z z6z z7z z8z z9z z10z z11z z12z z13z z14z z15z z16z z17z z18z z19z z20z z21z z22z z23z z24z z25z z26z z27z z28z z29z z30z z31z z32z z33z z34z z35z z36z z37z z38z z39z z40z z41z z42z z43z z44z z45z z46z z47z z48z z49z z50z z51z z52z z53z z54z z55z z56z z57z z58z z59z z60z z61z z62z : Value) (K : Act → World → Prop) (Q0 : Exit → Act → World → Prop) (w1 : World)
  (hQ0 : ∀ c (a : Act) (dd : Option Tmp) v x, Q0 (.panic c) (a.put dd v) x → Q0 (.panic c) a x)
  (p0 : w1.cell? ⟨PB, 0, none⟩ = some (.slice ga ng gc)) (p2 : w1.cell? ⟨PB, 2, none⟩ = some (.int .i64 main)) (HA : Hid (ng = globals.length)) (HIL : Hid (IL w1 (.slice ga ng gc) globals))
  (HK : Hid (∀ y7 y8 y9 y10 y11 y12 y13 QB a2 c2 W, CpR w1 W QB (.slice a2 ng c2) main globals → K ⟨#[z0z, .pointer (some ⟨PB, 0, none⟩), z2z, .pointer (some ⟨QB, 0, none⟩), z4z, z5z, z6z, y7, y8, y9, y10, y11, y12, y13, z14z, z15z, z16z, z17z, z18z, z19z, z20z, z21z, z22z, z23z, z24z, z25z, z26z, z27z, z28z, z29z, z30z, z31z, z32z, z33z, z34z, z35z, z36z, z37z, z38z, z39z, z40z, z41z, z42z, z43z, z44z, z45z, z46z, z47z, z48z, z49z, z50z, z51z, z52z, z53z, z54z, z55z, z56z, z57z, z58z, z59z, z60z, z61z, z62z], []⟩ W)) :
  Code.wp prog cpR1 (Exit.then K Q0) ⟨#[z0z, .pointer (some ⟨PB, 0, none⟩), z2z, z3z, z4z, z5z, z6z, z7z, z8z, z9z, z10z, z11z, z12z, z13z, z14z, z15z, z16z, z17z, z18z, z19z, z20z, z21z, z22z, z23z, z24z, z25z, z26z, z27z, z28z, z29z, z30z, z31z, z32z, z33z, z34z, z35z, z36z, z37z, z38z, z39z, z40z, z41z, z42z, z43z, z44z, z45z, z46z, z47z, z48z, z49z, z50z, z51z, z52z, z53z, z54z, z55z, z56z, z57z, z58z, z59z, z60z, z61z, z62z], []⟩ w1 := by
 obtain ⟨i0, hi, hz0, hz1, hz2⟩ : ∃ i0, prog.info? 3 = some i0 ∧ i0.zero = some (.int .i64 0) ∧ i0.size = 1 ∧ i0.bytes = 8 := info_parts (by kernel_rfl);have HI : Hid (prog.info? 3 = some i0 ∧ i0.zero = some (.int .i64 0) ∧ i0.size = 1 ∧ i0.bytes = 8) := ⟨hi, hz0, hz1, hz2⟩;clear hi hz0 hz1 hz2
 have HL : Hid ((ints globals).length = ng * 1) := by
  show (ints globals).length = ng * 1
  rw [HA.out]; simp [ints_length]
 have HM : Hid (ng ≤ maxLen ∧ ng * 8 ≤ 140737488355328) := by
  obtain ⟨_, _, e, h8, _⟩ := HIL.out;rw [← HA.out] at h8;exact ⟨by unfold maxLen; omega, h8⟩
 have HSRf : Hid (∀ W, Below w1.heap.size w1 W → Srow W (.slice ga ng gc) ng (ints globals)) := fun W hW => by
  have h := (HIL.out.keep hW).srow;rw [← HA.out] at h;exact h
 have HG0 : Hid ((w1.drew.alloc (.cells #[] 3)).heap[w1.heap.size]? = some (.cells #[] 3 (0, 0))) := xheap_new w1.drew _;have HW0 : Hid (Below w1.heap.size w1 (w1.drew.alloc (.cells #[] 3))) := bel_alloc (Below.drew (Below.refl _ _)) _;have HG07 : Hid (((w1.drew.alloc (.cells #[] 3)).alloc (.cells #[.slice none 0 0, .slice none 0 0, .int .i64 0] 29)).heap[w1.heap.size]? = some (.cells #[] 3 (0, 0))) := (Below.heap_alloc (w1.drew.alloc (.cells #[] 3)) _ _ (by simp)).trans HG0.out;have HW07 : Hid (Below w1.heap.size w1 ((w1.drew.alloc (.cells #[] 3)).alloc (.cells #[.slice none 0 0, .slice none 0 0, .int .i64 0] 29))) := bel_alloc HW0.out _
 have HZ07 : Hid (∀ w3, World.grownBy ((w1.drew.alloc (.cells #[] 3)).alloc (.cells #[.slice none 0 0, .slice none 0 0, .int .i64 0] 29)) w3 (some w1.heap.size) → w3.heap[w1.heap.size + 1]? = some (.cells #[.slice none 0 0, .slice none 0 0, .int .i64 0] 29 (0, 0))) := fun w3 h => by
  rw [h.block _ (by simp) (by simp)];have h := xheap_new (w1.drew.alloc (.cells #[] 3)) (.cells #[.slice none 0 0, .slice none 0 0, .int .i64 0] 29);rw [World.size_alloc] at h;exact h
 have HW7 : Hid (Below w1.heap.size w1 (w1.drew.alloc (.cells #[.slice none 0 0, .slice none 0 0, .int .i64 0] 29))) := bel_alloc (Below.drew (Below.refl _ _)) _;have HW70 : Hid (Below w1.heap.size w1 ((w1.drew.alloc (.cells #[.slice none 0 0, .slice none 0 0, .int .i64 0] 29)).alloc (.cells #[] 3))) := bel_alloc HW7.out _
 have HG70 : Hid (((w1.drew.alloc (.cells #[.slice none 0 0, .slice none 0 0, .int .i64 0] 29)).alloc (.cells #[] 3)).heap[w1.heap.size + 1]? = some (.cells #[] 3 (0, 0))) := by
  have h := xheap_new (w1.drew.alloc (.cells #[.slice none 0 0, .slice none 0 0, .int .i64 0] 29)) (.cells #[] 3);rw [World.size_alloc] at h;exact h
 have HZ70 : Hid (∀ w3, World.grownBy ((w1.drew.alloc (.cells #[.slice none 0 0, .slice none 0 0, .int .i64 0] 29)).alloc (.cells #[] 3)) w3 (some (w1.heap.size + 1)) → w3.heap[w1.heap.size]? = some (.cells #[.slice none 0 0, .slice none 0 0, .int .i64 0] 29 (0, 0))) := fun w3 h => by
  rw [h.block _ (by simp; omega) (by simp), Below.heap_alloc (w1.drew.alloc (.cells #[.slice none 0 0, .slice none 0 0, .int .i64 0] 29)) _ _ (by simp)];exact xheap_new w1.drew _
 conv => arg 2; whnf
 refine wp_region_held_drew (S := (fun w' => w'.cell? ⟨PB, 0, none⟩ = some (.slice ga ng gc) ∧ w'.cell? ⟨PB, 2, none⟩ = some (.int .i64 main))) (by kernel_rfl) (⟨p0, p2⟩) (fun hHeld => ?_);refine wpAnyH_take (i := 1) (oi := ?o0) (v := ?v0) ?i0 (by kernel_rfl) (by kernel_rfl) (by kernel_rfl) ?q0 ?y0 hHeld ?_
 case i0 => simp only [zga, zgs, zgz]; rfl
 case q0 => exact fun _ _ _ h => hQ0 _ _ _ _ _ h
 case y0 => refine .inl ⟨by rfl, ?_⟩; intro w' hSw; (try dsimp only at hSw); go_simp; try with_reducible rfl
 simp only [Act.put, zsa, zsz, zss];refine wpAnyH_take (i := 2) (oi := ?o1) (v := ?v1) ?i1 (by kernel_rfl) (by kernel_rfl) (by kernel_rfl) ?q1 ?y1 hHeld ?_
 case i1 => simp only [zga, zgs, zgz]; rfl
 case q1 => exact fun _ _ _ h => hQ0 _ _ _ _ _ h
 case y1 => refine .inl ⟨by rfl, ?_⟩; intro w' hSw; (try dsimp only at hSw); go_simp; try with_reducible rfl
 simp only [Act.put, zsa, zsz, zss];refine wpAnyH_take (i := 4) (oi := ?o2) (v := ?v2) ?i2 (by kernel_rfl) (by kernel_rfl) (by kernel_rfl) ?q2 ?y2 hHeld ?_
 case i2 => simp only [zga, zgs, zgz]; rfl
 case q2 => exact fun _ _ _ h => hQ0 _ _ _ _ _ h
 case y2 => refine .inl ⟨by rfl, ?_⟩; intro w' hSw; (try dsimp only at hSw); go_simp; try with_reducible rfl
 simp only [Act.put, zsa, zsz, zss];refine wpAnyH_take (i := 5) (oi := ?o3) (v := ?v3) ?i3 (by kernel_rfl) (by kernel_rfl) (by kernel_rfl) ?q3 ?y3 hHeld ?_
 case i3 => simp only [zga, zgs, zgz]; rfl
 case q3 => exact fun _ _ _ h => hQ0 _ _ _ _ _ h
 case y3 => refine .inl ⟨by rfl, ?_⟩; intro w' hSw; (try dsimp only at hSw); go_simp; try with_reducible rfl
 simp only [Act.put, zsa, zsz, zss];refine wpAnyH_ready (rs := [0, 7]) (by kernel_rfl) (by simp) ?_;refine (AllReadyH.cons (o := ?o4) ?i4 (fun K hK => ?g4) (AllReadyH.cons (o := ?o5) ?i5 (fun K hK => ?g5) AllReadyH.nil))
 case i4 => simp only [zga, zgs, zgz]; rfl
 case i5 => simp only [zga, zgs, zgz]; rfl
 case g4 =>
  go_simp;refine hK.out _ _ (⟨keep_alloc hHeld.1 _, keep_alloc hHeld.2 _⟩) (fun hN => ?_);clear hK K hHeld;have hHeld := hN;clear hN
  try simp only [Act.put, zsa, zsz, zss]
  refine wpAnyH_ready (rs := [3, 7]) (by kernel_rfl) (by simp) ?_;refine (AllReadyH.cons (o := ?o6) ?i6 (fun K hK => ?g6) (AllReadyH.cons (o := ?o7) ?i7 (fun K hK => ?g7) AllReadyH.nil))
  case i6 => simp only [zga, zgs, zgz]; rfl
  case i7 => simp only [zga, zgs, zgz]; rfl
  case g6 =>
   have HG : Hid ((w1.drew.alloc (.cells #[] 3)).heap[w1.heap.size]? = some (.cells #[] 3 (0, 0))) := HG0.out;have HW : Hid (Below w1.heap.size w1 (w1.drew.alloc (.cells #[] 3))) := HW0.out;have HSR : Hid (Srow (w1.drew.alloc (.cells #[] 3)) (.slice ga ng gc) ng (ints globals)) := HSRf.out (w1.drew.alloc (.cells #[] 3)) HW.out;refine step_append_fresh _ (by rfl) _ _ 22 (by rfl) 3 i0 (.int .i64 0) 1 8 underlying22 HI.out.1 HI.out.2.1 HI.out.2.2.1 HI.out.2.2.2 rfl (by decide) w1.heap.size (by rfl) HG.out (.slice ga ng gc) ng (ints globals) (by rfl) HL.out HSR.out (ints_one _) HM.out.1 HM.out.2 ?_;intro a2 c2 w3 hown hgrow;have HO3 : Hid (w3.ownsRow w1.heap.size 3 1 (.slice a2 ng c2) ng (ints globals)) := hown;have HR3 : Hid ((w1.drew.alloc (.cells #[] 3)).grownBy w3 (some w1.heap.size)) := hgrow;have HB3 : Hid (Below w1.heap.size w1 w3) := HW.out.trans ((grown_below hgrow (by first | (simp; done) | (simp; omega))).mono (by omega));clear hown hgrow;refine hK.out _ _ (⟨keep_cell HB3.out p0, keep_cell HB3.out p2⟩) (fun hN => ?_);clear hK K hHeld;have hHeld := hN;clear hN
   try simp only [Act.put, zsa, zsz, zss]
   refine wpAnyH_take (i := 6) (oi := ?o8) (v := ?v8) ?i8 (by kernel_rfl) (by kernel_rfl) (by kernel_rfl) ?q8 ?y8 hHeld ?_
   case i8 => simp only [zga, zgs, zgz]; rfl
   case q8 => exact fun _ _ _ h => hQ0 _ _ _ _ _ h
   case y8 => refine .inl ⟨by rfl, ?_⟩; intro w' hSw; (try dsimp only at hSw); go_simp; try with_reducible rfl
   simp only [Act.put, zsa, zsz, zss];refine zr (r := 7) (o := ?o9) (by kernel_rfl) ?i9 (fun K hK => ?g9)
   case i9 => simp only [zga, zgs, zgz]; rfl
   case g9 =>
    go_simp;have HB4 : Hid (w3.heap.size = w3.heap.size) := rfl;refine hK.out _ _ (⟨keep_alloc hHeld.1 _, keep_alloc hHeld.2 _⟩) (fun hN => ?_);clear hK K hHeld;have hHeld := hN;clear hN
    try simp only [Act.put, zsa, zsz, zss]
    refine zr (r := 8) (o := ?o10) (by kernel_rfl) ?i10 (fun K hK => ?g10)
    case i10 => simp only [zga, zgs, zgz]; rfl
    case g10 =>
     have HE : Hid (CpR w1 (w3.alloc (.cells #[.slice a2 ng c2, .slice none 0 0, .int .i64 main] 29)) w3.heap.size (.slice a2 ng c2) main globals) := CpR.a HA.out HM.out.2 HB3.out HO3.out (Nat.le_refl _);go_simp;refine hK.out _ _ (⟨keep_cell HE.out.bel p0, keep_cell HE.out.bel p2⟩) (fun hN => ?_);clear hK K hHeld;have hHeld := hN;clear hN
     try simp only [Act.put, zsa, zsz, zss]
     refine wpAnyH_done (by kernel_rfl) ?_ _;exact HK.out _ _ _ _ _ _ _ _ a2 c2 _ HE.out
  case g7 =>
   go_simp;refine hK.out _ _ (⟨keep_alloc hHeld.1 _, keep_alloc hHeld.2 _⟩) (fun hN => ?_);clear hK K hHeld;have hHeld := hN;clear hN
   try simp only [Act.put, zsa, zsz, zss]
   refine zr (r := 3) (o := ?o11) (by kernel_rfl) ?i11 (fun K hK => ?g11)
   case i11 => simp only [zga, zgs, zgz]; rfl
   case g11 =>
    have HG : Hid (((w1.drew.alloc (.cells #[] 3)).alloc (.cells #[.slice none 0 0, .slice none 0 0, .int .i64 0] 29)).heap[w1.heap.size]? = some (.cells #[] 3 (0, 0))) := HG07.out;have HW : Hid (Below w1.heap.size w1 ((w1.drew.alloc (.cells #[] 3)).alloc (.cells #[.slice none 0 0, .slice none 0 0, .int .i64 0] 29))) := HW07.out;have HSR : Hid (Srow ((w1.drew.alloc (.cells #[] 3)).alloc (.cells #[.slice none 0 0, .slice none 0 0, .int .i64 0] 29)) (.slice ga ng gc) ng (ints globals)) := HSRf.out ((w1.drew.alloc (.cells #[] 3)).alloc (.cells #[.slice none 0 0, .slice none 0 0, .int .i64 0] 29)) HW.out;refine step_append_fresh _ (by rfl) _ _ 22 (by rfl) 3 i0 (.int .i64 0) 1 8 underlying22 HI.out.1 HI.out.2.1 HI.out.2.2.1 HI.out.2.2.2 rfl (by decide) w1.heap.size (by rfl) HG.out (.slice ga ng gc) ng (ints globals) (by rfl) HL.out HSR.out (ints_one _) HM.out.1 HM.out.2 ?_;intro a2 c2 w3 hown hgrow;have HO3 : Hid (w3.ownsRow w1.heap.size 3 1 (.slice a2 ng c2) ng (ints globals)) := hown;have HR3 : Hid (((w1.drew.alloc (.cells #[] 3)).alloc (.cells #[.slice none 0 0, .slice none 0 0, .int .i64 0] 29)).grownBy w3 (some w1.heap.size)) := hgrow;have HB3 : Hid (Below w1.heap.size w1 w3) := HW.out.trans ((grown_below hgrow (by first | (simp; done) | (simp; omega))).mono (by omega));clear hown hgrow;have HQ3 : Hid (w3.heap[w1.heap.size + 1]? = some (.cells #[.slice none 0 0, .slice none 0 0, .int .i64 0] 29 (0, 0))) := HZ07.out _ HR3.out;have q0 := xheap_cell (o := 0) HQ3.out rfl;have q1 := xheap_cell (o := 1) HQ3.out rfl;have q2 := xheap_cell (o := 2) HQ3.out rfl;have u0 := xheap_frozen (o := 0) HQ3.out;have u1 := xheap_frozen (o := 1) HQ3.out;have u2 := xheap_frozen (o := 2) HQ3.out;refine hK.out _ _ (⟨keep_cell HB3.out p0, keep_cell HB3.out p2⟩) (fun hN => ?_);clear hK K hHeld;have hHeld := hN;clear hN
    try simp only [Act.put, zsa, zsz, zss]
    refine wpAnyH_take (i := 6) (oi := ?o12) (v := ?v12) ?i12 (by kernel_rfl) (by kernel_rfl) (by kernel_rfl) ?q12 ?y12 hHeld ?_
    case i12 => simp only [zga, zgs, zgz]; rfl
    case q12 => exact fun _ _ _ h => hQ0 _ _ _ _ _ h
    case y12 => refine .inl ⟨by rfl, ?_⟩; intro w' hSw; (try dsimp only at hSw); go_simp; try with_reducible rfl
    simp only [Act.put, zsa, zsz, zss];refine zr (r := 8) (o := ?o13) (by kernel_rfl) ?i13 (fun K hK => ?g13)
    case i13 => simp only [zga, zgs, zgz]; rfl
    case g13 =>
     have HE : Hid (CpR w1 (((w3.setCell ⟨(w1.heap.size + 1), 0, none⟩ (.slice a2 ng c2)).setCell ⟨(w1.heap.size + 1), 1, none⟩ (.slice none 0 0)).setCell ⟨(w1.heap.size + 1), 2, none⟩ (.int .i64 main)) (w1.heap.size + 1) (.slice a2 ng c2) main globals) := CpR.b HA.out HM.out.2 HB3.out HQ3.out (by omega) HO3.out (by omega);go_simp;refine hK.out _ _ (⟨keep_cell HE.out.bel p0, keep_cell HE.out.bel p2⟩) (fun hN => ?_);clear hK K hHeld;have hHeld := hN;clear hN
     try simp only [Act.put, zsa, zsz, zss]
     refine wpAnyH_done (by kernel_rfl) ?_ _;exact HK.out _ _ _ _ _ _ _ _ a2 c2 _ HE.out
 case g5 =>
  go_simp;refine hK.out _ _ (⟨keep_alloc hHeld.1 _, keep_alloc hHeld.2 _⟩) (fun hN => ?_);clear hK K hHeld;have hHeld := hN;clear hN
  try simp only [Act.put, zsa, zsz, zss]
  refine zr (r := 0) (o := ?o14) (by kernel_rfl) ?i14 (fun K hK => ?g14)
  case i14 => simp only [zga, zgs, zgz]; rfl
  case g14 =>
   go_simp;refine hK.out _ _ (⟨keep_alloc hHeld.1 _, keep_alloc hHeld.2 _⟩) (fun hN => ?_);clear hK K hHeld;have hHeld := hN;clear hN
   try simp only [Act.put, zsa, zsz, zss]
   refine zr (r := 3) (o := ?o15) (by kernel_rfl) ?i15 (fun K hK => ?g15)
   case i15 => simp only [zga, zgs, zgz]; rfl
   case g15 =>
    have HG : Hid (((w1.drew.alloc (.cells #[.slice none 0 0, .slice none 0 0, .int .i64 0] 29)).alloc (.cells #[] 3)).heap[(w1.heap.size + 1)]? = some (.cells #[] 3 (0, 0))) := HG70.out;have HW : Hid (Below w1.heap.size w1 ((w1.drew.alloc (.cells #[.slice none 0 0, .slice none 0 0, .int .i64 0] 29)).alloc (.cells #[] 3))) := HW70.out;have HSR : Hid (Srow ((w1.drew.alloc (.cells #[.slice none 0 0, .slice none 0 0, .int .i64 0] 29)).alloc (.cells #[] 3)) (.slice ga ng gc) ng (ints globals)) := HSRf.out ((w1.drew.alloc (.cells #[.slice none 0 0, .slice none 0 0, .int .i64 0] 29)).alloc (.cells #[] 3)) HW.out;refine step_append_fresh _ (by rfl) _ _ 22 (by rfl) 3 i0 (.int .i64 0) 1 8 underlying22 HI.out.1 HI.out.2.1 HI.out.2.2.1 HI.out.2.2.2 rfl (by decide) (w1.heap.size + 1) (by rfl) HG.out (.slice ga ng gc) ng (ints globals) (by rfl) HL.out HSR.out (ints_one _) HM.out.1 HM.out.2 ?_;intro a2 c2 w3 hown hgrow;have HO3 : Hid (w3.ownsRow (w1.heap.size + 1) 3 1 (.slice a2 ng c2) ng (ints globals)) := hown;have HR3 : Hid (((w1.drew.alloc (.cells #[.slice none 0 0, .slice none 0 0, .int .i64 0] 29)).alloc (.cells #[] 3)).grownBy w3 (some (w1.heap.size + 1))) := hgrow;have HB3 : Hid (Below w1.heap.size w1 w3) := HW.out.trans ((grown_below hgrow (by first | (simp; done) | (simp; omega))).mono (by omega));clear hown hgrow;have HQ3 : Hid (w3.heap[w1.heap.size]? = some (.cells #[.slice none 0 0, .slice none 0 0, .int .i64 0] 29 (0, 0))) := HZ70.out _ HR3.out;have q0 := xheap_cell (o := 0) HQ3.out rfl;have q1 := xheap_cell (o := 1) HQ3.out rfl;have q2 := xheap_cell (o := 2) HQ3.out rfl;have u0 := xheap_frozen (o := 0) HQ3.out;have u1 := xheap_frozen (o := 1) HQ3.out;have u2 := xheap_frozen (o := 2) HQ3.out;refine hK.out _ _ (⟨keep_cell HB3.out p0, keep_cell HB3.out p2⟩) (fun hN => ?_);clear hK K hHeld;have hHeld := hN;clear hN
    try simp only [Act.put, zsa, zsz, zss]
    refine wpAnyH_take (i := 6) (oi := ?o16) (v := ?v16) ?i16 (by kernel_rfl) (by kernel_rfl) (by kernel_rfl) ?q16 ?y16 hHeld ?_
    case i16 => simp only [zga, zgs, zgz]; rfl
    case q16 => exact fun _ _ _ h => hQ0 _ _ _ _ _ h
    case y16 => refine .inl ⟨by rfl, ?_⟩; intro w' hSw; (try dsimp only at hSw); go_simp; try with_reducible rfl
    simp only [Act.put, zsa, zsz, zss];refine zr (r := 8) (o := ?o17) (by kernel_rfl) ?i17 (fun K hK => ?g17)
    case i17 => simp only [zga, zgs, zgz]; rfl
    case g17 =>
     have HE : Hid (CpR w1 (((w3.setCell ⟨w1.heap.size, 0, none⟩ (.slice a2 ng c2)).setCell ⟨w1.heap.size, 1, none⟩ (.slice none 0 0)).setCell ⟨w1.heap.size, 2, none⟩ (.int .i64 main)) w1.heap.size (.slice a2 ng c2) main globals) := CpR.b HA.out HM.out.2 HB3.out HQ3.out (by omega) HO3.out (by omega);go_simp;refine hK.out _ _ (⟨keep_cell HE.out.bel p0, keep_cell HE.out.bel p2⟩) (fun hN => ?_);clear hK K hHeld;have hHeld := hN;clear hN
     try simp only [Act.put, zsa, zsz, zss]
     refine wpAnyH_done (by kernel_rfl) ?_ _;exact HK.out _ _ _ _ _ _ _ _ a2 c2 _ HE.out
end Go.Proofs.YtncondlfngeilaaGreatDoor
