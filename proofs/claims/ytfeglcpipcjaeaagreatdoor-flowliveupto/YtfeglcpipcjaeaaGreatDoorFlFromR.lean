/- Package flow: the search's regions that append, that yield. -/
import Derived.Test.YtfeglcpipcjaeaaGreatDoorFlMath
namespace Go.Proofs.YtfeglcpipcjaeaaGreatDoor
open Go.ChangeShapes Go.WideShapes Go.ChangeAt Go.RowKit
set_option linter.unusedSimpArgs false
set_option linter.unusedVariables false

noncomputable def frR6 : Code := ((Tryz.f65.body.bind (regionNF 6)).getD .skip)
noncomputable def frR16 : Code := ((Tryz.f65.body.bind (regionNF 16)).getD .skip)
noncomputable def frR10 : Code := ((Tryz.f65.body.bind (regionNF 10)).getD .skip)
/-- A round that goes on. -/
def yT (J : World → Prop) : Ending → World → Prop := fun e W => e = .returned (.bool true) ∧ J W
theorem grown_alloc {w W : World} {o : Obj} {row : Option Nat} (h : (w.alloc o).grownBy W row) : w.grownBy W row :=
  ⟨h.os, h.tape, h.output, by have := h.size; rw [World.size_alloc] at this; omega, fun k hk hn => by
    rw [h.block k (by rw [World.size_alloc]; omega) hn]; exact Below.heap_alloc w o k hk⟩

set_option maxHeartbeats 4000000 in
set_option maxRecDepth 100000 in
theorem fr_r6 (H : Nat) (a4 : Option Addr) (n4 c4 : Nat) (x : Int) (l : List Value) (w1 : World) (z0z z1z z2z z3z z5z z7z z8z z9z z10z z11z z12z z13z z14z z15z z16z z17z z18z z19z z20z z21z z22z z23z z24z z25z z26z z27z z28z z29z z30z z31z z32z z33z z34z z35z z36z z37z z38z z39z z40z z41z z42z z43z z44z z45z z46z z47z z48z z49z z50z z51z z52z z53z z54z z55z z56z z57z z58z z59z z60z z61z z62z z63z z64z z65z z66z z67z z68z z69z z70z z71z z72z z73z z74z z75z z76z z77z z78z z79z z80z z81z z82z : Value) (K : Act → World → Prop) (QQ : Exit → Act → World → Prop)
    (hn : n4 ≤ 1000000) (HO : Hid (w1.ownsRow H 3 1 (.slice a4 n4 c4) n4 l)) (HH : Hid (H ≤ w1.heap.size))
    (HK : Hid (∀ a5 c5 W y29 y30 y31 y32, W.ownsRow H 3 1 (.slice a5 (n4 + 1) c5) (n4 + 1) (l ++ [.int .i64 x]) → w1.grownBy W (Value.slice a4 n4 c4).ownBlock → ((Value.slice a5 (n4 + 1) c5).ownBlock = (Value.slice a4 n4 c4).ownBlock ∨ ∃ k, (Value.slice a5 (n4 + 1) c5).ownBlock = some k ∧ w1.heap.size ≤ k) → K ⟨#[z0z, z1z, z2z, z3z, .slice a5 (n4 + 1) c5, z5z, .int .i64 x, z7z, z8z, z9z, z10z, z11z, z12z, z13z, z14z, z15z, z16z, z17z, z18z, z19z, z20z, z21z, z22z, z23z, z24z, z25z, z26z, z27z, z28z, y29, y30, y31, y32, z33z, z34z, z35z, z36z, z37z, z38z, z39z, z40z, z41z, z42z, z43z, z44z, z45z, z46z, z47z, z48z, z49z, z50z, z51z, z52z, z53z, z54z, z55z, z56z, z57z, z58z, z59z, z60z, z61z, z62z, z63z, z64z, z65z, z66z, z67z, z68z, z69z, z70z, z71z, z72z, z73z, z74z, z75z, z76z, z77z, z78z, z79z, z80z, z81z, z82z], []⟩ W)) :
    Code.wp Tryz.prog frR6 (Exit.then K QQ) ⟨#[z0z, z1z, z2z, z3z, .slice a4 n4 c4, z5z, .int .i64 x, z7z, z8z, z9z, z10z, z11z, z12z, z13z, z14z, z15z, z16z, z17z, z18z, z19z, z20z, z21z, z22z, z23z, z24z, z25z, z26z, z27z, z28z, z29z, z30z, z31z, z32z, z33z, z34z, z35z, z36z, z37z, z38z, z39z, z40z, z41z, z42z, z43z, z44z, z45z, z46z, z47z, z48z, z49z, z50z, z51z, z52z, z53z, z54z, z55z, z56z, z57z, z58z, z59z, z60z, z61z, z62z, z63z, z64z, z65z, z66z, z67z, z68z, z69z, z70z, z71z, z72z, z73z, z74z, z75z, z76z, z77z, z78z, z79z, z80z, z81z, z82z], []⟩ w1 := by
  obtain ⟨i0, hi, hz0, hz1, hz2⟩ : ∃ i0, Tryz.prog.info? 3 = some i0 ∧ i0.zero = some (.int .i64 0) ∧ i0.size = 1 ∧ i0.bytes = 8 := info_parts (by kernel_rfl)
  have HI := hidF (And.intro hi (And.intro hz0 (And.intro hz1 hz2)))
  clear hi hz0 hz1 hz2
  conv => arg 2; whnf
  go_wp2_with (at_builtin; refine wpList_append_any _ (by rfl) _ _ 22 (by rfl) H 3 i0 (.int .i64 0) 1 8 Tryz.underlying22 HI.out.1 HI.out.2.1 HI.out.2.2.1 HI.out.2.2.2 rfl (by decide) (.slice a4 n4 c4) n4 l (by rfl) (HO.out.alloc _) (.slice (some ⟨w1.heap.size, 0, none⟩) 1 1) 1 [.int .i64 x] (by rfl) (by rfl) ?c1 ?c2 (by unfold maxLen; omega) (by omega) ?c3 _ rfl ?_)
  case c1 =>
    refine .inl ⟨_, _, rfl, fun j u hj => ?_⟩
    match j, hj with
    | 0, hj =>
      cases hj
      rw [show (⟨w1.heap.size, 0, none⟩ : Addr).add 0 = ⟨w1.heap.size, 0 + 0, none⟩ from Addr.add_mid _ _ _]
      simp
    | j + 1, hj => simp at hj
  case c2 => first | rfl | (intro u hu; cases List.mem_singleton.1 hu; rfl)
  case c3 => have := HH.out; first | omega | (rw [World.size_alloc]; omega)
  intro a5 c5 W ho hg hb
  have HX := hidF (And.intro ho hg)
  have HB : Hid ((Value.slice a5 (n4 + 1) c5).ownBlock = (Value.slice a4 n4 c4).ownBlock ∨ ∃ k, (Value.slice a5 (n4 + 1) c5).ownBlock = some k ∧ w1.heap.size ≤ k) := hb.imp id (fun e => ⟨_, e, by simp⟩)
  clear ho hg hb
  go_wp2
  exact HK.out a5 c5 W _ _ _ _ HX.out.1 (grown_alloc HX.out.2) HB.out

set_option maxHeartbeats 4000000 in
set_option maxRecDepth 100000 in
theorem fr_r16 (H : Nat) (a4 : Option Addr) (n4 c4 : Nat) (x : Int) (l : List Value) (w1 : World) (z0z z1z z2z z3z z5z z6z z7z z8z z10z z11z z12z z13z z14z z15z z16z z17z z18z z19z z20z z21z z22z z23z z24z z25z z26z z27z z28z z29z z30z z31z z32z z33z z34z z35z z36z z37z z38z z39z z40z z41z z42z z43z z44z z45z z46z z47z z48z z49z z50z z51z z52z z53z z54z z55z z56z z57z z58z z59z z60z z61z z62z z63z z64z z65z z66z z67z z68z z69z z70z z71z z72z z73z z74z z75z z76z z77z z78z z79z z80z z81z z82z : Value) (Q : Exit → Act → World → Prop)
    (hn : n4 ≤ 1000000) (HO : Hid (w1.ownsRow H 3 1 (.slice a4 n4 c4) n4 l)) (HH : Hid (H ≤ w1.heap.size))
    (HK : Hid (∀ a5 c5 W y77 y78 y79 y80, W.ownsRow H 3 1 (.slice a5 (n4 + 1) c5) (n4 + 1) (l ++ [.int .i64 x]) → w1.grownBy W (Value.slice a4 n4 c4).ownBlock → ((Value.slice a5 (n4 + 1) c5).ownBlock = (Value.slice a4 n4 c4).ownBlock ∨ ∃ k, (Value.slice a5 (n4 + 1) c5).ownBlock = some k ∧ w1.heap.size ≤ k) → Q .normal ⟨#[z0z, z1z, z2z, z3z, .slice a5 (n4 + 1) c5, z5z, z6z, z7z, z8z, .int .i64 x, z10z, z11z, z12z, z13z, z14z, z15z, z16z, z17z, z18z, z19z, z20z, z21z, z22z, z23z, z24z, z25z, z26z, z27z, z28z, z29z, z30z, z31z, z32z, z33z, z34z, z35z, z36z, z37z, z38z, z39z, z40z, z41z, z42z, z43z, z44z, z45z, z46z, z47z, z48z, z49z, z50z, z51z, z52z, z53z, z54z, z55z, z56z, z57z, z58z, z59z, z60z, z61z, z62z, z63z, z64z, z65z, z66z, z67z, z68z, z69z, z70z, z71z, z72z, z73z, z74z, z75z, z76z, y77, y78, y79, y80, z81z, z82z], []⟩ W)) :
    Code.wp Tryz.prog frR16 Q ⟨#[z0z, z1z, z2z, z3z, .slice a4 n4 c4, z5z, z6z, z7z, z8z, .int .i64 x, z10z, z11z, z12z, z13z, z14z, z15z, z16z, z17z, z18z, z19z, z20z, z21z, z22z, z23z, z24z, z25z, z26z, z27z, z28z, z29z, z30z, z31z, z32z, z33z, z34z, z35z, z36z, z37z, z38z, z39z, z40z, z41z, z42z, z43z, z44z, z45z, z46z, z47z, z48z, z49z, z50z, z51z, z52z, z53z, z54z, z55z, z56z, z57z, z58z, z59z, z60z, z61z, z62z, z63z, z64z, z65z, z66z, z67z, z68z, z69z, z70z, z71z, z72z, z73z, z74z, z75z, z76z, z77z, z78z, z79z, z80z, z81z, z82z], []⟩ w1 := by
  obtain ⟨i0, hi, hz0, hz1, hz2⟩ : ∃ i0, Tryz.prog.info? 3 = some i0 ∧ i0.zero = some (.int .i64 0) ∧ i0.size = 1 ∧ i0.bytes = 8 := info_parts (by kernel_rfl)
  have HI := hidF (And.intro hi (And.intro hz0 (And.intro hz1 hz2)))
  clear hi hz0 hz1 hz2
  conv => arg 2; whnf
  go_wp2_with (at_builtin; refine wpList_append_any _ (by rfl) _ _ 22 (by rfl) H 3 i0 (.int .i64 0) 1 8 Tryz.underlying22 HI.out.1 HI.out.2.1 HI.out.2.2.1 HI.out.2.2.2 rfl (by decide) (.slice a4 n4 c4) n4 l (by rfl) (HO.out.alloc _) (.slice (some ⟨w1.heap.size, 0, none⟩) 1 1) 1 [.int .i64 x] (by rfl) (by rfl) ?c1 ?c2 (by unfold maxLen; omega) (by omega) ?c3 _ rfl ?_)
  case c1 =>
    refine .inl ⟨_, _, rfl, fun j u hj => ?_⟩
    match j, hj with
    | 0, hj =>
      cases hj
      rw [show (⟨w1.heap.size, 0, none⟩ : Addr).add 0 = ⟨w1.heap.size, 0 + 0, none⟩ from Addr.add_mid _ _ _]
      simp
    | j + 1, hj => simp at hj
  case c2 => first | rfl | (intro u hu; cases List.mem_singleton.1 hu; rfl)
  case c3 => have := HH.out; first | omega | (rw [World.size_alloc]; omega)
  intro a5 c5 W ho hg hb
  have HX := hidF (And.intro ho hg)
  have HB : Hid ((Value.slice a5 (n4 + 1) c5).ownBlock = (Value.slice a4 n4 c4).ownBlock ∨ ∃ k, (Value.slice a5 (n4 + 1) c5).ownBlock = some k ∧ w1.heap.size ≤ k) := hb.imp id (fun e => ⟨_, e, by simp⟩)
  clear ho hg hb
  go_wp2
  exact HK.out a5 c5 W _ _ _ _ HX.out.1 (grown_alloc HX.out.2) HB.out

set_option maxHeartbeats 4000000 in
set_option maxRecDepth 100000 in
theorem fr_r10 (l0 : Nat) (x : Int) (w1 : World) (z1z z2z z3z z4z z5z z6z z8z z9z z10z z11z z12z z13z z14z z15z z16z z17z z18z z19z z20z z21z z22z z23z z24z z25z z26z z27z z28z z29z z30z z31z z32z z33z z34z z35z z36z z37z z38z z39z z40z z41z z42z z43z z44z z45z z46z z47z z48z z49z z50z z51z z52z z53z z54z z55z z56z z57z z58z z59z z60z z61z z62z z63z z64z z65z z66z z67z z68z z69z z70z z71z z72z z73z z74z z75z z76z z77z z78z z79z z80z z81z z82z : Value) (K : Act → World → Prop) (QQ : Exit → Act → World → Prop) (J : World → Prop)
    (hY : YieldAt Fence.wide 0 Tryz.prog l0 #[.int .i64 x] w1 (yT J))
    (HK : Hid (∀ W y47 y48 y49, J W → K ⟨#[.func (.yield l0) #[] #[], z1z, z2z, z3z, z4z, z5z, z6z, .int .i64 x, z8z, z9z, z10z, z11z, z12z, z13z, z14z, z15z, z16z, z17z, z18z, z19z, z20z, z21z, z22z, z23z, z24z, z25z, z26z, z27z, z28z, z29z, z30z, z31z, z32z, z33z, z34z, z35z, z36z, z37z, z38z, z39z, z40z, z41z, z42z, z43z, z44z, z45z, z46z, y47, y48, y49, .bool false, z51z, z52z, z53z, z54z, z55z, z56z, z57z, z58z, z59z, z60z, z61z, z62z, z63z, z64z, z65z, z66z, z67z, z68z, z69z, z70z, z71z, z72z, z73z, z74z, z75z, z76z, z77z, z78z, z79z, z80z, z81z, z82z], []⟩ W)) :
    Code.wp Tryz.prog frR10 (Exit.then K QQ) ⟨#[.func (.yield l0) #[] #[], z1z, z2z, z3z, z4z, z5z, z6z, .int .i64 x, z8z, z9z, z10z, z11z, z12z, z13z, z14z, z15z, z16z, z17z, z18z, z19z, z20z, z21z, z22z, z23z, z24z, z25z, z26z, z27z, z28z, z29z, z30z, z31z, z32z, z33z, z34z, z35z, z36z, z37z, z38z, z39z, z40z, z41z, z42z, z43z, z44z, z45z, z46z, z47z, z48z, z49z, z50z, z51z, z52z, z53z, z54z, z55z, z56z, z57z, z58z, z59z, z60z, z61z, z62z, z63z, z64z, z65z, z66z, z67z, z68z, z69z, z70z, z71z, z72z, z73z, z74z, z75z, z76z, z77z, z78z, z79z, z80z, z81z, z82z], []⟩ w1 := by
  refine (wpIn_wide (n := 1)).1 ?_
  conv => arg 4; whnf
  obtain ⟨fn1, tmps1, assign1, body1, hy1, hR1⟩ := hY
  gi_wp2
  refine hR1.mono ?_
  rintro e W1 ⟨rfl, hJ⟩
  have hx := hidF hJ
  clear hJ hR1
  gi_wp2
  exact HK.out _ _ _ _ hx.out
end Go.Proofs.YtfeglcpipcjaeaaGreatDoor

