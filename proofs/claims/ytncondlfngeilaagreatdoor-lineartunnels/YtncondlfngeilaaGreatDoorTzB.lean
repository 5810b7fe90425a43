import Derived.Test.YtncondlfngeilaaGreatDoorTzA
import Derived.WalkMore
/- Package flow: the search's regions that append, that yield. -/
namespace Go.Proofs.YtncondlfngeilaaGreatDoor
open Go.ChangeShapes Go.WideShapes Go.ChangeAt Go.RowKit Go.Proofs.Tryz
set_option linter.unusedSimpArgs false
set_option linter.unusedVariables false
set_option maxRecDepth 100000
set_option maxHeartbeats 4000000

noncomputable def frR6 : Code := ((Tryz.f100.body.bind (regionNF 6)).getD .skip)
noncomputable def frR16 : Code := ((Tryz.f100.body.bind (regionNF 16)).getD .skip)
noncomputable def frR10 : Code := ((Tryz.f100.body.bind (regionNF 10)).getD .skip)
/-- A round that goes on. -/
def yT (J : World → Prop) : Ending → World → Prop := fun e W => e = .returned (.bool true) ∧ J W
theorem grown_alloc {w W : World} {o : Obj} {row : Option Nat} (h : (w.alloc o).grownBy W row) : w.grownBy W row :=
 ⟨h.os, h.tape, h.output, by have := h.size; rw [World.size_alloc] at this; omega, fun k hk hn => by
  rw [h.block k (by rw [World.size_alloc]; omega) hn]; exact Below.heap_alloc w o k hk⟩

theorem fr_r6 (H : Nat) (a4 : Option Addr) (n4 c4 : Nat) (x : Int) (l : List Value) (w1 : World) (z0z z1z z2z z3z z5z z7z z8z z9z z10z z11z z12z z13z z14z z15z z16z z17z z18z z19z z20z z21z z22z z23z z24z z25z z26z z27z z28z z29z z30z z31z z32z z33z z34z z35z z36z z37z z38z z39z z40z z41z z42z z43z z44z z45z z46z z47z z48z z49z z50z z51z z52z z53z z54z z55z z56z z57z z58z z59z z60z z61z z62z z63z z64z z65z z66z z67z z68z z69z z70z z71z z72z z73z z74z z75z z76z z77z z78z z79z z80z z81z z82z : Value) (K : Act → World → Prop) (QQ : Exit → Act → World → Prop)
  (hn : n4 ≤ 1000000) (HO : Hid (w1.ownsRow H 3 1 (.slice a4 n4 c4) n4 l)) (HH : Hid (H ≤ w1.heap.size))
  (HK : Hid (∀ a5 c5 W y29 y30 y31 y32, W.ownsRow H 3 1 (.slice a5 (n4 + 1) c5) (n4 + 1) (l ++ [.int .i64 x]) → w1.grownBy W (Value.slice a4 n4 c4).ownBlock → ((Value.slice a5 (n4 + 1) c5).ownBlock = (Value.slice a4 n4 c4).ownBlock ∨ ∃ k, (Value.slice a5 (n4 + 1) c5).ownBlock = some k ∧ w1.heap.size ≤ k) → K ⟨#[z0z, z1z, z2z, z3z, .slice a5 (n4 + 1) c5, z5z, .int .i64 x, z7z, z8z, z9z, z10z, z11z, z12z, z13z, z14z, z15z, z16z, z17z, z18z, z19z, z20z, z21z, z22z, z23z, z24z, z25z, z26z, z27z, z28z, y29, y30, y31, y32, z33z, z34z, z35z, z36z, z37z, z38z, z39z, z40z, z41z, z42z, z43z, z44z, z45z, z46z, z47z, z48z, z49z, z50z, z51z, z52z, z53z, z54z, z55z, z56z, z57z, z58z, z59z, z60z, z61z, z62z, z63z, z64z, z65z, z66z, z67z, z68z, z69z, z70z, z71z, z72z, z73z, z74z, z75z, z76z, z77z, z78z, z79z, z80z, z81z, z82z], []⟩ W)) :
  Code.wp prog frR6 (Exit.then K QQ) ⟨#[z0z, z1z, z2z, z3z, .slice a4 n4 c4, z5z, .int .i64 x, z7z, z8z, z9z, z10z, z11z, z12z, z13z, z14z, z15z, z16z, z17z, z18z, z19z, z20z, z21z, z22z, z23z, z24z, z25z, z26z, z27z, z28z, z29z, z30z, z31z, z32z, z33z, z34z, z35z, z36z, z37z, z38z, z39z, z40z, z41z, z42z, z43z, z44z, z45z, z46z, z47z, z48z, z49z, z50z, z51z, z52z, z53z, z54z, z55z, z56z, z57z, z58z, z59z, z60z, z61z, z62z, z63z, z64z, z65z, z66z, z67z, z68z, z69z, z70z, z71z, z72z, z73z, z74z, z75z, z76z, z77z, z78z, z79z, z80z, z81z, z82z], []⟩ w1 := by
 obtain ⟨i0, hi, hz0, hz1, hz2⟩ : ∃ i0, prog.info? 3 = some i0 ∧ i0.zero = some (.int .i64 0) ∧ i0.size = 1 ∧ i0.bytes = 8 := info_parts (by kernel_rfl);have HI := hidF (And.intro hi (And.intro hz0 (And.intro hz1 hz2)));clear hi hz0 hz1 hz2
 conv => arg 2; whnf
 go_wp2_with (at_builtin; refine wpList_append_any _ (by rfl) _ _ 22 (by rfl) H 3 i0 (.int .i64 0) 1 8 underlying22 HI.out.1 HI.out.2.1 HI.out.2.2.1 HI.out.2.2.2 rfl (by decide) (.slice a4 n4 c4) n4 l (by rfl) (HO.out.alloc _) (.slice (some ⟨w1.heap.size, 0, none⟩) 1 1) 1 [.int .i64 x] (by rfl) (by rfl) ?c1 ?c2 (by unfold maxLen; omega) (by omega) ?c3 _ rfl ?_)
 case c1 =>
  refine .inl ⟨_, _, rfl, fun j u hj => ?_⟩
  match j, hj with
  | 0, hj =>
   cases hj
   rw [show (⟨w1.heap.size, 0, none⟩ : Addr).add 0 = ⟨w1.heap.size, 0 + 0, none⟩ from Addr.add_mid _ _ _];simp
  | j + 1, hj => simp at hj
 case c2 => first | rfl | (intro u hu; cases List.mem_singleton.1 hu; rfl)
 case c3 => have := HH.out; first | omega | (rw [World.size_alloc]; omega)
 intro a5 c5 W ho hg hb;have HX := hidF (And.intro ho hg);have HB : Hid ((Value.slice a5 (n4 + 1) c5).ownBlock = (Value.slice a4 n4 c4).ownBlock ∨ ∃ k, (Value.slice a5 (n4 + 1) c5).ownBlock = some k ∧ w1.heap.size ≤ k) := hb.imp id (fun e => ⟨_, e, by simp⟩);clear ho hg hb;go_wp2;exact HK.out a5 c5 W _ _ _ _ HX.out.1 (grown_alloc HX.out.2) HB.out

theorem fr_r16 (H : Nat) (a4 : Option Addr) (n4 c4 : Nat) (x : Int) (l : List Value) (w1 : World) (z0z z1z z2z z3z z5z z6z z7z z8z z10z z11z z12z z13z z14z z15z z16z z17z z18z z19z z20z z21z z22z z23z z24z z25z z26z z27z z28z z29z z30z z31z z32z z33z z34z z35z z36z z37z z38z z39z z40z z41z z42z z43z z44z z45z z46z z47z z48z z49z z50z z51z z52z z53z z54z z55z z56z z57z z58z z59z z60z z61z z62z z63z z64z z65z z66z z67z z68z z69z z70z z71z z72z z73z z74z z75z z76z z77z z78z z79z z80z z81z z82z : Value) (Q : Exit → Act → World → Prop)
  (hn : n4 ≤ 1000000) (HO : Hid (w1.ownsRow H 3 1 (.slice a4 n4 c4) n4 l)) (HH : Hid (H ≤ w1.heap.size))
  (HK : Hid (∀ a5 c5 W y77 y78 y79 y80, W.ownsRow H 3 1 (.slice a5 (n4 + 1) c5) (n4 + 1) (l ++ [.int .i64 x]) → w1.grownBy W (Value.slice a4 n4 c4).ownBlock → ((Value.slice a5 (n4 + 1) c5).ownBlock = (Value.slice a4 n4 c4).ownBlock ∨ ∃ k, (Value.slice a5 (n4 + 1) c5).ownBlock = some k ∧ w1.heap.size ≤ k) → Q .normal ⟨#[z0z, z1z, z2z, z3z, .slice a5 (n4 + 1) c5, z5z, z6z, z7z, z8z, .int .i64 x, z10z, z11z, z12z, z13z, z14z, z15z, z16z, z17z, z18z, z19z, z20z, z21z, z22z, z23z, z24z, z25z, z26z, z27z, z28z, z29z, z30z, z31z, z32z, z33z, z34z, z35z, z36z, z37z, z38z, z39z, z40z, z41z, z42z, z43z, z44z, z45z, z46z, z47z, z48z, z49z, z50z, z51z, z52z, z53z, z54z, z55z, z56z, z57z, z58z, z59z, z60z, z61z, z62z, z63z, z64z, z65z, z66z, z67z, z68z, z69z, z70z, z71z, z72z, z73z, z74z, z75z, z76z, y77, y78, y79, y80, z81z, z82z], []⟩ W)) :
  Code.wp prog frR16 Q ⟨#[z0z, z1z, z2z, z3z, .slice a4 n4 c4, z5z, z6z, z7z, z8z, .int .i64 x, z10z, z11z, z12z, z13z, z14z, z15z, z16z, z17z, z18z, z19z, z20z, z21z, z22z, z23z, z24z, z25z, z26z, z27z, z28z, z29z, z30z, z31z, z32z, z33z, z34z, z35z, z36z, z37z, z38z, z39z, z40z, z41z, z42z, z43z, z44z, z45z, z46z, z47z, z48z, z49z, z50z, z51z, z52z, z53z, z54z, z55z, z56z, z57z, z58z, z59z, z60z, z61z, z62z, z63z, z64z, z65z, z66z, z67z, z68z, z69z, z70z, z71z, z72z, z73z, z74z, z75z, z76z, z77z, z78z, z79z, z80z, z81z, z82z], []⟩ w1 := by
 obtain ⟨i0, hi, hz0, hz1, hz2⟩ : ∃ i0, prog.info? 3 = some i0 ∧ i0.zero = some (.int .i64 0) ∧ i0.size = 1 ∧ i0.bytes = 8 := info_parts (by kernel_rfl);have HI := hidF (And.intro hi (And.intro hz0 (And.intro hz1 hz2)));clear hi hz0 hz1 hz2
 conv => arg 2; whnf
 go_wp2_with (at_builtin; refine wpList_append_any _ (by rfl) _ _ 22 (by rfl) H 3 i0 (.int .i64 0) 1 8 underlying22 HI.out.1 HI.out.2.1 HI.out.2.2.1 HI.out.2.2.2 rfl (by decide) (.slice a4 n4 c4) n4 l (by rfl) (HO.out.alloc _) (.slice (some ⟨w1.heap.size, 0, none⟩) 1 1) 1 [.int .i64 x] (by rfl) (by rfl) ?c1 ?c2 (by unfold maxLen; omega) (by omega) ?c3 _ rfl ?_)
 case c1 =>
  refine .inl ⟨_, _, rfl, fun j u hj => ?_⟩
  match j, hj with
  | 0, hj =>
   cases hj
   rw [show (⟨w1.heap.size, 0, none⟩ : Addr).add 0 = ⟨w1.heap.size, 0 + 0, none⟩ from Addr.add_mid _ _ _];simp
  | j + 1, hj => simp at hj
 case c2 => first | rfl | (intro u hu; cases List.mem_singleton.1 hu; rfl)
 case c3 => have := HH.out; first | omega | (rw [World.size_alloc]; omega)
 intro a5 c5 W ho hg hb;have HX := hidF (And.intro ho hg);have HB : Hid ((Value.slice a5 (n4 + 1) c5).ownBlock = (Value.slice a4 n4 c4).ownBlock ∨ ∃ k, (Value.slice a5 (n4 + 1) c5).ownBlock = some k ∧ w1.heap.size ≤ k) := hb.imp id (fun e => ⟨_, e, by simp⟩);clear ho hg hb;go_wp2;exact HK.out a5 c5 W _ _ _ _ HX.out.1 (grown_alloc HX.out.2) HB.out

theorem fr_r10 (l0 : Nat) (x : Int) (w1 : World) (z1z z2z z3z z4z z5z z6z z8z z9z z10z z11z z12z z13z z14z z15z z16z z17z z18z z19z z20z z21z z22z z23z z24z z25z z26z z27z z28z z29z z30z z31z z32z z33z z34z z35z z36z z37z z38z z39z z40z z41z z42z z43z z44z z45z z46z z47z z48z z49z z50z z51z z52z z53z z54z z55z z56z z57z z58z z59z z60z z61z z62z z63z z64z z65z z66z z67z z68z z69z z70z z71z z72z z73z z74z z75z z76z z77z z78z z79z z80z z81z z82z : Value) (K : Act → World → Prop) (QQ : Exit → Act → World → Prop) (J : World → Prop)
  (hY : YieldAt Fence.wide 0 prog l0 #[.int .i64 x] w1 (yT J))
  (HK : Hid (∀ W y47 y48 y49, J W → K ⟨#[.func (.yield l0) #[] #[], z1z, z2z, z3z, z4z, z5z, z6z, .int .i64 x, z8z, z9z, z10z, z11z, z12z, z13z, z14z, z15z, z16z, z17z, z18z, z19z, z20z, z21z, z22z, z23z, z24z, z25z, z26z, z27z, z28z, z29z, z30z, z31z, z32z, z33z, z34z, z35z, z36z, z37z, z38z, z39z, z40z, z41z, z42z, z43z, z44z, z45z, z46z, y47, y48, y49, .bool false, z51z, z52z, z53z, z54z, z55z, z56z, z57z, z58z, z59z, z60z, z61z, z62z, z63z, z64z, z65z, z66z, z67z, z68z, z69z, z70z, z71z, z72z, z73z, z74z, z75z, z76z, z77z, z78z, z79z, z80z, z81z, z82z], []⟩ W)) :
  Code.wp prog frR10 (Exit.then K QQ) ⟨#[.func (.yield l0) #[] #[], z1z, z2z, z3z, z4z, z5z, z6z, .int .i64 x, z8z, z9z, z10z, z11z, z12z, z13z, z14z, z15z, z16z, z17z, z18z, z19z, z20z, z21z, z22z, z23z, z24z, z25z, z26z, z27z, z28z, z29z, z30z, z31z, z32z, z33z, z34z, z35z, z36z, z37z, z38z, z39z, z40z, z41z, z42z, z43z, z44z, z45z, z46z, z47z, z48z, z49z, z50z, z51z, z52z, z53z, z54z, z55z, z56z, z57z, z58z, z59z, z60z, z61z, z62z, z63z, z64z, z65z, z66z, z67z, z68z, z69z, z70z, z71z, z72z, z73z, z74z, z75z, z76z, z77z, z78z, z79z, z80z, z81z, z82z], []⟩ w1 := by
 refine (wpIn_wide (n := 1)).1 ?_
 conv => arg 4; whnf
 obtain ⟨fn1, tmps1, assign1, body1, hy1, hR1⟩ := hY
 gi_wp2
 refine hR1.mono ?_;rintro e W1 ⟨rfl, hJ⟩;have hx := hidF hJ;clear hJ hR1
 gi_wp2
 exact HK.out _ _ _ _ hx.out
end Go.Proofs.YtncondlfngeilaaGreatDoor
namespace Go.Proofs.YtncondlfngeilaaGreatDoor
open Go.ChangeShapes Go.WideShapes Go.ChangeAt Go.RowKit Go.Proofs.Tryz
set_option linter.unusedSimpArgs false
set_option linter.unusedVariables false
set_option maxRecDepth 100000
set_option maxHeartbeats 16000000

structure Dt (sbx pbx XB nb mb n cn cm : Nat) (sv : Value) (ss : List Nat) (g : Nat → List Nat) (rv : Nat → Value) (W : World) : Prop where
 c1 : W.cell? ⟨sbx, 0, none⟩ = some sv
 il : IL W sv (up ss)
 c2 : W.cell? ⟨pbx, 0, none⟩ = some (.pointer (some ⟨XB, 0, none⟩))
 x0 : W.cell? ⟨XB, 0, none⟩ = some (.slice (some ⟨nb, 0, none⟩) n cn)
 x1 : W.cell? ⟨XB, 1, none⟩ = some (.slice (some ⟨mb, 0, none⟩) n cm)
 rows : ∀ i, i < n → W.cell? ⟨nb, i, none⟩ = some (rv i) ∧ IL W (rv i) (up (g i))
def MetAt (W : World) (mb n : Nat) (m : Nat → Bool) : Prop := ∀ i, i < n → W.cell? ⟨mb, i, none⟩ = some (.bool (m i)) ∧ W.frozen? ⟨mb, i, none⟩ = false
theorem MetAt.of {w w' : World} {mb n : Nat} {m : Nat → Bool} (h : MetAt w mb n m) (hk : w'.heap[mb]? = w.heap[mb]?) : MetAt w' mb n m := fun i hi =>
 ⟨by rw [World.cell?_of_block (w := w) hk]; exact (h i hi).1, by rw [World.frozen?_of_block (w := w) hk]; exact (h i hi).2⟩
theorem MetAt.lt {w : World} {mb n : Nat} {m : Nat → Bool} (h : MetAt w mb n m) (hn : 0 < n) : mb < w.heap.size := block_lt_of_cell (h 0 hn).1
theorem MetAt.set {w : World} {mb n x : Nat} {m : Nat → Bool} (h : MetAt w mb n m) (hx : x < n) : MetAt (w.setCell ⟨mb, x, none⟩ (.bool true)) mb n (updB m x) := fun i hi => by
 refine ⟨?_, by rw [World.frozen?_setCell]; exact (h i hi).2⟩
 by_cases e : i = x
 ·subst e
  rw [updB_self];exact World.cell?_setCell_same _ _ _ (h i hi).1
 ·rw [World.cell?_setCell_other _ _ _ _ (fun e2 => e (by cases e2; rfl))]
  rw [show updB m x i = m i by unfold updB; rw [if_neg e]];exact (h i hi).1
def isF : Option Value → Bool
 | some (.bool b) => b
 | _ => true
def cntW (mb n : Nat) (W : World) : Nat := unm (fun i => isF (W.cell? ⟨mb, i, none⟩)) n
theorem cntW_eq {W : World} {mb n : Nat} {m : Nat → Bool} (h : MetAt W mb n m) : cntW mb n W = unm m n := unm_same (fun i hi => by rw [(h i hi).1]; rfl)
def slen : Value → Nat
 | .slice _ n _ => n
 | _ => 0
structure Mo (mb : Nat) (ob : Option Nat) (w w' : World) : Prop where
 os : w'.os = w.os
 tape : w'.tape = w.tape
 output : w'.output = w.output
 size : w.heap.size ≤ w'.heap.size
 block : ∀ k, k < w.heap.size → k ≠ mb → some k ≠ ob → w'.heap[k]? = w.heap[k]?
structure Sg (H mb n : Nat) (g : Nat → List Nat) (m0 : Nat → Bool) (ss : List Nat) (J : List Nat → Option Nat → World → Prop) (W : World) (v : Value) (o wt : List Nat) (m : Nat → Bool) : Prop where
 j : J o v.ownBlock W
 met : MetAt W mb n m
 own : W.ownsRow H 3 1 v wt.length (intsF (up wt))
 hs : H ≤ W.heap.size
 si : SI n g m0 ss m o wt
 bd : unm m n + o.length + wt.length ≤ n
section
variable {H mb n : Nat} {g : Nat → List Nat} {m0 : Nat → Bool} {ss : List Nat} {J : List Nat → Option Nat → World → Prop} {W W' : World} {v : Value} {o wt : List Nat} {m : Nat → Bool}
theorem ownsRow_of {W W' : World} {H : Nat} {v : Value} {k : Nat} {xs : List Value} (h : W.ownsRow H 3 1 v k xs) (hk : ∀ q, H ≤ q → q < W.heap.size → W'.heap[q]? = W.heap[q]?) : W'.ownsRow H 3 1 v k xs := by
 refine ⟨h.1, ?_⟩
 rcases h.2 with z | ⟨b, cap, cur, h1, h2, h3, h4⟩
 ·exact .inl z
 ·exact .inr ⟨b, cap, cur, h1, h2, by rw [hk b h2 (zge h3).1]; exact h3, h4⟩
theorem Sg.push (h : Sg H mb n g m0 ss J W v o wt m) (HA : ∀ o ob ob' W W', J o ob W → Mo mb ob W W' → (ob' = ob ∨ ∃ k, ob' = some k ∧ W.heap.size ≤ k ∧ k < W'.heap.size) → J o ob' W') (hmb : mb < H) {x : Nat} (hx : m x = false) (hn : x < n) (hw : x ∈ ss ∨ ∃ y ∈ o, x ∈ g y) {v' : Value}
  (ho : W'.ownsRow H 3 1 v' (wt.length + 1) (intsF (up wt) ++ [.int .i64 x])) (hg : (W.setCell ⟨mb, x, none⟩ (.bool true)).grownBy W' v.ownBlock) (hbk : v'.ownBlock = v.ownBlock ∨ ∃ k, v'.ownBlock = some k ∧ (W.setCell ⟨mb, x, none⟩ (.bool true)).heap.size ≤ k) : Sg H mb n g m0 ss J W' v' o (wt ++ [x]) (updB m x) := by
 have hob : ∀ k, v.ownBlock = some k → H ≤ k := fun k hk => (h.own.lt k hk).1;have hs1 : (W.setCell ⟨mb, x, none⟩ (.bool true)).heap.size = W.heap.size := by simp [World.setCell]
 rw [hs1] at hbk;refine ⟨HA _ _ _ _ _ h.j ⟨hg.os, hg.tape, hg.output, by have := hg.size; omega, fun k h1 h2 h3 => (hg.block k (by omega) h3).trans (Below.heap_setCell _ _ _ _ h2)⟩ (hbk.imp id (fun ⟨k, e, h2⟩ => ⟨k, e, h2, (ho.lt k e).2⟩)), (h.met.set hn).of (hg.block mb (by rw [hs1]; exact h.met.lt (by omega)) (fun e => by have := hob mb e.symm; omega)), ?_, by have := hg.size; rw [hs1] at this; have := h.hs; omega, h.si.push hx hn hw, by have := h.bd; have := unm_upd hn hx; rw [List.length_append, List.length_singleton]; omega⟩;rw [List.length_append, up_append, ints_append];exact ho
theorem ownsRow_blk0 {W W' : World} {B : Nat} {e : TypeId} {v : Value} {k : Nat} {xs : List Value} (h : W.ownsRow B e 1 v k xs) (hk : ∀ b, v.ownBlock = some b → W'.heap[b]? = W.heap[b]?) : W'.ownsRow B e 1 v k xs := by
 refine ⟨h.1, ?_⟩
 rcases h.2 with z | ⟨b, cap, cur, h1, h2, h3, h4⟩
 ·exact .inl z
 ·exact .inr ⟨b, cap, cur, h1, h2, by rw [hk b (by rw [h1]; rfl)]; exact h3, h4⟩
theorem Sg.pop {a : Addr} {cap x : Nat} (h : Sg H mb n g m0 ss J W (.slice (some a) (wt.length + 1) cap) o (wt ++ [x]) m) (hJ : J (o ++ [x]) (Value.slice (some a) (wt.length + 1) cap).ownBlock W') (hs : W.heap.size ≤ W'.heap.size) (hk : ∀ k, (k = mb ∨ some k = (Value.slice (some a) (wt.length + 1) cap).ownBlock) → k < W.heap.size → W'.heap[k]? = W.heap[k]?) (hn : 0 < n) : Sg H mb n g m0 ss J W' (.slice (some a) wt.length cap) (o ++ [x]) wt m := by
 refine ⟨hJ, h.met.of (hk mb (.inl rfl) (h.met.lt hn)), ?_, by have := h.hs; omega, h.si.pop, by have := h.bd; rw [List.length_append, List.length_singleton] at this ⊢; omega⟩;have h1 := h.own;rw [List.length_append, up_append, ints_append] at h1;have h2 := ownsRow_pop h1;exact ownsRow_blk0 h2 (fun b hb => hk b (.inr hb.symm) ((h2.lt b hb).2))
end
theorem from1_own (l0 sbx pbx XB nb mb n cn cm H : Nat) (sa : Option Addr) (ns sc : Nat) (ss : List Nat) (g : Nat → List Nat) (rv : Nat → Value) (m0 : Nat → Bool) (w : World) (J : List Nat → Option Nat → World → Prop)
  (HN : Hid (ns = ss.length)) (hns : ns ≤ 1000000000000) (hnn : n ≤ 1000000) (HG : Hid (∀ i, i < n → (g i).length ≤ 1000000 ∧ ∀ t ∈ g i, t < n)) (HS : Hid (∀ s ∈ ss, s < n)) (HB : Hid (mb < H)) (HH : Hid (w.heap.size = H))
  (H0 : Hid (J [] none w)) (HM : Hid (MetAt w mb n m0)) (HD : Hid (∀ o ob W, J o ob W → Dt sbx pbx XB nb mb n cn cm (.slice sa ns sc) ss g rv W)) (HA : Hid (∀ o ob ob' W W', J o ob W → Mo mb ob W W' → (ob' = ob ∨ ∃ k, ob' = some k ∧ W.heap.size ≤ k ∧ k < W'.heap.size) → J o ob' W'))
  (HY : Hid (∀ o (y : Nat) ob W, J o ob W → y < n → y ∉ o → YieldAt Fence.wide 0 prog l0 #[.int .i64 y] W (yT fun W' => J (o ++ [y]) ob W' ∧ W.heap.size ≤ W'.heap.size ∧ ∀ k, (k = mb ∨ some k = ob) → k < W.heap.size → W'.heap[k]? = W.heap[k]?))) :
  Calls prog 100 #[.func (.yield l0) #[] #[], .pointer (some ⟨sbx, 0, none⟩), .pointer (some ⟨pbx, 0, none⟩)] w fun e W => e = .returned (.tuple #[]) ∧ ∃ o m ob, J o ob W ∧ MetAt W mb n m ∧ SR n g m0 ss m o ∧ H ≤ W.heap.size := by
 have hc1 := (HD.out _ _ _ H0.out).c1
 go_enter func100, ntmps100
 go_wp2
 go_step3
 go_wp2
 go_step3
 go_wp2
 go_loopw [4, 12] (fun v4 v12 wz => ∃ (i : Nat) (a4 : Option Addr) (c4 : Nat), i ≤ ns ∧ v12 = .int .i64 i ∧ v4 = .slice a4 0 c4 ∧ Hid (∃ o m, Sg H mb n g m0 ss J wz (.slice a4 0 c4) o [] m ∧ (∀ y ∈ o, ∀ t ∈ g y, m t = true) ∧ ∀ s ∈ ss.take i, m s = true)) (fun _ v12 _ => ns - (intOf v12).toNat)
 case atStart =>
  refine ⟨0, none, 0, by omega, rfl, rfl, [], m0, ⟨H0.out, HM.out, World.ownsRow_nil _ _ _ _, by rw [HH.out]; exact Nat.le_refl _, SI.start n g m0 ss, by simpa using unm_le m0 n⟩, (fun y hy => by cases hy), fun s hs => by simp at hs⟩
 case round =>
  obtain ⟨i, a4, c4, hi, rfl, rfl, HR⟩ := hrel
  rename World => wz
  obtain ⟨o, m, hsg, hcl, hst⟩ := HR.out;have hdt := HD.out _ _ _ hsg.j;have c1 := hdt.c1;have c2 := hdt.c2;have x0 := hdt.x0;have x1 := hdt.x1;have HL := hidF hdt.il;have HROW := hidF hdt.rows;have HSG := hidF hsg;have HCL := hidF hcl;have HST := hidF hst;clear hdt hsg hcl hst HR hc1
  by_cases hin : i < ns
  ·have j0 : (0 : Int) ≤ i := by omega
   have j1 : (i : Int) < ns := by omega
   have hget := List.getElem?_eq_getElem (l := ss) (show i < ss.length by rw [← HN.out]; exact hin)
   generalize ss[i]'(by rw [← HN.out]; exact hin) = s at hget
   have hsn : s < n := HS.out s (List.mem_of_getElem? hget);obtain ⟨va2, vc2, hv2, _, _, h2⟩ := HL.out
   cases hv2
   obtain ⟨vb, vo, rfl, hc⟩ := h2 (fun e => by have := congrArg List.length e; rw [up_length] at this; simp at this; rw [this] at hget; simp at hget);have cx := hc i s (by rw [up_get, hget]; rfl);have HGET := hidF hget;clear hget hc h2;obtain ⟨hm1, hf1⟩ := HSG.out.met s hsn;have k0 : (0 : Int) ≤ s := by omega
   have k1 : (s : Int) < n := by omega
   cases hms : m s with
   | true =>
    rw [hms] at hm1
    have HST2 : Hid (∀ s' ∈ ss.take (i + 1), m s' = true) := by
     intro s' hs';rw [List.take_add_one, HGET.out] at hs'
     rcases List.mem_append.1 hs' with h | h
     ·exact HST.out s' h
     ·have e : s' = s := by simpa using h
      rw [e]; exact hms
    go_wp2
    go_roundw
    case rel => exact ⟨i + 1, a4, c4, by omega, by simp, rfl, o, m, HSG.out, HCL.out, HST2.out⟩
    case measure => simp [intOf]; omega
   | false =>
    rw [hms] at hm1;have HMS := hidF hms;clear hms
    go_upto_region 6 with fail
    refine fr_r6 H a4 0 c4 s [] (wz.setCell ⟨mb, s, none⟩ (.bool true)) _ _ _ _ _ _ _ _ _ _ _ _ _ _ _ _ _ _ _ _ _ _ _ _ _ _ _ _ _ _ _ _ _ _ _ _ _ _ _ _ _ _ _ _ _ _ _ _ _ _ _ _ _ _ _ _ _ _ _ _ _ _ _ _ _ _ _ _ _ _ _ _ _ _ _ _ _ _ _ _ _  _ _ (by omega) ?_ ?_ ?_
    ·exact ownsRow_of HSG.out.own (fun q h1 _ => Below.heap_setCell _ _ _ _ (by have := HB.out; simp; omega))
    ·exact hidF (by have := HSG.out.hs; simpa [World.setCell] using this)
    intro a5 c5 W y29 y30 y31 y32 ho hg hbk;have HSG2 : Hid (Sg H mb n g m0 ss J W (.slice a5 (0 + 1) c5) o ([] ++ [s]) (updB m s)) := HSG.out.push HA.out HB.out HMS.out hsn (.inl (List.mem_of_getElem? HGET.out)) ho hg hbk
    have HST2 : Hid (∀ s' ∈ ss.take (i + 1), updB m s s' = true) := by
     intro s' hs';rw [List.take_add_one, HGET.out] at hs'
     rcases List.mem_append.1 hs' with h | h
     ·exact updB_mono (HST.out s' h)
     ·have e : s' = s := by simpa using h
      rw [e]; exact updB_self m s
    have HCL2 : Hid (∀ y ∈ o, ∀ t ∈ g y, updB m s t = true) := fun y hy t ht => updB_mono (HCL.out y hy t ht);clear ho hg hbk cx hm1 hf1 c1 c2 x0 x1 HL HROW HSG HST HCL HMS;go_wp2
    go_loopw [4] (fun v4 wr => ∃ (a : Option Addr) (k c : Nat) (wt : List Nat), v4 = .slice a k c ∧ Hid (wt.length = k ∧ ∃ o m, Sg H mb n g m0 ss J wr (.slice a k c) o wt m ∧ (∀ y ∈ o, ∀ t ∈ g y, m t = true) ∧ ∀ s ∈ ss.take (i + 1), m s = true)) (fun v4 wr => 2 * cntW mb n wr + slen v4)
    case atStart => exact ⟨a5, _, c5, [s], rfl, rfl, o, _, HSG2.out, HCL2.out, HST2.out⟩
    case round =>
     clear HSG2 HCL2 HST2;obtain ⟨a, k, c, wt, rfl, HR⟩ := hrel
     rename World => wr
     rcases List.eq_nil_or_concat wt with rfl | ⟨wt2, x, hcc⟩
     ·obtain ⟨hk, o, m, h1, h2, h3⟩ := HR.out
      obtain rfl : k = 0 := by simpa using hk.symm
      have HF := hidF (And.intro h1 (And.intro h2 h3));clear HR h1 h2 h3;go_wp2
      go_roundw
      case rel => exact ⟨i + 1, a, c, by omega, by simp, rfl, o, m, HF.out⟩
      case measure => simp [intOf]; omega
     ·rw [List.concat_eq_append] at hcc
      subst hcc;obtain ⟨wt, hwt⟩ : ∃ wt, wt = wt2 := ⟨_, rfl⟩;subst hwt;obtain ⟨hk, o, m, h1, h2, h3⟩ := HR.out;obtain rfl : k = wt.length + 1 := by simpa using hk.symm
      obtain ⟨k, hk2⟩ : ∃ k, wt.length = k := ⟨_, rfl⟩;have HKL := hidF hk2;have h4 := h1.own;rw [List.length_append, up_append, ints_append] at h4;rw [hk2] at h1;have HSG := hidF h1;have HCL := hidF h2;have HST := hidF h3;have hkn : k + 1 ≤ 1000000 := by have := h1.bd; rw [List.length_append, List.length_singleton] at this; omega
      have hxn : x < n := (h1.si.un x (.inr (by simp))).2;have hxo : Hid (x ∉ o) := fun hx => (List.nodup_append.1 h1.si.nd).2.2 x hx x (by simp) rfl
      obtain ⟨gb, rfl, hkc, cx⟩ : ∃ gb, a = some ⟨gb, 0, none⟩ ∧ (k : Int) ≤ c ∧ wr.cell? ⟨gb, k, none⟩ = some (.int .i64 x) := by
       rcases h4.2 with ⟨_, z⟩ | ⟨gb, cap, cur, z, _, _, hcap, _⟩
       ·simp at z
       ·cases z
        refine ⟨gb, rfl, by simp at hcap; omega, ?_⟩;have := h4.cells (g := gb) rfl k (.int .i64 x) (by rw [List.getElem?_append_right (by rw [ints_lengthF, up_length]; omega), ints_lengthF, up_length, hk2]; simp [up, intsF]);rw [show (⟨gb, 0, none⟩ : Addr).add k = ⟨gb, 0 + k, none⟩ from Addr.add_mid _ _ _, Nat.zero_add] at this;exact this
      rw [hk2];clear HR h1 h2 h3 h4 hk hk2
      go_upto_region 10 with fail
      refine fr_r10 l0 x wr _ _ _ _ _ _ _ _ _ _ _ _ _ _ _ _ _ _ _ _ _ _ _ _ _ _ _ _ _ _ _ _ _ _ _ _ _ _ _ _ _ _ _ _ _ _ _ _ _ _ _ _ _ _ _ _ _ _ _ _ _ _ _ _ _ _ _ _ _ _ _ _ _ _ _ _ _ _ _ _ _  _ _ _ (HY.out o x _ wr HSG.out.j hxn hxo.out) ?_;intro W y47 y48 y49 hJ
      have HSG3 : Hid (Sg H mb n g m0 ss J W (.slice (some ⟨gb, 0, none⟩) wt.length c) (o ++ [x]) wt m) := by
       have h := HSG.out;rw [← HKL.out] at h;exact h.pop hJ.1 hJ.2.1 hJ.2.2 (by omega)
      rw [HKL.out] at HSG3;obtain ⟨k0, hk0⟩ : ∃ k0, k0 = k := ⟨_, rfl⟩;obtain ⟨MM, hMM⟩ : ∃ MM, MM = 2 * cntW mb n wr + (k0 + 1) := ⟨_, rfl⟩;have HMM : Hid (2 * unm m n + k < MM) := hidF (by rw [hMM, cntW_eq HSG.out.met, hk0]; omega);have HME := hidF hMM;have HK0 := hidF hk0;clear hk0;have hdt := HD.out _ _ _ HSG3.out.j;have d2 := hdt.c2;have e0 := hdt.x0;have e1 := hdt.x1;obtain ⟨r0, hil⟩ := hdt.rows x hxn;obtain ⟨ra, rc, hrv, _⟩ := hil.partsF;have hgl : (up (g x)).length = (g x).length := up_length _;obtain ⟨ng, hng⟩ : ∃ ng, (up (g x)).length = ng := ⟨_, rfl⟩;rw [hng] at hrv;rw [hrv] at r0;have HRV := hidF hrv;have HNG : Hid ((g x).length = ng) := hidF (by omega);have hng8 : ng ≤ 1000000 := by have := (HG.out x hxn).1; omega
      have q0 : (0 : Int) ≤ x := by omega
      have q1 : (x : Int) < n := by omega
      clear hJ hMM hdt hil hgl hng cx hrv;go_wp2
      go_loopw [4, 59] (fun v4 v59 wq => ∃ (j : Nat) (a : Option Addr) (k c : Nat), j ≤ ng ∧ v59 = .int .i64 j ∧ v4 = .slice a k c ∧ Hid (∃ wt m, wt.length = k ∧ Sg H mb n g m0 ss J wq (.slice a k c) (o ++ [x]) wt m ∧ (∀ y ∈ o, ∀ t ∈ g y, m t = true) ∧ (∀ t ∈ (g x).take j, m t = true) ∧ (∀ s ∈ ss.take (i + 1), m s = true) ∧ 2 * unm m n + k < MM)) (fun _ v59 _ => ng - (intOf v59).toNat)
      case atStart => exact ⟨0, _, _, _, by omega, rfl, rfl, wt, m, HKL.out, HSG3.out, HCL.out, (fun t ht => by simp at ht), HST.out, HMM.out⟩
      case round =>
       clear d2 e0 e1 r0 HSG3 HCL HST HMM HSG;obtain ⟨j, a, k, c, hj, rfl, rfl, HR⟩ := hrel
       rename World => wq
       obtain ⟨wt, m, hk, h1, h2, h3, h4, h5⟩ := HR.out;have HSG := hidF h1;have HF := hidF (And.intro hk (And.intro h2 (And.intro h3 (And.intro h4 h5))));have hdt := HD.out _ _ _ h1.j;have d2 := hdt.c2;have e1 := hdt.x1;have hkn : k ≤ 1000000 := by have := h1.bd; omega
       obtain ⟨_, hil⟩ := hdt.rows x hxn;rw [HRV.out] at hil;clear HR h1 h2 h3 h4 h5 hk
       by_cases hjn : j < ng
       ·have j0 : (0 : Int) ≤ j := by omega
        have j1 : (j : Int) < ng := by omega
        have hget := List.getElem?_eq_getElem (l := g x) (show j < (g x).length by rw [HNG.out]; exact hjn)
        generalize (g x)[j]'(by rw [HNG.out]; exact hjn) = t at hget
        have htn : t < n := (HG.out x hxn).2 t (List.mem_of_getElem? hget);have t0 : (0 : Int) ≤ t := by omega
        have t1 : (t : Int) < n := by omega
        have HGET := hidF hget;obtain ⟨va3, vc3, hv3, _, _, h6⟩ := hil;obtain ⟨vb3, vo3, he3, hc3⟩ := h6 (fun e => by have := congrArg List.length e; rw [up_length] at this; simp at this; rw [this] at hget; simp at hget)
        injection hv3 with hq1 hq2 hq3
        have cx := hc3 j t (by rw [up_get, hget]; rfl);rw [he3] at hq1;subst hq1;clear hget hc3 h6 hq2 hq3 he3 hdt;obtain ⟨hm1, hf1⟩ := HSG.out.met t htn
        cases hms : m t with
        | true =>
         rw [hms] at hm1
         have HT2 : Hid (∀ t' ∈ (g x).take (j + 1), m t' = true) := by
          intro t' ht';rw [List.take_add_one, HGET.out] at ht'
          rcases List.mem_append.1 ht' with h | h
          ·exact HF.out.2.2.1 t' h
          ·have e : t' = t := by simpa using h
           rw [e]; exact hms
         clear hms;go_wp2
         go_roundw
         case rel => exact ⟨j + 1, a, k, c, by omega, by simp, rfl, wt, m, HF.out.1, HSG.out, HF.out.2.1, HT2.out, HF.out.2.2.2⟩
         case measure => simp [intOf]; omega
        | false =>
         rw [hms] at hm1;have HMS := hidF hms;clear hms
         go_upto_region 16 with fail
         refine fr_r16 H a k c t (intsF (up wt)) (wq.setCell ⟨mb, t, none⟩ (.bool true)) _ _ _ _ _ _ _ _ _ _ _ _ _ _ _ _ _ _ _ _ _ _ _ _ _ _ _ _ _ _ _ _ _ _ _ _ _ _ _ _ _ _ _ _ _ _ _ _ _ _ _ _ _ _ _ _ _ _ _ _ _ _ _ _ _ _ _ _ _ _ _ _ _ _ _ _ _ _ _ _ _ _ hkn ?_ ?_ ?_
         ·refine ownsRow_of ?_ (fun q h1 _ => Below.heap_setCell _ _ _ _ (by have := HB.out; simp; omega))
          have h := HSG.out.own;rw [HF.out.1] at h;exact h
         ·exact hidF (by have := HSG.out.hs; simpa [World.setCell] using this)
         intro a6 c6 W6 y77 y78 y79 y80 ho hg hbk;have HSG6 : Hid (Sg H mb n g m0 ss J W6 (.slice a6 (k + 1) c6) (o ++ [x]) (wt ++ [t]) (updB m t)) := HSG.out.push HA.out HB.out HMS.out htn (.inr ⟨x, by simp, List.mem_of_getElem? HGET.out⟩) (by rw [HF.out.1]; exact ho) hg hbk
         have HF6 : Hid ((wt ++ [t]).length = k + 1 ∧ (∀ y ∈ o, ∀ t' ∈ g y, updB m t t' = true) ∧ (∀ t' ∈ (g x).take (j + 1), updB m t t' = true) ∧ (∀ s ∈ ss.take (i + 1), updB m t s = true) ∧ 2 * unm (updB m t) n + (k + 1) < MM) := by
          refine ⟨by rw [List.length_append, HF.out.1]; rfl, fun y hy t' ht' => updB_mono (HF.out.2.1 y hy t' ht'), fun t' ht' => ?_, fun s hs => updB_mono (HF.out.2.2.2.1 s hs), ?_⟩
          ·rw [List.take_add_one, HGET.out] at ht'
           rcases List.mem_append.1 ht' with h | h
           ·exact updB_mono (HF.out.2.2.1 t' h)
           ·have e : t' = t := by simpa using h
            rw [e]; exact updB_self m t
          ·have := HF.out.2.2.2.2
           have := unm_upd htn HMS.out
           omega
         clear ho hg hbk cx hm1 hf1 d2 e1 HF HMS;go_wp2
         go_roundw
         case rel => exact ⟨j + 1, a6, k + 1, c6, by omega, by simp, rfl, wt ++ [t], updB m t, HF6.out.1, HSG6.out, HF6.out.2⟩
         case measure => simp [intOf]; omega
       ·obtain rfl : ng = j := by omega
        have HF7 : Hid (∀ y ∈ o ++ [x], ∀ t ∈ g y, m t = true) := by
         intro y hy t ht
         rcases List.mem_append.1 hy with h | h
         ·exact HF.out.2.1 y h t ht
         ·have e : y = x := by simpa using h
          subst e;refine HF.out.2.2.1 t ?_;rw [← HNG.out, List.take_length];exact ht
        have HM7 : Hid (2 * cntW mb n wq + k < 2 * cntW mb n wr + (k0 + 1)) := by
         show _ < _
         rw [cntW_eq HSG.out.met, ← HME.out];exact HF.out.2.2.2.2
        clear d2 e1 hil hdt;go_wp2
        go_roundw
        case rel => exact ⟨a, k, c, wt, rfl, HF.out.1, o ++ [x], m, HSG.out, HF7.out, HF.out.2.2.2.1⟩
        case measure =>
         have hM := HM7.out;rw [HK0.out] at hM;simpa [slen] using hM
  ·obtain rfl : ns = i := by omega
   have HF : Hid (∃ o m ob, J o ob wz ∧ MetAt wz mb n m ∧ SR n g m0 ss m o ∧ H ≤ wz.heap.size) := by
    refine ⟨o, m, _, HSG.out.j, HSG.out.met, ⟨HSG.out.si, ?_, HCL.out⟩, HSG.out.hs⟩;have := HST.out;rw [HN.out, List.take_length] at this;exact this
   clear c1 c2 x0 x1;go_wp2;dsimp only [Exit.noGoto];go_end0;exact ⟨rfl, HF.out⟩
theorem yield_monoF {m : Nat} {P : Program} {l : Nat} {args : Array Value} {W : World} {R R' : Ending → World → Prop} (h : YieldAt Fence.wide m P l args W R) (hr : ∀ e w, R e w → R' e w) : YieldAt Fence.wide m P l args W R' := by
 obtain ⟨fn, tmps, assign, body, hy, hR⟩ := h;exact ⟨fn, tmps, assign, body, hy, hR.mono hr⟩
theorem from1_any (l0 sbx pbx XB nb mb n cn cm H : Nat) (sa : Option Addr) (ns sc : Nat) (ss : List Nat) (g : Nat → List Nat) (rv : Nat → Value) (m0 : Nat → Bool) (w : World) (J : List Nat → World → Prop)
  (HN : Hid (ns = ss.length)) (hns : ns ≤ 1000000000000) (hnn : n ≤ 1000000) (HG : Hid (∀ i, i < n → (g i).length ≤ 1000000 ∧ ∀ t ∈ g i, t < n)) (HS : Hid (∀ s ∈ ss, s < n)) (HB : Hid (mb < H)) (HH : Hid (w.heap.size = H))
  (H0 : Hid (J [] w)) (HM : Hid (MetAt w mb n m0)) (HD : Hid (∀ o W, J o W → Dt sbx pbx XB nb mb n cn cm (.slice sa ns sc) ss g rv W)) (HA : Hid (∀ o W W', J o W → Mv H mb W W' → J o W'))
  (HY : Hid (∀ o (y : Nat) W, J o W → y < n → y ∉ o → YieldAt Fence.wide 0 prog l0 #[.int .i64 y] W (yT fun W' => J (o ++ [y]) W' ∧ W.heap.size ≤ W'.heap.size ∧ ∀ k, (k = mb ∨ H ≤ k) → k < W.heap.size → W'.heap[k]? = W.heap[k]?))) :
  Calls prog 100 #[.func (.yield l0) #[] #[], .pointer (some ⟨sbx, 0, none⟩), .pointer (some ⟨pbx, 0, none⟩)] w fun e W => e = .returned (.tuple #[]) ∧ ∃ o m, J o W ∧ MetAt W mb n m ∧ SR n g m0 ss m o ∧ H ≤ W.heap.size := by
 refine (from1_own l0 sbx pbx XB nb mb n cn cm H sa ns sc ss g rv m0 w (fun o ob W => J o W ∧ H ≤ W.heap.size ∧ ∀ k, ob = some k → H ≤ k) HN hns hnn HG HS HB HH ⟨H0.out, by rw [HH.out]; exact Nat.le_refl _, (fun k e => by cases e)⟩ HM (fun o ob W h => HD.out o W h.1) (fun o ob ob' W W' h hm hb => ?_) (fun o y ob W h hy ho => ?_)).mono ?_
 ·refine ⟨HA.out o W W' h.1 ⟨hm.os, hm.tape, hm.output, hm.size, fun k h1 h2 => hm.block k (by have := h.2.1; omega) h2 (fun e => by have := h.2.2 k e.symm; omega)⟩, Nat.le_trans h.2.1 hm.size, fun k e => ?_⟩
  rcases hb with e2 | ⟨k2, e2, h2, _⟩
  ·exact h.2.2 k (by rw [← e2]; exact e)
  ·rw [e2] at e
   injection e with e
   have := h.2.1
   omega
 ·refine yield_monoF (HY.out o y W h.1 hy ho) (fun e W' hJ => ⟨hJ.1, ⟨hJ.2.1, Nat.le_trans h.2.1 hJ.2.2.1, h.2.2⟩, hJ.2.2.1, fun k hk => hJ.2.2.2 k (hk.imp id (fun e => h.2.2 k e.symm))⟩)
 ·rintro e W ⟨rfl, o, m, ob, hJ, h1, h2, h3⟩
  exact ⟨rfl, o, m, hJ.1, h1, h2, h3⟩
end Go.Proofs.YtncondlfngeilaaGreatDoor
namespace Go.Proofs.YtncondlfngeilaaGreatDoor
open Go.ChangeShapes Go.WideShapes Go.ChangeAt Go.RowKit Go.Proofs.Tryz
set_option linter.unusedSimpArgs false
set_option linter.unusedVariables false
set_option maxHeartbeats 2000000


theorem made_get (x : Value) (n j : Nat) (h : j < n) : (madeCells #[x] n)[j]? = some x := by
 rw [Array.getElem?_eq_getElem (by rw [size_madeCells]; simpa using h)];simp [madeCells, Nat.mod_one]
theorem made_at (w : World) (x : Value) (n : Nat) (e : TypeId) (j : Nat) (h : j < n) : (w.alloc (.cells (madeCells #[x] n) e (0, 0))).cell? ⟨w.heap.size, j, none⟩ = some x ∧ (w.alloc (.cells (madeCells #[x] n) e (0, 0))).frozen? ⟨w.heap.size, j, none⟩ = false := by
 have hh : (w.alloc (.cells (madeCells #[x] n) e (0, 0))).heap[w.heap.size]? = some (.cells (madeCells #[x] n) e (0, 0)) := by
  show (w.heap.push _)[w.heap.size]? = _
  simp
 constructor
 ·unfold World.cell?
  rw [hh];simpa using made_get x n j h
 ·unfold World.frozen?
  rw [hh];simp
theorem infoBoolF : (prog.info? 4).map (fun i => (i.zero, i.size, i.bytes)) = some (some (.bool false), 1, 1) := by kernel_rfl
theorem infoInt : (prog.info? 3).map (fun i => (i.zero, i.size, i.bytes)) = some (some (.int .i64 0), 1, 8) := by kernel_rfl
theorem infoRow : (prog.info? 22).map (fun i => (i.zero, i.size, i.bytes)) = some (some (.slice none 0 0), 1, 24) := by kernel_rfl

theorem mk_bools (n : Nat) (hn : n ≤ 1000000) (w : World) : (Instr.makeSlice 142 (.int .i64 n) (.int .i64 n)).run prog w = .ok (.slice (some ⟨w.heap.size, 0, none⟩) n n) (w.alloc (.cells (madeCells #[.bool false] n) 4)) := by
 obtain ⟨i0, hi, hz0, hz1, hz2⟩ := info_parts infoBoolF;have := run_make (P := prog) w 142 4 i0 (.bool false) underlying142 hi hz0 .i64 .i64 n n (by omega) (by omega) (by rw [hz2]; omega) (by omega);rw [this, hz1];simp [Value.cells]

theorem mk_ints (n : Nat) (hn : n ≤ 1000000) (w : World) : (Instr.makeSlice 22 (.int .i64 n) (.int .i64 n)).run prog w = .ok (.slice (some ⟨w.heap.size, 0, none⟩) n n) (w.alloc (.cells (madeCells #[.int .i64 0] n) 3)) := by
 obtain ⟨i0, hi, hz0, hz1, hz2⟩ := info_parts infoInt;have := run_make (P := prog) w 22 3 i0 (.int .i64 0) underlying22 hi hz0 .i64 .i64 n n (by omega) (by omega) (by rw [hz2]; omega) (by omega);rw [this, hz1];simp [Value.cells]

theorem mk_rows (n : Nat) (hn : n ≤ 1000000) (w : World) : (Instr.makeSlice 133 (.int .i64 n) (.int .i64 n)).run prog w = .ok (.slice (some ⟨w.heap.size, 0, none⟩) n n) (w.alloc (.cells (madeCells #[.slice none 0 0] n) 22)) := by
 obtain ⟨i0, hi, hz0, hz1, hz2⟩ := info_parts infoRow;have := run_make (P := prog) w 133 22 i0 (.slice none 0 0) underlying133 hi hz0 .i64 .i64 n n (by omega) (by omega) (by rw [hz2]; omega) (by omega);rw [this, hz1];simp [Value.cells]

theorem newSearch_any (NB n cn : Nat) (hn : n ≤ 1000000) (w : World) : Calls prog 58 #[.slice (some ⟨NB, 0, none⟩) n cn] w fun e w' => e = .returned (.pointer (some ⟨w.heap.size + 1, 0, none⟩)) ∧
  w' = (w.alloc (.cells (madeCells #[.bool false] n) 4)).alloc (.cells #[.slice (some ⟨NB, 0, none⟩) n cn, .slice (some ⟨w.heap.size, 0, none⟩) n n] 186) := by
 have mk := mk_bools n hn
 go_enter func58, ntmps58
 go_wp2;go_ret;exact ⟨by simp, rfl⟩
theorem from_any (XB : Nat) (sa : Option Addr) (sn sc : Nat) (w : World) : Calls prog 59 #[.pointer (some ⟨XB, 0, none⟩), .slice sa sn sc] w fun e w' => e = .returned (.func (.func 100) #[] #[.pointer (some ⟨w.heap.size + 1, 0, none⟩), .pointer (some ⟨w.heap.size, 0, none⟩)]) ∧
  w' = (w.alloc (.cells #[.pointer (some ⟨XB, 0, none⟩)] 134)).alloc (.cells #[.slice sa sn sc] 22) := by
 have hmf : ∀ (fn : Go.Fn) (first cap : Array Value) (w : World), (Instr.makeFunc fn first cap).run prog w = .ok (.func fn first cap) w := fun _ _ _ _ => rfl
 go_enter func59, ntmps59
 go_wp2;go_ret;exact ⟨by simp, rfl⟩
end Go.Proofs.YtncondlfngeilaaGreatDoor
namespace Go.Proofs.YtncondlfngeilaaGreatDoor
open Go.RowKit
set_option linter.unusedVariables false
set_option linter.unusedSimpArgs false

theorem grown_drew {w W : World} {row : Option Nat} (h : w.drew.grownBy W row) : w.grownBy W row := ⟨h.os, h.tape, h.output, h.size, h.block⟩
theorem cell_new (w : World) (x : Value) (e : TypeId) (h : x.oneCell' = true) : (w.alloc (.cells #[x] e)).cell? ⟨w.heap.size, 0, none⟩ = some x := by simp
def rangesOfF : Code → List (Array Tmp × Code × Code)
 | .rangeFunc _ ps a b => [(ps, a, b)]
 | .seq a b => rangesOfF a ++ rangesOfF b
 | .block _ c => rangesOfF c
 | .scope c => rangesOfF c
 | .loop c => rangesOfF c
 | .cond _ a b => rangesOfF a ++ rangesOfF b
 | _ => []
def loopsOf : Code → List Code
 | .loop c => [c]
 | .seq a b => loopsOf a ++ loopsOf b
 | .block _ c => loopsOf c
 | .scope c => loopsOf c
 | .cond _ a b => loopsOf a ++ loopsOf b
 | _ => []
theorem put_otherF {W : World} {l k : Nat} {o : Obj} (h : k ≠ l) : (W.putObj l o).heap[k]? = W.heap[k]? := World.putObj_heap_other h
theorem cell_not_loopF {W : World} {b o l : Nat} {r : Loop} {v : Value} (hl : W.heap[l]? = some (.loop r)) (hc : W.cell? ⟨b, o, none⟩ = some v) : b ≠ l := by
 rintro rfl;simp [World.cell?, hl] at hc
theorem gset_otherF {w : World} {b b' o : Nat} {v : Value} (h : b ≠ b') : (w.setCell ⟨b', o, none⟩ v).heap[b]? = w.heap[b]? := Below.heap_setCell w ⟨b', o, none⟩ v b h
theorem gsize_setF (w : World) (p : Addr) (u : Value) : (w.setCell p u).heap.size = w.heap.size := by simp [World.setCell]
theorem gwp_namedF {P : Program} {c : Code} {Q : Exit → Act → World → Prop} {a : Act} {w0 : World} (Fct : World → Prop) (h : Fct w0) (k : ∀ W, Fct W → Code.wp P c Q a W) : Code.wp P c Q a w0 := k w0 h
theorem gq_namedF {Q : Exit → Act → World → Prop} {a : Act} {w0 : World} (Fct : World → Prop) (h : Fct w0) (k : ∀ W, Fct W → Q .normal a W) : Q .normal a w0 := k w0 h
def mkD (d : Nat) : Deferred := { target := .collected d, args := #[] }
theorem leaves_marks {F : Fence} {n : Nat} {P : Program} {fn : Func} {tmps : Array Value} {R : Ending → World → Prop} : ∀ (ms : List Nat) (w : World), ms.Nodup → (∀ d ∈ ms, w.heap[d]? = some (.deferred (some []))) →
  (∀ W : World, (∀ k, k ∉ ms → W.heap[k]? = w.heap[k]?) → W.os = w.os → W.tape = w.tape → W.output = w.output → W.heap.size = w.heap.size → LeavesIn F n P fn tmps R [] .returning W) → LeavesInM F n P fn tmps R (ms.map mkD) .returning w
 | [], w, _, _, h => h w (fun _ _ => rfl) rfl rfl rfl rfl
 | d :: ms, w, hn, hm, h => by
  refine ⟨by simp, .inl ⟨d, _, rfl, run_takeDeferred (hm d (by simp)), ?_⟩⟩;have hn' := List.nodup_cons.1 hn;refine leaves_marks ms _ hn'.2 (fun d' hd' => ?_) (fun W h1 h2 h3 h4 h5 => h W (fun k hk => ?_) h2 h3 h4 (by rw [h5, World.putObj_size]))
  ·have hne : d' ≠ d := fun e => hn'.1 (by rw [← e]; exact hd')
   rw [put_otherF hne];exact hm d' (by simp [hd'])
  ·have hne : k ≠ d := fun e => hk (by rw [e]; simp)
   rw [h1 k (fun hh => hk (by simp [hh])), put_otherF hne]
end Go.Proofs.YtncondlfngeilaaGreatDoor
namespace Go.Proofs.YtncondlfngeilaaGreatDoor
open Go.ChangeShapes Go.WideShapes Go.ChangeAt Go.RowKit
set_option linter.unusedSimpArgs false
set_option linter.unusedVariables false

theorem cell_of {W W' : World} {b o : Nat} {v : Value} (h : W.cell? ⟨b, o, none⟩ = some v) (hk : b < W.heap.size → W'.heap[b]? = W.heap[b]?) : W'.cell? ⟨b, o, none⟩ = some v := by
 rw [World.cell?_of_block (w := W) (hk (block_lt_of_cell h))]; exact h
theorem cell_new2 (w : World) (x : Value) (e : TypeId) (k : Nat) (hk : w.heap.size = k) (h : x.oneCell' = true := by rfl) : (w.alloc (.cells #[x] e)).cell? ⟨k, 0, none⟩ = some x := by subst hk; exact cell_new w x e h
theorem wp_calm {P : Program} {c : Code} {Q : Exit → Act → World → Prop} {a : Act} {w : World} (h : Code.wp P c (fun e a w => e = .normal ∧ Q .normal a w) a w) : Code.wp P c Q a w :=
 Go.wp_mono h (fun e a w hq => by obtain ⟨rfl, h⟩ := hq; exact h)
theorem ownsRow_blk {W W' : World} {B : Nat} {e : TypeId} {v : Value} {k : Nat} {xs : List Value} (h : W.ownsRow B e 1 v k xs) (hk : ∀ b, v.ownBlock = some b → W'.heap[b]? = W.heap[b]?) : W'.ownsRow B e 1 v k xs := by
 refine ⟨h.1, ?_⟩
 rcases h.2 with z | ⟨b, cap, cur, h1, h2, h3, h4⟩
 ·exact .inl z
 ·exact .inr ⟨b, cap, cur, h1, h2, by rw [hk b (by rw [h1]; rfl)]; exact h3, h4⟩
structure NI (B NB n : Nat) (rv : Nat → Value) (g : Nat → List Nat) (W : World) : Prop where
 cell : ∀ i, i < n → W.cell? ⟨NB, i, none⟩ = some (rv i) ∧ W.frozen? ⟨NB, i, none⟩ = false
 own : ∀ i, i < n → W.ownsRow B 3 1 (rv i) (g i).length (intsF (up (g i)))
 ne : ∀ i, i < n → some NB ≠ (rv i).ownBlock
 dis : ∀ i j, i < n → j < n → i ≠ j → (rv i).ownBlock = none ∨ (rv i).ownBlock ≠ (rv j).ownBlock
theorem NI.of {B NB n : Nat} {rv : Nat → Value} {g : Nat → List Nat} {W W' : World} (h : NI B NB n rv g W) (hb : Below W.heap.size W W') : NI B NB n rv g W' where
 cell := fun i hi => ⟨keep_cell hb (h.cell i hi).1, keep_frozen hb (h.cell i hi).1 (h.cell i hi).2⟩
 own := fun i hi => ownsRow_blk (h.own i hi) (fun b hbk => hb.block b ((h.own i hi).lt b hbk).2)
 ne := h.ne
 dis := h.dis
theorem NI.start (W : World) (B NB n : Nat) (hc : ∀ i, i < n → W.cell? ⟨NB, i, none⟩ = some (.slice none 0 0) ∧ W.frozen? ⟨NB, i, none⟩ = false) : NI B NB n (fun _ => .slice none 0 0) (fun _ => []) W where
 cell := hc
 own := fun _ _ => World.ownsRow_nil _ _ _ _
 ne := fun _ _ => by simp [Value.ownBlock]
 dis := fun _ _ _ _ _ => .inl rfl
def setR (rv : Nat → Value) (x : Nat) (v : Value) : Nat → Value := fun i => if i = x then v else rv i
def addG (g : Nat → List Nat) (x t : Nat) : Nat → List Nat := fun i => if i = x then g i ++ [t] else g i
theorem NI.push {B NB n x t : Nat} {rv : Nat → Value} {g : Nat → List Nat} {W w3 : World} {v : Value} {N : Nat} (h : NI B NB n rv g W) (hx : x < n) (ho : w3.ownsRow B 3 1 v ((g x).length + 1) (intsF (up (g x)) ++ [.int .i64 t])) (hg : W.grownBy w3 (rv x).ownBlock) (hb : v.ownBlock = (rv x).ownBlock ∨ v.ownBlock = some N) (hN : W.heap.size ≤ N) :
  NI B NB n (setR rv x v) (addG g x t) (w3.setCell ⟨NB, x, none⟩ v) := by
 have hNB : NB < W.heap.size := block_lt_of_cell (h.cell x hx).1
 have hvn : some NB ≠ v.ownBlock := by
  rcases hb with e | e
  ·rw [e]; exact h.ne x hx
  ·rw [e]; intro e2; injection e2 with e2; omega
 have hcell : ∀ i, i < n → w3.cell? ⟨NB, i, none⟩ = some (rv i) ∧ w3.frozen? ⟨NB, i, none⟩ = false := fun i hi => by
  have hk := hg.block NB hNB (h.ne x hx);exact ⟨by rw [World.cell?_of_block (w := W) hk]; exact (h.cell i hi).1, by rw [World.frozen?_of_block (w := W) hk]; exact (h.cell i hi).2⟩
 have hset : ∀ b, b ≠ NB → (w3.setCell ⟨NB, x, none⟩ v).heap[b]? = w3.heap[b]? := fun b hbn => gset_otherF hbn;refine ⟨fun i hi => ?_, fun i hi => ?_, fun i hi => ?_, fun i j hi hj hij => ?_⟩
 ·refine ⟨?_, by rw [World.frozen?_setCell]; exact (hcell i hi).2⟩
  unfold setR
  by_cases e : i = x
  ·subst e
   rw [if_pos rfl];exact World.cell?_setCell_same _ _ _ (hcell i hi).1
  ·rw [if_neg e, World.cell?_setCell_other _ _ _ _ (fun e2 => e (by cases e2; rfl))]
   exact (hcell i hi).1
 ·unfold setR addG
  by_cases e : i = x
  ·subst e
   rw [if_pos rfl, if_pos rfl];rw [List.length_append, up_append, ints_append];exact ownsRow_blk ho (fun b hbk => hset b (fun e => hvn (by rw [hbk, e])))
  ·rw [if_neg e, if_neg e]
   refine ownsRow_blk (W := W) (h.own i hi) (fun b hbk => ?_);rw [hset b (fun e2 => h.ne i hi (by rw [hbk, e2]))];refine hg.block b ((h.own i hi).lt b hbk).2 (fun e2 => ?_)
   rcases h.dis i x hi hx e with z | z
   ·rw [z] at hbk; cases hbk
   ·exact z (by rw [hbk, e2])
 ·unfold setR
  by_cases e : i = x
  ·rw [if_pos e]; exact hvn
  ·rw [if_neg e]; exact h.ne i hi
 ·unfold setR
  have hlt : ∀ j, j < n → ∀ b, (rv j).ownBlock = some b → b < W.heap.size := fun j hj b hbk => ((h.own j hj).lt b hbk).2
  by_cases e : i = x
  ·subst e
   rw [if_pos rfl, if_neg (Ne.symm hij)]
   rcases hb with z | z
   ·rw [z]; exact h.dis i j hi hj hij
   ·rw [z]
    exact .inr (fun e2 => by have := hlt j hj N e2.symm; omega)
  ·rw [if_neg e]
   by_cases e2 : j = x
   ·subst e2
    rw [if_pos rfl]
    rcases hb with z | z
    ·rw [z]; exact h.dis i j hi hj hij
    ·rw [z]
     cases hbk : (rv i).ownBlock with
     | none => exact .inl rfl
     | some b => exact .inr (fun e3 => by injection e3 with e3; have := hlt i hi b hbk; omega)
   ·rw [if_neg e2]; exact h.dis i j hi hj hij
theorem NI.ext {B NB n : Nat} {rv : Nat → Value} {g g' : Nat → List Nat} {W : World} (h : NI B NB n rv g W) (e : ∀ i, g i = g' i) : NI B NB n rv g' W := by
 have : g = g' := funext e;rw [← this]; exact h
theorem NI.blk {B NB n : Nat} {rv : Nat → Value} {g : Nat → List Nat} {W W' : World} (h : NI B NB n rv g W) (hk : ∀ k, (0 < n ∧ k = NB) ∨ (∃ i, i < n ∧ (rv i).ownBlock = some k) → W'.heap[k]? = W.heap[k]?) : NI B NB n rv g W' where
 cell := fun i hi => by
  have e := hk NB (.inl ⟨by omega, rfl⟩);exact ⟨by rw [World.cell?_of_block (w := W) e]; exact (h.cell i hi).1, by rw [World.frozen?_of_block (w := W) e]; exact (h.cell i hi).2⟩
 own := fun i hi => ownsRow_blk (h.own i hi) (fun b hbk => hk b (.inr ⟨i, hi, hbk⟩))
 ne := h.ne
 dis := h.dis
theorem ownsRow_not_loop {W : World} {B : Nat} {e : TypeId} {v : Value} {k b : Nat} {xs : List Value} {r : Loop} (h : W.ownsRow B e 1 v k xs) (hb : v.ownBlock = some b) (hl : W.heap[b]? = some (.loop r)) : False := by
 rcases h.2 with ⟨h1, _⟩ | ⟨g, cap, cur, h1, h2, h3, h4⟩
 ·rw [h1] at hb; cases hb
 ·rw [h1] at hb
  have hg : g = b := by simpa [Value.ownBlock] using hb
  subst hg;rw [hl] at h3
  cases h3
theorem NI.loop {B NB n l : Nat} {rv : Nat → Value} {g : Nat → List Nat} {W W' : World} {r : Loop} (h : NI B NB n rv g W) (hl : W.heap[l]? = some (.loop r)) (hk : ∀ k, k ≠ l → W'.heap[k]? = W.heap[k]?) : NI B NB n rv g W' :=
 h.blk (fun k hkk => hk k (fun e => by
  subst e
  rcases hkk with ⟨h0, rfl⟩ | ⟨i, hi, hb⟩
  ·exact cell_not_loopF hl (h.cell 0 h0).1 rfl
  ·exact ownsRow_not_loop (h.own i hi) hb hl))
end Go.Proofs.YtncondlfngeilaaGreatDoor
