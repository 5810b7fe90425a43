import Derived.Test.YtncondlfngeilaaGreatDoorTzA
import Derived.Test.YtncondlfngeilaaGreatDoorTzG
namespace Go.Proofs.YtncondlfngeilaaGreatDoor
open Go.ChangeShapes Go.WideShapes Go.ChangeAt Go.RowKit Go.Proofs.Tryz
set_option linter.unusedSimpArgs false
set_option linter.unusedVariables false
set_option maxRecDepth 100000
set_option maxHeartbeats 16000000

structure E2F (w w0 : World) (XB MB LX LB NB N cap cb co : Nat) (code : List Ins) (rv : Nat → Value) : Prop where
 x0 : w0.cell? ⟨XB, 0, none⟩ = some (.slice (some ⟨NB, 0, none⟩) N N)
 x1 : w0.cell? ⟨XB, 1, none⟩ = some (.slice (some ⟨MB, 0, none⟩) N N)
 lx : w0.cell? ⟨LX, 0, none⟩ = some (.slice (some ⟨LB, 0, none⟩) N N)
 ni : NI w.heap.size NB N rv (gOf (esN code N)) w0
 a : XB ≠ MB ∧ XB ≠ LB ∧ LX ≠ MB ∧ LX ≠ LB ∧ MB ≠ LB ∧ NB ≠ MB ∧ NB ≠ LB
 nr : ¬ Ob N rv MB ∧ ¬ Ob N rv LB
 s : MB < w0.heap.size ∧ LB < w0.heap.size ∧ w.heap.size ≤ MB ∧ w.heap.size ≤ LB
structure LE2 (w w0 : World) (XB MB LX LB NB N cap cb co : Nat) (code : List Ins) (rv : Nat → Value) (i : Nat) (ms : List Nat) (W : World) : Prop where
 st : ∃ m Lf, TnI code N i m Lf ∧ MetAt W MB N m ∧ ∀ j, j < N → W.cell? ⟨LB, j, none⟩ = some (.int .i64 (Lf j : Int)) ∧ W.frozen? ⟨LB, j, none⟩ = false
 bel : Below w.heap.size w W
 size : w0.heap.size ≤ W.heap.size
 block : ∀ k, k < w0.heap.size → k ≠ MB → k ≠ LB → W.heap[k]? = w0.heap[k]?
 mrk : ms.Nodup ∧ ∀ d ∈ ms, W.heap[d]? = some (.deferred (some [])) ∧ w0.heap.size ≤ d
theorem LE2.keep {w w0 : World} {XB MB LX LB NB N cap cb co : Nat} {code : List Ins} {rv : Nat → Value} {i : Nat} {ms : List Nat} {W W' : World} (h : LE2 w w0 XB MB LX LB NB N cap cb co code rv i ms W) (hs : MB < w0.heap.size) (hb : Below W.heap.size W W') : LE2 w w0 XB MB LX LB NB N cap cb co code rv i ms W' := by
 obtain ⟨m, Lf, h1, h2, h3⟩ := h.st;exact ⟨⟨m, Lf, h1, h2.of (hb.block MB (by have := h.size; omega)), fun j hj => ⟨keep_cell hb (h3 j hj).1, keep_frozen hb (h3 j hj).1 (h3 j hj).2⟩⟩, bel_trans h.bel hb, Nat.le_trans h.size hb.size, fun k q1 q2 q3 => (hb.block k (by have := h.size; omega)).trans (h.block k q1 q2 q3), h.mrk.1, fun d hd => ⟨(hb.block d (zge (h.mrk.2 d hd).1).1).trans (h.mrk.2 d hd).1, (h.mrk.2 d hd).2⟩⟩
theorem LE2.skip {w w0 : World} {XB MB LX LB NB N cap cb co : Nat} {code : List Ins} {rv : Nat → Value} {i : Nat} {ms : List Nat} {W : World} {x : Ins} (h : LE2 w w0 XB MB LX LB NB N cap cb co code rv i ms W) (hx : code[i]? = some x) (h1 : x.op = 1) : LE2 w w0 XB MB LX LB NB N cap cb co code rv (i + 1) ms W := by
 obtain ⟨m, Lf, q1, q2, q3⟩ := h.st;exact ⟨⟨m, Lf, q1.skip hx h1, q2, q3⟩, h.bel, h.size, h.block, h.mrk⟩
noncomputable def e2Loop : Code := (((Tryz.f31.body.map loopsOf).getD [])[1]?).getD .skip
def IE2 (w w0 : World) (XB MB LX LB NB N cap cb co : Nat) (code : List Ins) (rv : Nat → Value) (z1z z2z z5z z6z z11z z12z z13z z14z z15z z16z z17z z18z z19z z20z z21z z22z z23z z24z z25z z26z z27z z28z z29z z30z z31z z32z z33z z34z z35z z36z z37z z38z z39z z40z z41z z42z z43z z44z z45z z66z : Value) (a : Act) (W : World) : Prop := ∃ (i : Nat) (ms : List Nat) (z8z z9z z10z z49z z50z z51z z52z z53z z54z z55z z56z z57z z58z z59z z60z z61z z62z z63z z64z z65z : Value), i ≤ N ∧ LE2 w w0 XB MB LX LB NB N cap cb co code rv i ms W ∧ a = ⟨#[.slice (some ⟨cb, co, none⟩) N cap, z1z, z2z, .slice (some ⟨NB, 0, none⟩) N N, .pointer (some ⟨LX, 0, none⟩), z5z, z6z, .pointer (some ⟨XB, 0, none⟩), z8z, z9z, z10z, z11z, z12z, z13z, z14z, z15z, z16z, z17z, z18z, z19z, z20z, z21z, z22z, z23z, z24z, z25z, z26z, z27z, z28z, z29z, z30z, z31z, z32z, z33z, z34z, z35z, z36z, z37z, z38z, z39z, z40z, z41z, z42z, z43z, z44z, z45z, .slice (some ⟨cb, co, none⟩) N cap, .int .i64 N, .int .i64 (i : Int), z49z, z50z, z51z, z52z, z53z, z54z, z55z, z56z, z57z, z58z, z59z, z60z, z61z, z62z, z63z, z64z, z65z, z66z], ms.map mkD⟩
def muE2 (n : Nat) (a : Act) (_ : World) : Nat := n - (intOf (a.tmps.getD 48 undef)).toNat
structure X5 (W : World) (XB i : Nat) (W5 : World) : Prop where
 bel : Below W.heap.size W W5
 size : W5.heap.size = W.heap.size + 5
 kb : W5.cell? ⟨W.heap.size, 0, none⟩ = some (.int .i64 (i : Int))
 sr : W5.cell? ⟨W.heap.size + 2, 0, none⟩ = some (.int .i64 (i : Int))
 pb : W5.cell? ⟨W.heap.size + 3, 0, none⟩ = some (.pointer (some ⟨XB, 0, none⟩))
 sb : W5.cell? ⟨W.heap.size + 4, 0, none⟩ = some (.slice (some ⟨W.heap.size + 2, 0, none⟩) 1 1)
theorem x5_made (W : World) (XB i : Nat) (cs : Array Value) : X5 W XB i (((((W.alloc (.cells #[.int .i64 (i : Int)] 3)).alloc (.cells cs 38)).alloc (.cells #[.int .i64 (i : Int)] 3)).alloc (.cells #[.pointer (some ⟨XB, 0, none⟩)] 134)).alloc (.cells #[.slice (some ⟨W.heap.size + 2, 0, none⟩) 1 1] 22)) := by
 refine ⟨bel_alloc (bel_alloc (bel_alloc (bel_alloc (bel_alloc (Below.refl _ _) _) _) _) _) _, by simp, ?_, ?_, ?_, ?_⟩
 ·exact keep_alloc (keep_alloc (keep_alloc (keep_alloc (cell_new2 W _ _ _ rfl) _) _) _) _
 ·exact keep_alloc (keep_alloc (cell_new2 _ _ _ _ (by simp)) _) _
 ·exact keep_alloc (cell_new2 _ _ _ _ (by simp)) _
 ·exact cell_new2 _ _ _ _ (by simp)
structure JE2 (W5 : World) (MB LB N : Nat) (rc : Loop) (Lf : Nat → Nat) (i : Nat) (o : List Nat) (W : World) : Prop where
 os : W.os = W5.os
 tape : W.tape = W5.tape
 output : W.output = W5.output
 size : W5.heap.size + 2 ≤ W.heap.size
 block : ∀ k, k < W5.heap.size → k ≠ MB → k ≠ LB → W.heap[k]? = W5.heap[k]?
 df : W.heap[W5.heap.size]? = some (.deferred (some []))
 lp : W.heap[W5.heap.size + 1]? = some (.loop rc)
 lb : ∀ j, j < N → W.cell? ⟨LB, j, none⟩ = some (.int .i64 ((if j ∈ o then i else Lf j : Nat) : Int)) ∧ W.frozen? ⟨LB, j, none⟩ = false
theorem JE2.enter {W5 : World} {MB LB N i : Nat} {rc : Loop} {Lf : Nat → Nat} (h : ∀ j, j < N → W5.cell? ⟨LB, j, none⟩ = some (.int .i64 (Lf j : Int)) ∧ W5.frozen? ⟨LB, j, none⟩ = false) : JE2 W5 MB LB N rc Lf i [] (loopW W5 rc) where
 os := rfl
 tape := rfl
 output := rfl
 size := by simp [loopW]
 block := fun k hk _ _ => by unfold loopW; rw [Below.heap_alloc _ _ k (by simp; omega), Below.heap_alloc _ _ k hk]
 df := by unfold loopW; rw [Below.heap_alloc _ _ _ (by simp)]; show (W5.heap.push _)[W5.heap.size]? = _; simp
 lp := by
  unfold loopW
  show ((W5.alloc (.deferred (some []))).heap.push _)[W5.heap.size + 1]? = _
  have : (W5.alloc (.deferred (some []))).heap.size = W5.heap.size + 1 := World.size_alloc _ _;rw [← this];exact Array.getElem?_push_size
 lb := fun j hj => by
  have hb : Below W5.heap.size W5 (loopW W5 rc) := bel_alloc (bel_alloc (Below.refl _ _) _) _;rw [if_neg (by simp)];exact ⟨keep_cell hb (h j hj).1, keep_frozen hb (h j hj).1 (h j hj).2⟩
theorem JE2.mv {W5 W W' : World} {MB LB N i : Nat} {rc : Loop} {Lf : Nat → Nat} {o : List Nat} (h : JE2 W5 MB LB N rc Lf i o W) (hv : Mv (W5.heap.size + 2) MB W W') (hlb : LB < W5.heap.size ∧ LB ≠ MB) (hmb : MB < W5.heap.size) : JE2 W5 MB LB N rc Lf i o W' := by
 have hk := hv.block LB (by omega) hlb.2;refine ⟨hv.os.trans h.os, hv.tape.trans h.tape, hv.output.trans h.output, Nat.le_trans h.size hv.size, fun k h1 h2 h3 => (hv.block k (by omega) h2).trans (h.block k h1 h2 h3), (hv.block _ (by omega) (by omega)).trans h.df, (hv.block _ (by omega) (by omega)).trans h.lp, fun j hj => ?_⟩;rw [World.cell?_of_block (w := W) hk, World.frozen?_of_block (w := W) hk];exact h.lb j hj
theorem JE2.put {W5 W W2 : World} {MB LB N i y : Nat} {rc : Loop} {Lf : Nat → Nat} {o : List Nat} (h : JE2 W5 MB LB N rc Lf i o W) (hlb : LB < W5.heap.size) (hy : y < N) (h1 : ∀ k, k ≠ W5.heap.size + 1 → W2.heap[k]? = W.heap[k]?) (h2 : W2.heap.size = W.heap.size ∧ W2.os = W.os ∧ W2.tape = W.tape ∧ W2.output = W.output) : JE2 W5 MB LB N rc Lf i (o ++ [y]) ((W2.setCell ⟨LB, y, none⟩ (.int .i64 (i : Int))).putObj (W5.heap.size + 1) (.loop rc)) := by
 have hz := h.size;have hk : ∀ k, k ≠ W5.heap.size + 1 → k ≠ LB → ((W2.setCell ⟨LB, y, none⟩ (.int .i64 (i : Int))).putObj (W5.heap.size + 1) (.loop rc)).heap[k]? = W.heap[k]? := fun k q1 q2 => by rw [put_otherF q1, gset_otherF q2, h1 k q1]
 refine ⟨h2.2.1.trans h.os, h2.2.2.1.trans h.tape, h2.2.2.2.trans h.output, by rw [World.putObj_size, gsize_setF, h2.1]; exact h.size, fun k q1 q2 q3 => (hk k (by omega) q3).trans (h.block k q1 q2 q3), (hk _ (by omega) (by omega)).trans h.df, World.putObj_heap_same (by rw [gsize_setF, h2.1]; omega), fun j hj => ?_⟩;have hp : ((W2.setCell ⟨LB, y, none⟩ (.int .i64 (i : Int))).putObj (W5.heap.size + 1) (.loop rc)).heap[LB]? = (W2.setCell ⟨LB, y, none⟩ (.int .i64 (i : Int))).heap[LB]? := put_otherF (by omega);have hw := h1 LB (by omega);obtain ⟨q1, q2⟩ := h.lb j hj;have q3 : W2.cell? ⟨LB, j, none⟩ = _ := (World.cell?_of_block (w := W) hw).trans q1;have q4 : W2.frozen? ⟨LB, j, none⟩ = false := (World.frozen?_of_block (w := W) hw).trans q2;rw [World.cell?_of_block (w := W2.setCell ⟨LB, y, none⟩ (.int .i64 (i : Int))) hp, World.frozen?_of_block (w := W2.setCell ⟨LB, y, none⟩ (.int .i64 (i : Int))) hp, World.frozen?_setCell];refine ⟨?_, q4⟩
 by_cases e : j = y
 ·subst e
  rw [World.cell?_setCell_same _ _ _ q3, if_pos (by simp)]
 ·rw [World.cell?_setCell_other _ _ _ _ (fun q => e (by cases q; rfl)), q3]
  by_cases q : j ∈ o
  ·rw [if_pos q, if_pos (by simp [q])]
  ·rw [if_neg q, if_neg (by simp [q, e])]
theorem NI.il {B NB n : Nat} {rv : Nat → Value} {g : Nat → List Nat} {W : World} (h : NI B NB n rv g W) {i : Nat} (hi : i < n) (hl : (g i).length ≤ 1000000000000) : IL W (rv i) (up (g i)) :=
 IL.ownF (by rw [up_length]; exact h.own i hi) (by rw [up_length]; omega)
theorem e2_step (w w0 : World) (XB MB LX LB NB N cap cb co : Nat) (code : List Ins) (rv : Nat → Value) (z1z z2z z5z z6z z11z z12z z13z z14z z15z z16z z17z z18z z19z z20z z21z z22z z23z z24z z25z z26z z27z z28z z29z z30z z31z z32z z33z z34z z35z z36z z37z z38z z39z z40z z41z z42z z43z z44z z45z z66z : Value) (z8z z9z z10z z49z z50z z51z z52z z53z z54z z55z z56z z57z z58z z59z z60z z61z z62z z63z z64z z65z : Value) (i : Nat) (ms : List Nat) (Q0 : Exit → Act → World → Prop) (W : World) (hn : N ≤ 100000) (HF : Hid (E2F w w0 XB MB LX LB NB N cap cb co code rv)) (HCL : Hid (code.length = N)) (HIN : Hid (∀ (i : Nat) x, code[i]? = some x → InsAt w cb (co + i * 9) x)) (HSX : Hid (∀ x ∈ code, x.op = 1 → x.s.toNat < N)) (HL : Hid (LE2 w w0 XB MB LX LB NB N cap cb co code rv i ms W)) (hin : i < N) :
  Code.wp prog e2Loop (Exit.then (fun a' w' => IE2 w w0 XB MB LX LB NB N cap cb co code rv z1z z2z z5z z6z z11z z12z z13z z14z z15z z16z z17z z18z z19z z20z z21z z22z z23z z24z z25z z26z z27z z28z z29z z30z z31z z32z z33z z34z z35z z36z z37z z38z z39z z40z z41z z42z z43z z44z z45z z66z a' w' ∧ muE2 N a' w' < muE2 N ⟨#[.slice (some ⟨cb, co, none⟩) N cap, z1z, z2z, .slice (some ⟨NB, 0, none⟩) N N, .pointer (some ⟨LX, 0, none⟩), z5z, z6z, .pointer (some ⟨XB, 0, none⟩), z8z, z9z, z10z, z11z, z12z, z13z, z14z, z15z, z16z, z17z, z18z, z19z, z20z, z21z, z22z, z23z, z24z, z25z, z26z, z27z, z28z, z29z, z30z, z31z, z32z, z33z, z34z, z35z, z36z, z37z, z38z, z39z, z40z, z41z, z42z, z43z, z44z, z45z, .slice (some ⟨cb, co, none⟩) N cap, .int .i64 N, .int .i64 (i : Int), z49z, z50z, z51z, z52z, z53z, z54z, z55z, z56z, z57z, z58z, z59z, z60z, z61z, z62z, z63z, z64z, z65z, z66z], ms.map mkD⟩ W) Q0) ⟨#[.slice (some ⟨cb, co, none⟩) N cap, z1z, z2z, .slice (some ⟨NB, 0, none⟩) N N, .pointer (some ⟨LX, 0, none⟩), z5z, z6z, .pointer (some ⟨XB, 0, none⟩), z8z, z9z, z10z, z11z, z12z, z13z, z14z, z15z, z16z, z17z, z18z, z19z, z20z, z21z, z22z, z23z, z24z, z25z, z26z, z27z, z28z, z29z, z30z, z31z, z32z, z33z, z34z, z35z, z36z, z37z, z38z, z39z, z40z, z41z, z42z, z43z, z44z, z45z, .slice (some ⟨cb, co, none⟩) N cap, .int .i64 N, .int .i64 (i : Int), z49z, z50z, z51z, z52z, z53z, z54z, z55z, z56z, z57z, z58z, z59z, z60z, z61z, z62z, z63z, z64z, z65z, z66z], ms.map mkD⟩ W := by
 have hget := List.getElem?_eq_getElem (l := code) (show i < code.length by rw [HCL.out]; exact hin)
 generalize code[i]'(by rw [HCL.out]; exact hin) = x at hget
 obtain ⟨v, hil, e0, e1, e2, e3, e4, e5, e6, e7, e8⟩ := (HIN.out i x hget).keep HL.out.bel;obtain ⟨va, vc, rfl, _⟩ := hil.partsF
 generalize x.args.length = vn at *
 have HGET := hidF hget;have j0 : (0 : Int) ≤ i := by omega
 have j1 : (i : Int) < N := by omega
 clear hget hil
 by_cases h1 : x.op = 1
 ·have q1 : (x.op == 1) = true := by rw [h1]; rfl
  have HK2 : Hid (∀ W', Below W.heap.size W W' → LE2 w w0 XB MB LX LB NB N cap cb co code rv (i + 1) ms W') := fun W' hb => (HL.out.keep HF.out.s.1 hb).skip HGET.out h1;clear h1 HL
  conv => arg 2; whnf
  go_wp2;have e1 : ((i : Int) + 1) = ((i + 1 : Nat) : Int) := by omega
  rw [e1];refine ⟨⟨i + 1, ms, _, _, _, _, _, _, _, _, _, _, _, _, _, _, _, _, _, _, _, _, by omega, HK2.out _ (bel_alloc (bel_alloc (Below.refl _ _) _) _), rfl⟩, ?_⟩;unfold muE2;simp [intOf]
  omega
 ·have q1 : (x.op == 1) = false := by simpa using h1
  have H1 := hidF h1;clear h1
  conv => arg 2; whnf
  go_wp2_with (go_at_call 59; refine (from_any XB _ _ _ _).mono ?_; rintro e w3 ⟨rfl, rfl⟩)
  refine gwp_namedF (X5 W XB i) (by simpa using x5_made W XB i _) ?_;intro W5 hx5;have HX5 := hidF hx5;have hsz5 := hx5.size;obtain ⟨m, Lf, ht, hmt, hlb⟩ := HL.out.st;have HT := hidF ht;have HMT : Hid (MetAt W5 MB N m) := hmt.of (hx5.bel.block MB (by have := HF.out.s.1; have := HL.out.size; omega));have HLB : Hid (∀ j, j < N → W5.cell? ⟨LB, j, none⟩ = some (.int .i64 (Lf j : Int)) ∧ W5.frozen? ⟨LB, j, none⟩ = false) := fun j hj => ⟨keep_cell hx5.bel (hlb j hj).1, keep_frozen hx5.bel (hlb j hj).1 (hlb j hj).2⟩;have HK5 : Hid (∀ k, k < w0.heap.size → k ≠ MB → k ≠ LB → W5.heap[k]? = w0.heap[k]?) := fun k q1 q2 q3 => (HX5.out.bel.block k (by have := HL.out.size; omega)).trans (HL.out.block k q1 q2 q3);have HSW := hidF HL.out.size;clear hx5 ht hmt hlb e0 e1 e2 e3 e4 e5 e6 e7 e8;refine (wpIn_wide (n := 3)).1 ?_;refine range_outer (F := Fence.wide) rfl (by omega) (gf := 100) (lb := #[.pointer (some ⟨W.heap.size + 4, 0, none⟩), .pointer (some ⟨W.heap.size + 3, 0, none⟩)]) (by simp [Act.eval]) trivial (enters_of func100 (by kernel_rfl) rfl) ?_;intro fn _;refine callsIn_wide.2 ?_
  generalize hrc : loopRec fn _ _ _ _ _ = rc
  have HRC := hidF hrc;have hlw : (loopW W5 rc).heap.size = W5.heap.size + 2 := by simp [loopW]
  refine (from1_any (W5.heap.size + 1) (W.heap.size + 4) (W.heap.size + 3) XB NB MB N N N (W5.heap.size + 2) (some ⟨W.heap.size + 2, 0, none⟩) 1 1 [i] (gOf (esN code N)) rv m (loopW W5 rc) (JE2 W5 MB LB N rc Lf i) (hidF rfl) (by omega) (by omega) ?_ ?_ ?_ (hidF hlw) (JE2.enter HLB.out) ?_ ?_ ?_ ?_).mono ?_
  ·refine hidF (fun k hk => ⟨?_, fun t ht => ?_⟩)
   ·have h1 := gOf_length (esN code N) k
    have h2 := esN_length code N
    omega
   ·exact (mem_esN.1 (mem_gOf.1 ht)).1
  ·refine hidF (fun s hs => ?_)
   cases List.mem_singleton.1 hs
   exact hin
  ·refine hidF ?_
   have := HF.out.s.1;have := HSW.out
   omega
  ·refine hidF (HMT.out.of ?_)
   have := HF.out.s.1;have := HSW.out;unfold loopW;rw [Below.heap_alloc _ _ _ (by simp; omega), Below.heap_alloc _ _ _ (by omega)]
  ·refine hidF (fun o W' hJ => ?_)
   have hf := HF.out;have ha := hf.a;have hsw := HSW.out;have hk0 : ∀ k, k < w0.heap.size → k ≠ MB → k ≠ LB → W'.heap[k]? = w0.heap[k]? := fun k q1 q2 q3 => (hJ.block k (by omega) q2 q3).trans (HK5.out k q1 q2 q3);have hk5 : ∀ k, W.heap.size ≤ k → k < W5.heap.size → W'.heap[k]? = W5.heap[k]? := fun k q1 q2 => hJ.block k q2 (by have := hf.s.1; omega) (by have := hf.s.2.1; omega)
   have hni : NI w.heap.size NB N rv (gOf (esN code N)) W' := hf.ni.blk (fun k q => by
    rcases q with ⟨h0, rfl⟩ | q
    ·exact hk0 _ (hf.ni.nbl h0) ha.2.2.2.2.2.1 ha.2.2.2.2.2.2
    ·exact hk0 k (hf.ni.obw q).2 (fun e => hf.nr.1 (by rw [← e]; exact q)) (fun e => hf.nr.2 (by rw [← e]; exact q)))
   exact {
    c1 := cell_of HX5.out.sb (fun h => hk5 _ (by omega) h)
    il := ⟨_, _, rfl, by simp [up], (fun h => by cases h), fun _ => ⟨W.heap.size + 2, 0, rfl, fun j u hj => by
     match j, hj with
     | 0, hj =>
      have e : (i : Int) = u := by simpa [up] using hj
      rw [← e];exact cell_of HX5.out.sr (fun h => hk5 _ (by omega) h)
     | j + 1, hj => simp [up] at hj⟩⟩
    c2 := cell_of HX5.out.pb (fun h => hk5 _ (by omega) h)
    x0 := cell_of hf.x0 (fun h => hk0 _ h ha.1 ha.2.1)
    x1 := cell_of hf.x1 (fun h => hk0 _ h ha.1 ha.2.1)
    rows := fun j hj => ⟨(hni.cell j hj).1, hni.il hj (by
     have h1 := gOf_length (esN code N) j;have h2 := esN_length code N
     omega)⟩ }
  ·exact hidF (fun o W1 W2 h hv => h.mv hv ⟨by have := HF.out.s.2.1; have := HSW.out; omega, Ne.symm HF.out.a.2.2.2.2.1⟩ (by have := HF.out.s.1; have := HSW.out; omega))
  ·refine hidF (fun o y W' hJ hy hyo => ?_)
   have hf := HF.out;have ha := hf.a;have hsw := HSW.out;have hlp := hJ.lp;rw [← HRC.out] at hlp;have hk0 : ∀ k, k < w0.heap.size → k ≠ MB → k ≠ LB → W'.heap[k]? = w0.heap[k]? := fun k q1 q2 q3 => (hJ.block k (by omega) q2 q3).trans (HK5.out k q1 q2 q3);refine e2_round (W5.heap.size + 1) LX W.heap.size LB N y i _ _ fn _ _ _ _ _ _ _ _ _ _ _ _ _ _ _ _ _ _ _ _ _ _ _ _ _ _ _ _ _ _ _ _ _ _ _ _ _ _ _ _ _ _ _ _ _ _ _ _ _ _ _ _ _ _ _ _ _ _ _ _ _ _ _ _ _ W' _ hlp (cell_of hf.lx (fun h => hk0 _ h ha.2.2.1 ha.2.2.2.1)) (cell_of HX5.out.kb (fun h => hJ.block _ h (by have := hf.s.1; omega) (by have := hf.s.2.1; omega))) (hJ.lb y hy).1 (hJ.lb y hy).2 (by omega) (by omega) ?_;refine hidF (fun W2 n1 n2 => ⟨rfl, ?_⟩);have hlb := hf.s.2.1;refine (show ∀ r, r = rc → JE2 W5 MB LB N rc Lf i (o ++ [y]) ((W2.setCell ⟨LB, y, none⟩ (.int .i64 (i : Int))).putObj (W5.heap.size + 1) (.loop r)) ∧ W'.heap.size ≤ ((W2.setCell ⟨LB, y, none⟩ (.int .i64 (i : Int))).putObj (W5.heap.size + 1) (.loop r)).heap.size ∧ ∀ k, (k = MB ∨ W5.heap.size + 2 ≤ k) → k < W'.heap.size → ((W2.setCell ⟨LB, y, none⟩ (.int .i64 (i : Int))).putObj (W5.heap.size + 1) (.loop r)).heap[k]? = W'.heap[k]? from ?_) _ HRC.out;intro r hr;rw [hr];refine ⟨hJ.put (by omega) hy n1 n2, by rw [World.putObj_size, gsize_setF, n2.1]; exact Nat.le_refl _, fun k hk1 hk2 => ?_⟩
   have q1 : k ≠ W5.heap.size + 1 := by
    have := hf.s.1
    omega
   have q2 : k ≠ LB := by
    have := hf.s.2.1
    rcases hk1 with rfl | hk1
    ·exact ha.2.2.2.2.1
    ·omega
   rw [put_otherF q1, gset_otherF q2, n1 k q1]
  ·rintro e W6 ⟨rfl, o, m', hJ, hm', hsr, hsz6⟩
   refine ⟨⟨_, rfl⟩, rc, hJ.lp, by rw [← HRC.out]; simp [loopRec], .inl ⟨by rw [← HRC.out]; rfl, ?_⟩⟩;refine gq_namedF (LE2 w w0 XB MB LX LB NB N cap cb co code rv (i + 1) (W5.heap.size :: ms)) ?_ ?_
   ·have hf := HF.out
    have ha := hf.a;obtain ⟨hs1, hs2, hs3, hs4⟩ := hf.s;have hsw := HSW.out;have hsz := hJ.size;have p1 : ∀ o' k, k ≠ W5.heap.size + 1 → (W6.putObj (W5.heap.size + 1) o').heap[k]? = W6.heap[k]? := fun _ k hk => put_otherF hk;have hb := HL.out.bel;obtain ⟨_, hs⟩ := HT.out.search HCL.out HSX.out HGET.out H1.out hsr;refine ⟨⟨m', fun n => if n ∈ o then i else Lf n, hs _ (fun n hn => if_pos hn) (fun n hn => if_neg hn), hm'.of (p1 _ MB (by omega)), fun j hj => ?_⟩, ?_, by rw [World.putObj_size]; omega, fun k q1 q2 q3 => (p1 _ k (by omega)).trans ((hJ.block k (by omega) q2 q3).trans (HK5.out k q1 q2 q3)), ?_, ?_⟩
    ·have e := p1 (.loop { rc with state := .done }) LB (by omega)
     refine ⟨cell_of (hJ.lb j hj).1 (fun _ => p1 _ LB (by omega)), ?_⟩;rw [World.frozen?_of_block (w := W6) (p1 _ LB (by omega))];exact (hJ.lb j hj).2
    ·have hx := HX5.out.bel
     refine ⟨hJ.os.trans (hx.os.trans hb.os), hJ.tape.trans (hx.tape.trans hb.tape), hJ.output.trans (hx.output.trans hb.output), by rw [World.putObj_size]; have := hb.size; omega, fun k hk => (p1 _ k (by have := hb.size; omega)).trans ((hJ.block k (by have := hb.size; omega) (by omega) (by omega)).trans ((hx.block k (by have := hb.size; omega)).trans (hb.block k hk)))⟩
    ·refine List.nodup_cons.2 ⟨fun hd => ?_, HL.out.mrk.1⟩
     have := (zge (HL.out.mrk.2 _ hd).1).1
     omega
    ·intro d hd
     rcases List.mem_cons.1 hd with rfl | hd
     ·exact ⟨(p1 _ _ (by omega)).trans hJ.df, by omega⟩
     ·obtain ⟨q1, q4⟩ := HL.out.mrk.2 d hd
      have hl := (zge q1).1;exact ⟨(p1 _ d (by omega)).trans ((hJ.block d (by omega) (by omega) (by omega)).trans ((HX5.out.bel.block d hl).trans q1)), q4⟩
   intro W7 hL7;have HL7 := hidF hL7;clear hL7 hJ hm' hsr hsz6 HL hsz5 hlw;dsimp only;go_wp2;have e1 : ((i : Int) + 1) = ((i + 1 : Nat) : Int) := by omega
   rw [e1];refine ⟨⟨i + 1, W5.heap.size :: ms, _, _, _, _, _, _, _, _, _, _, _, _, _, _, _, _, _, _, _, _, by omega, HL7.out, rfl⟩, ?_⟩;unfold muE2;simp [intOf]
   omega
end Go.Proofs.YtncondlfngeilaaGreatDoor
namespace Go.Proofs.YtncondlfngeilaaGreatDoor
open Go.ChangeShapes Go.WideShapes Go.ChangeAt Go.RowKit Go.Proofs.Tryz
set_option linter.unusedSimpArgs false
set_option linter.unusedVariables false
set_option maxRecDepth 100000
set_option maxHeartbeats 8000000

theorem e2_out (w w0 : World) (XB MB LX LB NB N cap cb co : Nat) (code : List Ins) (rv : Nat → Value) (z1z z2z z5z z6z z11z z12z z13z z14z z15z z16z z17z z18z z19z z20z z21z z22z z23z z24z z25z z26z z27z z28z z29z z30z z31z z32z z33z z34z z35z z36z z37z z38z z39z z40z z41z z42z z43z z44z z45z z66z : Value) (z8z z9z z10z z49z z50z z51z z52z z53z z54z z55z z56z z57z z58z z59z z60z z61z z62z z63z z64z z65z : Value) (ms : List Nat) (Q0 : Exit → Act → World → Prop) (W : World) (HX : Hid (Q0 (.exit 2) ⟨#[.slice (some ⟨cb, co, none⟩) N cap, z1z, z2z, .slice (some ⟨NB, 0, none⟩) N N, .pointer (some ⟨LX, 0, none⟩), z5z, z6z, .pointer (some ⟨XB, 0, none⟩), z8z, z9z, z10z, z11z, z12z, z13z, z14z, z15z, z16z, z17z, z18z, z19z, z20z, z21z, z22z, z23z, z24z, z25z, z26z, z27z, z28z, z29z, z30z, z31z, z32z, z33z, z34z, z35z, z36z, z37z, z38z, z39z, z40z, z41z, z42z, z43z, z44z, z45z, .slice (some ⟨cb, co, none⟩) N cap, .int .i64 N, .int .i64 (N : Int), .bool false, z50z, z51z, z52z, z53z, z54z, z55z, z56z, z57z, z58z, z59z, z60z, z61z, z62z, z63z, z64z, z65z, z66z], ms.map mkD⟩ W)) (K : Act → World → Prop) :
  Code.wp prog e2Loop (Exit.then K Q0) ⟨#[.slice (some ⟨cb, co, none⟩) N cap, z1z, z2z, .slice (some ⟨NB, 0, none⟩) N N, .pointer (some ⟨LX, 0, none⟩), z5z, z6z, .pointer (some ⟨XB, 0, none⟩), z8z, z9z, z10z, z11z, z12z, z13z, z14z, z15z, z16z, z17z, z18z, z19z, z20z, z21z, z22z, z23z, z24z, z25z, z26z, z27z, z28z, z29z, z30z, z31z, z32z, z33z, z34z, z35z, z36z, z37z, z38z, z39z, z40z, z41z, z42z, z43z, z44z, z45z, .slice (some ⟨cb, co, none⟩) N cap, .int .i64 N, .int .i64 (N : Int), z49z, z50z, z51z, z52z, z53z, z54z, z55z, z56z, z57z, z58z, z59z, z60z, z61z, z62z, z63z, z64z, z65z, z66z], ms.map mkD⟩ W := by
 conv => arg 2; whnf
 go_wp2;exact HX.out
theorem e2_loop (w w0 : World) (XB MB LX LB NB N cap cb co : Nat) (code : List Ins) (rv : Nat → Value) (z1z z2z z5z z6z z11z z12z z13z z14z z15z z16z z17z z18z z19z z20z z21z z22z z23z z24z z25z z26z z27z z28z z29z z30z z31z z32z z33z z34z z35z z36z z37z z38z z39z z40z z41z z42z z43z z44z z45z z66z : Value) (z8z z9z z10z z49z z50z z51z z52z z53z z54z z55z z56z z57z z58z z59z z60z z61z z62z z63z z64z z65z : Value) (Q0 : Exit → Act → World → Prop) (W : World) (hn : N ≤ 100000) (HF : Hid (E2F w w0 XB MB LX LB NB N cap cb co code rv)) (HCL : Hid (code.length = N)) (HIN : Hid (∀ (i : Nat) x, code[i]? = some x → InsAt w cb (co + i * 9) x)) (HSX : Hid (∀ x ∈ code, x.op = 1 → x.s.toNat < N)) (HL : Hid (LE2 w w0 XB MB LX LB NB N cap cb co code rv 0 [] W))
  (HX : Hid (∀ (ms : List Nat) (z8z z9z z10z z49z z50z z51z z52z z53z z54z z55z z56z z57z z58z z59z z60z z61z z62z z63z z64z z65z : Value) (W' : World), LE2 w w0 XB MB LX LB NB N cap cb co code rv N ms W' → Q0 (.exit 2) ⟨#[.slice (some ⟨cb, co, none⟩) N cap, z1z, z2z, .slice (some ⟨NB, 0, none⟩) N N, .pointer (some ⟨LX, 0, none⟩), z5z, z6z, .pointer (some ⟨XB, 0, none⟩), z8z, z9z, z10z, z11z, z12z, z13z, z14z, z15z, z16z, z17z, z18z, z19z, z20z, z21z, z22z, z23z, z24z, z25z, z26z, z27z, z28z, z29z, z30z, z31z, z32z, z33z, z34z, z35z, z36z, z37z, z38z, z39z, z40z, z41z, z42z, z43z, z44z, z45z, .slice (some ⟨cb, co, none⟩) N cap, .int .i64 N, .int .i64 (N : Int), z49z, z50z, z51z, z52z, z53z, z54z, z55z, z56z, z57z, z58z, z59z, z60z, z61z, z62z, z63z, z64z, z65z, z66z], ms.map mkD⟩ W')) :
  Code.wp prog (Code.loop e2Loop) Q0 ⟨#[.slice (some ⟨cb, co, none⟩) N cap, z1z, z2z, .slice (some ⟨NB, 0, none⟩) N N, .pointer (some ⟨LX, 0, none⟩), z5z, z6z, .pointer (some ⟨XB, 0, none⟩), z8z, z9z, z10z, z11z, z12z, z13z, z14z, z15z, z16z, z17z, z18z, z19z, z20z, z21z, z22z, z23z, z24z, z25z, z26z, z27z, z28z, z29z, z30z, z31z, z32z, z33z, z34z, z35z, z36z, z37z, z38z, z39z, z40z, z41z, z42z, z43z, z44z, z45z, .slice (some ⟨cb, co, none⟩) N cap, .int .i64 N, .int .i64 0, z49z, z50z, z51z, z52z, z53z, z54z, z55z, z56z, z57z, z58z, z59z, z60z, z61z, z62z, z63z, z64z, z65z, z66z], []⟩ W := by
 refine wp_loop (IE2 w w0 XB MB LX LB NB N cap cb co code rv z1z z2z z5z z6z z11z z12z z13z z14z z15z z16z z17z z18z z19z z20z z21z z22z z23z z24z z25z z26z z27z z28z z29z z30z z31z z32z z33z z34z z35z z36z z37z z38z z39z z40z z41z z42z z43z z44z z45z z66z) (muE2 N) ⟨0, [], z8z, z9z, z10z, z49z, z50z, z51z, z52z, z53z, z54z, z55z, z56z, z57z, z58z, z59z, z60z, z61z, z62z, z63z, z64z, z65z, by omega, HL.out, rfl⟩ ?_;rintro a W2 ⟨i, ms, u8, u9, u10, u49, u50, u51, u52, u53, u54, u55, u56, u57, u58, u59, u60, u61, u62, u63, u64, u65, hi, hL, rfl⟩
 by_cases hin : i < N
 ·exact e2_step w w0 XB MB LX LB NB N cap cb co code rv z1z z2z z5z z6z z11z z12z z13z z14z z15z z16z z17z z18z z19z z20z z21z z22z z23z z24z z25z z26z z27z z28z z29z z30z z31z z32z z33z z34z z35z z36z z37z z38z z39z z40z z41z z42z z43z z44z z45z z66z u8 u9 u10 u49 u50 u51 u52 u53 u54 u55 u56 u57 u58 u59 u60 u61 u62 u63 u64 u65 i ms Q0 W2 hn HF HCL HIN HSX hL hin
 ·obtain rfl : i = N := by omega
  exact e2_out w w0 XB MB LX LB NB i cap cb co code rv z1z z2z z5z z6z z11z z12z z13z z14z z15z z16z z17z z18z z19z z20z z21z z22z z23z z24z z25z z26z z27z z28z z29z z30z z31z z32z z33z z34z z35z z36z z37z z38z z39z z40z z41z z42z z43z z44z z45z z66z u8 u9 u10 u49 u50 u51 u52 u53 u54 u55 u56 u57 u58 u59 u60 u61 u62 u63 u64 u65 ms Q0 W2 (HX.out ms u8 u9 u10 (.bool false) u50 u51 u52 u53 u54 u55 u56 u57 u58 u59 u60 u61 u62 u63 u64 u65 W2 hL) _
def retE (N : Nat) (code : List Ins) (w : World) : Ending → World → Prop := fun e W => ∃ LB, e = .returned (.slice (some ⟨LB, 0, none⟩) N N) ∧ (∀ j, j < N → W.cell? ⟨LB, j, none⟩ = some (.int .i64 (goalF code j : Int))) ∧ Below w.heap.size w W ∧ w.heap.size ≤ LB
theorem ends_walk (w : World) (N cap cb co : Nat) (code : List Ins) (hn : N ≤ 100000) (hN0 : 0 < N) (HCL : Hid (code.length = N)) (HIN : Hid (∀ (i : Nat) x, code[i]? = some x → InsAt w cb (co + i * 9) x)) (HSX : Hid (∀ x ∈ code, x.op = 1 → 0 ≤ x.s ∧ x.s < N)) :
  Calls prog 31 #[.slice (some ⟨cb, co, none⟩) N cap] w (retE N code w) := by
 refine callsIn_wide.1 (callsIn_of_wp_marks (n := 3) func31 rfl trivial ?_);simp only [ntmps31, List.size_toArray, List.length_cons, List.length_nil, Nat.reduceAdd, Nat.reduceSub, Array.replicate_succ, Array.replicate_zero, List.push_toArray, List.append_toArray, List.nil_append, List.cons_append];refine wpIn_wide.2 ?_;have mk1 := mk_rows N (by omega);have mk2 := mk_ints N (by omega);have HSN : Hid (∀ x ∈ code, x.op = 1 → x.s.toNat < N) := fun x hx h1 => by have := HSX.out x hx h1; omega
 have hL0 : LE1 w (w.heap.size + 2) (w.heap.size + 1) w.heap.size N cap cb co code 0 (fun _ => .slice none 0 0) (((w.alloc (.cells (madeCells #[.slice none 0 0] N) 22)).alloc (.cells (madeCells #[.int .i64 0] N) 3)).alloc (.cells #[.slice (some ⟨w.heap.size + 1, 0, none⟩) N N] 22)) := by
  have hno : ∀ k, ¬ Ob N (fun _ => Value.slice none 0 0) k := fun k ⟨j, _, e⟩ => by simp [Value.ownBlock] at e
  refine ⟨NI.ext (NI.start _ _ _ _ (fun i hi => ?_)) (fun i => by simp [gOf, esN]), bel_alloc (bel_alloc (bel_alloc (Below.refl _ _) _) _) _, cell_new2 _ _ _ _ (by simp), fun j hj => ?_, hno _, hno _⟩
  ·have := made_at w (.slice none 0 0) N 22 i hi
   have hb := bel_alloc (bel_alloc (Below.refl (w.alloc (.cells (madeCells #[.slice none 0 0] N) 22)).heap.size _) (.cells (madeCells #[.int .i64 0] N) 3)) (.cells #[.slice (some ⟨w.heap.size + 1, 0, none⟩) N N] 22);exact ⟨keep_cell hb this.1, keep_frozen hb this.1 this.2⟩
  ·have := made_at (w.alloc (.cells (madeCells #[.slice none 0 0] N) 22)) (.int .i64 0) N 3 j hj
   rw [World.size_alloc] at this;have hb := bel_alloc (Below.refl ((w.alloc (.cells (madeCells #[.slice none 0 0] N) 22)).alloc (.cells (madeCells #[.int .i64 0] N) 3)).heap.size _) (.cells #[.slice (some ⟨w.heap.size + 1, 0, none⟩) N N] 22);rw [if_neg (by omega)];exact ⟨keep_cell hb this.1, keep_frozen hb this.1 this.2⟩
 have HL0 := hidF hL0;clear hL0;go_wp2;refine e1_loop w (w.heap.size + 2) (w.heap.size + 1) w.heap.size N cap cb co code _ _ _ _ _ _ _ _ _ _ _ _ _ _ _ _ _ _ _ _ _ _ _ _ _ _ _ _ _ _ _ _ _ _ _ _ _ _ _ _ _ _ _ _ _ _ _ _ _ _ _ _ _ _ _ _ _ _ _ _ _  _ _ _ hn HCL HIN HSX (hidF ⟨by omega, by omega, by omega, by omega, by omega, by omega⟩) HL0 ?_;refine hidF ?_;intro rv v5 v6 v20 v21 v22 v23 v24 v25 v26 v27 v28 v29 v30 v31 v32 v33 v34 v35 v36 v37 v38 v39 v40 v41 v42 v43 W' hL;have HL1 := hidF hL;have hz : w.heap.size + 3 ≤ W'.heap.size := by have h : w.heap.size + 2 < W'.heap.size := block_lt_of_cell hL.lx; omega
 have HZ := hidF hz;clear hL hz HL0 mk1 mk2
 go_wp2_with (go_at_call 58; refine (newSearch_any w.heap.size N N (by omega) W').mono ?_; rintro e W2 ⟨rfl, rfl⟩)
 have hF : E2F w ((W'.alloc (.cells (madeCells #[.bool false] N) 4)).alloc (.cells #[.slice (some ⟨w.heap.size, 0, none⟩) N N, .slice (some ⟨W'.heap.size, 0, none⟩) N N] 186)) (W'.heap.size + 1) W'.heap.size (w.heap.size + 2) (w.heap.size + 1) w.heap.size N cap cb co code rv := by
  have h := HL1.out;have hz := HZ.out;have hb : Below W'.heap.size W' ((W'.alloc (.cells (madeCells #[.bool false] N) 4)).alloc (.cells #[.slice (some ⟨w.heap.size, 0, none⟩) N N, .slice (some ⟨W'.heap.size, 0, none⟩) N N] 186)) := bel_alloc (bel_alloc (Below.refl _ _) _) _
  have hx : ((W'.alloc (.cells (madeCells #[.bool false] N) 4)).alloc (.cells #[.slice (some ⟨w.heap.size, 0, none⟩) N N, .slice (some ⟨W'.heap.size, 0, none⟩) N N] 186)).heap[W'.heap.size + 1]? = some (.cells #[.slice (some ⟨w.heap.size, 0, none⟩) N N, .slice (some ⟨W'.heap.size, 0, none⟩) N N] 186 (0, 0)) := by
   have := xheap_new (W'.alloc (.cells (madeCells #[.bool false] N) 4)) (.cells #[.slice (some ⟨w.heap.size, 0, none⟩) N N, .slice (some ⟨W'.heap.size, 0, none⟩) N N] 186);rw [World.size_alloc] at this;exact this
  exact ⟨xheap_cell (o := 0) hx rfl, xheap_cell (o := 1) hx rfl, keep_cell hb h.lx, h.ni.of hb, by omega, ⟨fun q => by have := (h.ni.obw q).2; omega, h.fr.2⟩, by simp; omega⟩
 have hL2 : LE2 w ((W'.alloc (.cells (madeCells #[.bool false] N) 4)).alloc (.cells #[.slice (some ⟨w.heap.size, 0, none⟩) N N, .slice (some ⟨W'.heap.size, 0, none⟩) N N] 186)) (W'.heap.size + 1) W'.heap.size (w.heap.size + 2) (w.heap.size + 1) w.heap.size N cap cb co code rv 0 [] ((W'.alloc (.cells (madeCells #[.bool false] N) 4)).alloc (.cells #[.slice (some ⟨w.heap.size, 0, none⟩) N N, .slice (some ⟨W'.heap.size, 0, none⟩) N N] 186)) := by
  have h := HL1.out;have hb : Below W'.heap.size W' ((W'.alloc (.cells (madeCells #[.bool false] N) 4)).alloc (.cells #[.slice (some ⟨w.heap.size, 0, none⟩) N N, .slice (some ⟨W'.heap.size, 0, none⟩) N N] 186)) := bel_alloc (bel_alloc (Below.refl _ _) _) _;refine ⟨⟨fun _ => false, fun n => n, TnI.start, fun i hi => ?_, fun j hj => ?_⟩, bel_trans h.bel hb, Nat.le_refl _, fun k _ _ _ => rfl, List.nodup_nil, fun d hd => by cases hd⟩
  ·have := made_at W' (.bool false) N 4 i hi
   have hb := bel_alloc (Below.refl (W'.alloc (.cells (madeCells #[.bool false] N) 4)).heap.size _) (.cells #[.slice (some ⟨w.heap.size, 0, none⟩) N N, .slice (some ⟨W'.heap.size, 0, none⟩) N N] 186);exact ⟨keep_cell hb this.1, keep_frozen hb this.1 this.2⟩
  ·have := h.lb j hj
   rw [if_pos hj] at this;exact ⟨keep_cell hb this.1, keep_frozen hb this.1 this.2⟩
 generalize ((W'.alloc (.cells (madeCells #[.bool false] N) 4)).alloc (.cells #[.slice (some ⟨w.heap.size, 0, none⟩) N N, .slice (some ⟨W'.heap.size, 0, none⟩) N N] 186)) = W2 at *
 have HF := hidF hF;have HL2 := hidF hL2;clear hF hL2;go_wp2;refine e2_loop w W2 (W'.heap.size + 1) W'.heap.size (w.heap.size + 2) (w.heap.size + 1) w.heap.size N cap cb co code rv _ _ _ _ _ _ _ _ _ _ _ _ _ _ _ _ _ _ _ _ _ _ _ _ _ _ _ _ _ _ _ _ _ _ _ _ _ _ _ _ _ _ _ _ _ _ _ _ _ _ _ _ _ _ _ _ _ _ _ _  _ _ hn HF HCL HIN HSN HL2 ?_;refine hidF ?_;intro ms t8 t9 t10 t49 t50 t51 t52 t53 t54 t55 t56 t57 t58 t59 t60 t61 t62 t63 t64 t65 W3 hL;have HL3 := hidF hL;have clx : W3.cell? ⟨w.heap.size + 2, 0, none⟩ = some (.slice (some ⟨w.heap.size + 1, 0, none⟩) N N) := cell_of HF.out.lx (fun q => hL.block _ q HF.out.a.2.2.1 HF.out.a.2.2.2.1);clear hL HL1 HL2;go_wp2;refine leaves_marks ms W3 HL3.out.mrk.1 (fun d hd => (HL3.out.mrk.2 d hd).1) ?_;intro W6 h1 h2 h3 h4 h5;have hfb := HL3.out.bel;have hz := HZ.out;have hs := HF.out.s;refine ⟨_, (by simp [results, results31, go_sem]), w.heap.size + 1, rfl, fun j hj => ?_, ⟨h2.trans hfb.os, h3.trans hfb.tape, h4.trans hfb.output, by rw [h5]; exact hfb.size, fun k hk => (h1 k (fun hd => by have := (HL3.out.mrk.2 _ hd).2; omega)).trans (hfb.block k hk)⟩, by omega⟩;obtain ⟨m, Lf, q1, _, q3⟩ := HL3.out.st;rw [← q1.done HCL.out j hj];exact cell_of (q3 j hj).1 (fun _ => h1 _ (fun hd => by have := (HL3.out.mrk.2 _ hd).2; omega))
end Go.Proofs.YtncondlfngeilaaGreatDoor
