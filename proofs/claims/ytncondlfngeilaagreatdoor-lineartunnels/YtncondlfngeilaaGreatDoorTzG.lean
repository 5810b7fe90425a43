import Derived.Test.YtncondlfngeilaaGreatDoorTnE1
import Derived.Test.YtncondlfngeilaaGreatDoorTzD
import Derived.Test.YtncondlfngeilaaGreatDoorTzE
import Derived.Test.YtncondlfngeilaaGreatDoorTzF
import Derived.Test.YtncondlfngeilaaGreatDoorTzA
namespace Go.Proofs.YtncondlfngeilaaGreatDoor
open Go.ChangeShapes Go.WideShapes Go.ChangeAt Go.RowKit Go.Proofs.Tryz
set_option linter.unusedSimpArgs false
set_option linter.unusedVariables false
set_option maxRecDepth 100000
set_option maxHeartbeats 16000000

noncomputable def e1Loop : Code := (((Tryz.f31.body.map loopsOf).getD [])[0]?).getD .skip
structure LE1 (w : World) (LX LB NB N cap cb co : Nat) (code : List Ins) (i : Nat) (rv : Nat → Value) (W : World) : Prop where
 ni : NI w.heap.size NB N rv (gOf (esN code i)) W
 bel : Below w.heap.size w W
 lx : W.cell? ⟨LX, 0, none⟩ = some (.slice (some ⟨LB, 0, none⟩) N N)
 lb : ∀ j, j < N → W.cell? ⟨LB, j, none⟩ = some (.int .i64 (if j < i then (j : Int) else 0)) ∧ W.frozen? ⟨LB, j, none⟩ = false
 fr : ¬ Ob N rv LX ∧ ¬ Ob N rv LB
def IE1 (w : World) (LX LB NB N cap cb co : Nat) (code : List Ins) (z1z z2z z7z z8z z9z z10z z11z z12z z13z z14z z15z z16z z44z z45z z46z z47z z48z z49z z50z z51z z52z z53z z54z z55z z56z z57z z58z z59z z60z z61z z62z z63z z64z z65z z66z : Value) (a : Act) (W : World) : Prop := ∃ (i : Nat) (rv : Nat → Value) (z5z z6z z20z z21z z22z z23z z24z z25z z26z z27z z28z z29z z30z z31z z32z z33z z34z z35z z36z z37z z38z z39z z40z z41z z42z z43z : Value), i ≤ N ∧ LE1 w LX LB NB N cap cb co code i rv W ∧ a = ⟨#[.slice (some ⟨cb, co, none⟩) N cap, z1z, z2z, .slice (some ⟨NB, 0, none⟩) N N, .pointer (some ⟨LX, 0, none⟩), z5z, z6z, z7z, z8z, z9z, z10z, z11z, z12z, z13z, z14z, z15z, z16z, .slice (some ⟨cb, co, none⟩) N cap, .int .i64 N, .int .i64 (i : Int), z20z, z21z, z22z, z23z, z24z, z25z, z26z, z27z, z28z, z29z, z30z, z31z, z32z, z33z, z34z, z35z, z36z, z37z, z38z, z39z, z40z, z41z, z42z, z43z, z44z, z45z, z46z, z47z, z48z, z49z, z50z, z51z, z52z, z53z, z54z, z55z, z56z, z57z, z58z, z59z, z60z, z61z, z62z, z63z, z64z, z65z, z66z], []⟩
def muE1 (n : Nat) (a : Act) (_ : World) : Nat := n - (intOf (a.tmps.getD 19 undef)).toNat
structure LE1b (w : World) (LX LB NB N cap cb co : Nat) (code : List Ins) (i KB : Nat) (x : Ins) (rv : Nat → Value) (W : World) : Prop where
 ni : NI w.heap.size NB N rv (gOf (esN code i)) W
 bel : Below w.heap.size w W
 lx : W.cell? ⟨LX, 0, none⟩ = some (.slice (some ⟨LB, 0, none⟩) N N)
 lb : ∀ j, j < N → W.cell? ⟨LB, j, none⟩ = some (.int .i64 (if j < i + 1 then (j : Int) else 0)) ∧ W.frozen? ⟨LB, j, none⟩ = false
 fr : ¬ Ob N rv LX ∧ ¬ Ob N rv LB
 c0 : W.cell? ⟨KB, 0, none⟩ = some (.int .i64 x.op)
 c7 : W.cell? ⟨KB, 7, none⟩ = some (.int .i64 x.s)
 kb : KB ≠ NB ∧ ¬ Ob N rv KB
theorem LE1b.next {w : World} {LX LB NB N cap cb co : Nat} {code : List Ins} {i KB : Nat} {x : Ins} {rv : Nat → Value} {W : World} (h : LE1b w LX LB NB N cap cb co code i KB x rv W) (hx : code[i]? = some x) (h1 : x.op ≠ 1) : LE1 w LX LB NB N cap cb co code (i + 1) rv W :=
 ⟨NI.ext h.ni (fun k => by rw [esN_succ hx]; unfold nopE; rw [if_neg h1, List.append_nil]), h.bel, h.lx, h.lb, h.fr⟩
theorem le1_round {w : World} {LX LB NB N cap cb co : Nat} {code : List Ins} {i : Nat} {x : Ins} {rv : Nat → Value} {W W1 : World} {va : Option Addr} {vn vc : Nat} (HNE : LX ≠ NB ∧ LX ≠ LB ∧ LB ≠ NB ∧ w.heap.size ≤ NB ∧ w.heap.size ≤ LB ∧ w.heap.size ≤ LX) (h : LE1 w LX LB NB N cap cb co code i rv W) (hi : i < N) (hb : Below W.heap.size W W1) (hk : W1.heap[W.heap.size]? = some (.cells #[.int .i64 x.op, .int .i64 x.sub, .int .i64 x.a, .int .i64 x.b, .int .i64 x.d, .int .i64 x.k, .slice va vn vc, .int .i64 x.s, .int .i64 x.t] 38 (0, 0))) : LE1b w LX LB NB N cap cb co code i W.heap.size x rv (W1.setCell ⟨LB, i, none⟩ (.int .i64 (i : Int))) := by
 have hLB : LB < W.heap.size := block_lt_of_cell (h.lb i hi).1;have hNB : NB < W.heap.size := h.ni.nbl (by omega);have ho : ∀ k, k ≠ LB → (W1.setCell ⟨LB, i, none⟩ (.int .i64 (i : Int))).heap[k]? = W1.heap[k]? := fun k hk => gset_otherF hk;have ho2 : ∀ k, k < W.heap.size → k ≠ LB → (W1.setCell ⟨LB, i, none⟩ (.int .i64 (i : Int))).heap[k]? = W.heap[k]? := fun k h1 h2 => (ho k h2).trans (hb.block k h1);have hk2 : (W1.setCell ⟨LB, i, none⟩ (.int .i64 (i : Int))).heap[W.heap.size]? = some (.cells #[.int .i64 x.op, .int .i64 x.sub, .int .i64 x.a, .int .i64 x.b, .int .i64 x.d, .int .i64 x.k, .slice va vn vc, .int .i64 x.s, .int .i64 x.t] 38 (0, 0)) := (ho _ (by omega)).trans hk;refine ⟨h.ni.blk (fun k q => ?_), ?_, cell_of h.lx (fun q => ho2 _ q HNE.2.1), fun j hj => ?_, h.fr, xheap_cell (o := 0) hk2 rfl, xheap_cell (o := 7) hk2 rfl, by omega, fun q => by have := (h.ni.obw q).2; omega⟩
 ·rcases q with ⟨_, rfl⟩ | q
  ·exact ho2 _ hNB (Ne.symm HNE.2.2.1)
  ·exact ho2 _ (h.ni.obw q).2 (fun e => h.fr.2 (by rw [← e]; exact q))
 ·exact (bel_trans h.bel hb).setCell (by show _ ≤ LB; omega) _
 ·obtain ⟨q1, q2⟩ := h.lb j hj
  have q3 := keep_cell hb q1;refine ⟨?_, by rw [World.frozen?_setCell]; exact keep_frozen hb q1 q2⟩
  by_cases e : j = i
  ·subst e
   rw [World.cell?_setCell_same _ _ _ q3, if_pos (by omega)]
  ·rw [World.cell?_setCell_other _ _ _ _ (fun q => e (by cases q; rfl)), q3]
   by_cases q : j < i
   ·rw [if_pos q, if_pos (by omega)]
   ·rw [if_neg q, if_neg (by omega)]
theorem e1_step (w : World) (LX LB NB N cap cb co : Nat) (code : List Ins) (z1z z2z z7z z8z z9z z10z z11z z12z z13z z14z z15z z16z z44z z45z z46z z47z z48z z49z z50z z51z z52z z53z z54z z55z z56z z57z z58z z59z z60z z61z z62z z63z z64z z65z z66z : Value) (z5z z6z z20z z21z z22z z23z z24z z25z z26z z27z z28z z29z z30z z31z z32z z33z z34z z35z z36z z37z z38z z39z z40z z41z z42z z43z : Value) (i : Nat) (rv : Nat → Value) (Q0 : Exit → Act → World → Prop) (W : World) (hn : N ≤ 100000) (HCL : Hid (code.length = N)) (HIN : Hid (∀ (i : Nat) x, code[i]? = some x → InsAt w cb (co + i * 9) x)) (HSX : Hid (∀ x ∈ code, x.op = 1 → 0 ≤ x.s ∧ x.s < N)) (HNE : Hid (LX ≠ NB ∧ LX ≠ LB ∧ LB ≠ NB ∧ w.heap.size ≤ NB ∧ w.heap.size ≤ LB ∧ w.heap.size ≤ LX)) (HL : Hid (LE1 w LX LB NB N cap cb co code i rv W)) (hin : i < N) :
  Code.wp prog e1Loop (Exit.then (fun a' w' => IE1 w LX LB NB N cap cb co code z1z z2z z7z z8z z9z z10z z11z z12z z13z z14z z15z z16z z44z z45z z46z z47z z48z z49z z50z z51z z52z z53z z54z z55z z56z z57z z58z z59z z60z z61z z62z z63z z64z z65z z66z a' w' ∧ muE1 N a' w' < muE1 N ⟨#[.slice (some ⟨cb, co, none⟩) N cap, z1z, z2z, .slice (some ⟨NB, 0, none⟩) N N, .pointer (some ⟨LX, 0, none⟩), z5z, z6z, z7z, z8z, z9z, z10z, z11z, z12z, z13z, z14z, z15z, z16z, .slice (some ⟨cb, co, none⟩) N cap, .int .i64 N, .int .i64 (i : Int), z20z, z21z, z22z, z23z, z24z, z25z, z26z, z27z, z28z, z29z, z30z, z31z, z32z, z33z, z34z, z35z, z36z, z37z, z38z, z39z, z40z, z41z, z42z, z43z, z44z, z45z, z46z, z47z, z48z, z49z, z50z, z51z, z52z, z53z, z54z, z55z, z56z, z57z, z58z, z59z, z60z, z61z, z62z, z63z, z64z, z65z, z66z], []⟩ W) Q0) ⟨#[.slice (some ⟨cb, co, none⟩) N cap, z1z, z2z, .slice (some ⟨NB, 0, none⟩) N N, .pointer (some ⟨LX, 0, none⟩), z5z, z6z, z7z, z8z, z9z, z10z, z11z, z12z, z13z, z14z, z15z, z16z, .slice (some ⟨cb, co, none⟩) N cap, .int .i64 N, .int .i64 (i : Int), z20z, z21z, z22z, z23z, z24z, z25z, z26z, z27z, z28z, z29z, z30z, z31z, z32z, z33z, z34z, z35z, z36z, z37z, z38z, z39z, z40z, z41z, z42z, z43z, z44z, z45z, z46z, z47z, z48z, z49z, z50z, z51z, z52z, z53z, z54z, z55z, z56z, z57z, z58z, z59z, z60z, z61z, z62z, z63z, z64z, z65z, z66z], []⟩ W := by
 have hget := List.getElem?_eq_getElem (l := code) (show i < code.length by rw [HCL.out]; exact hin)
 generalize code[i]'(by rw [HCL.out]; exact hin) = x at hget
 obtain ⟨v, hil, e0, e1, e2, e3, e4, e5, e6, e7, e8⟩ := (HIN.out i x hget).keep HL.out.bel;obtain ⟨va, vc, rfl, _⟩ := hil.partsF
 generalize x.args.length = vn at *
 have HGET := hidF hget;have clx := HL.out.lx;have clb := (HL.out.lb i hin).1;have zlb := (HL.out.lb i hin).2;have j0 : (0 : Int) ≤ i := by omega
 have j1 : (i : Int) < N := by omega
 clear hget hil
 conv => arg 2; whnf
 go_upto_region 6 with fail
 refine gwp_namedF (fun W' => Below W.heap.size W W' ∧ W'.heap.size = W.heap.size + 1 ∧ W'.heap[W.heap.size]? = some (.cells #[.int .i64 x.op, .int .i64 x.sub, .int .i64 x.a, .int .i64 x.b, .int .i64 x.d, .int .i64 x.k, .slice va vn vc, .int .i64 x.s, .int .i64 x.t] 38 (0, 0))) ⟨bel_alloc (Below.refl _ _) _, by simp, xheap_new W _⟩ ?_;rintro W1 ⟨hb1, hs1, hkb⟩;have HM := hidF (le1_round HNE.out HL.out hin hb1 hkb);replace clx := keep_cell hb1 clx;replace zlb := keep_frozen hb1 clb zlb;replace clb := keep_cell hb1 clb;clear e0 e1 e2 e3 e4 e5 e6 e7 e8 hkb hb1 hs1
 go_upto_region 7 with fail
 generalize W1.setCell ⟨LB, i, none⟩ (.int .i64 (i : Int)) = W2 at *
 clear clx clb zlb;have c0 := HM.out.c0
 by_cases h1 : x.op = 1
 ·have q1 : (x.op == 1) = true := by rw [h1]; rfl
  have hsx := HSX.out x (List.mem_of_getElem? HGET.out) h1;obtain ⟨z, hz⟩ : ∃ z : Nat, x.s = z := ⟨x.s.toNat, by omega⟩;have HZ : Hid (x.s.toNat = z ∧ z < N) := ⟨by omega, by omega⟩;have H1 := hidF h1;clear h1
  go_upto_region 8 with fail
  refine wp_calm ?_
  have hlen : (gOf (esN code i) z).length ≤ 1000000000000 := by
   have h1 := gOf_length (esN code i) z;have h2 := esN_length code i
   omega
  refine tn_reg W.heap.size NB N w.heap.size z i rv (gOf (esN code i)) _ _ _ _ _ _ _ _ _ _ _ _ _ _ _ _ _ _ _ _ _ _ _ _ _ _ _ _ _ _ _ _ _ _ _ _ _ _ _ _ _ _ _ _ _ _ _ _ _ _ _ _ _ _ _ _ _ _ _ _ _ _ _ _ _ _ W2 (fun c a dd v x h => by cases h.1) (by rw [← hz]; exact HM.out.c7) HM.out.ni HZ.out.2 hlen HM.out.bel.size (ob_all.2 HM.out.kb.2) HM.out.kb.1 ?_;intro y31 y32 y33 y34 y35 y36 y37 y38 y39 y40 y41 y42 W' rv' hni hkeep hsz hos htp hot hob
  have HF : Hid (LE1 w LX LB NB N cap cb co code (i + 1) rv' W') := by
   have ho2 : ∀ k, Ob N rv' k → Ob N rv k ∨ W2.heap.size ≤ k := fun k ⟨j, hj, e⟩ => (hob j hj k e).imp (fun q => ⟨j, hj, q⟩) id;have hk2 : ∀ k, k ≠ NB → k < W2.heap.size → ¬ Ob N rv k → W'.heap[k]? = W2.heap[k]? := fun k q1 q2 q3 => hkeep k q1 q2 (ob_all.2 q3);have hlx : LX < W2.heap.size := block_lt_of_cell HM.out.lx;have hlb : LB < W2.heap.size := block_lt_of_cell (HM.out.lb i hin).1;have hfr := HM.out.fr;have hb := HM.out.bel;have hne := HNE.out;refine ⟨NI.ext hni (fun k => ?_), ⟨hos.trans hb.os, htp.trans hb.tape, hot.trans hb.output, Nat.le_trans hb.size hsz, fun k hk => (hk2 k (by omega) (by have := hb.size; omega) (fun q => by have := (HM.out.ni.obw q).1; omega)).trans (hb.block k hk)⟩, cell_of HM.out.lx (fun q => hk2 _ hne.1 q hfr.1), fun j hj => ⟨cell_of (HM.out.lb j hj).1 (fun q => hk2 _ hne.2.2.1 q hfr.2), ?_⟩, ?_, ?_⟩
   ·rw [addG_gOf, esN_succ HGET.out]
    unfold nopE;rw [if_pos H1.out, HZ.out.1]
   ·rw [World.frozen?_of_block (w := W2) (hk2 _ hne.2.2.1 hlb hfr.2)]
    exact (HM.out.lb j hj).2
   ·exact fun q => (ho2 _ q).elim hfr.1 (fun q => by omega)
   ·exact fun q => (ho2 _ q).elim hfr.2 (fun q => by omega)
  clear hni hkeep hsz hos htp hot hob HM c0 HL;refine ⟨rfl, ?_⟩;go_wp2;have e1 : ((i : Int) + 1) = ((i + 1 : Nat) : Int) := by omega
  rw [e1];refine ⟨⟨i + 1, rv', _, _, _, _, _, _, _, _, _, _, _, _, _, _, _, _, _, _, _, _, _, _, _, _, _, _, by omega, HF.out, rfl⟩, ?_⟩;unfold muE1;simp [intOf]
  omega
 ·have q1 : (x.op == 1) = false := by simpa using h1
  have HF : Hid (LE1 w LX LB NB N cap cb co code (i + 1) rv W2) := HM.out.next HGET.out h1;clear h1 HM HL;go_wp2;have e1 : ((i : Int) + 1) = ((i + 1 : Nat) : Int) := by omega
  rw [e1];refine ⟨⟨i + 1, rv, _, _, _, _, _, _, _, _, _, _, _, _, _, _, _, _, _, _, _, _, _, _, _, _, _, _, by omega, HF.out, rfl⟩, ?_⟩;unfold muE1;simp [intOf]
  omega
theorem e1_out (w : World) (LX LB NB N cap cb co : Nat) (code : List Ins) (z1z z2z z7z z8z z9z z10z z11z z12z z13z z14z z15z z16z z44z z45z z46z z47z z48z z49z z50z z51z z52z z53z z54z z55z z56z z57z z58z z59z z60z z61z z62z z63z z64z z65z z66z : Value) (z5z z6z z20z z21z z22z z23z z24z z25z z26z z27z z28z z29z z30z z31z z32z z33z z34z z35z z36z z37z z38z z39z z40z z41z z42z z43z : Value) (Q0 : Exit → Act → World → Prop) (W : World) (HX : Hid (Q0 (.exit 0) ⟨#[.slice (some ⟨cb, co, none⟩) N cap, z1z, z2z, .slice (some ⟨NB, 0, none⟩) N N, .pointer (some ⟨LX, 0, none⟩), z5z, z6z, z7z, z8z, z9z, z10z, z11z, z12z, z13z, z14z, z15z, z16z, .slice (some ⟨cb, co, none⟩) N cap, .int .i64 N, .int .i64 (N : Int), .bool false, z21z, z22z, z23z, z24z, z25z, z26z, z27z, z28z, z29z, z30z, z31z, z32z, z33z, z34z, z35z, z36z, z37z, z38z, z39z, z40z, z41z, z42z, z43z, z44z, z45z, z46z, z47z, z48z, z49z, z50z, z51z, z52z, z53z, z54z, z55z, z56z, z57z, z58z, z59z, z60z, z61z, z62z, z63z, z64z, z65z, z66z], []⟩ W)) (K : Act → World → Prop) :
  Code.wp prog e1Loop (Exit.then K Q0) ⟨#[.slice (some ⟨cb, co, none⟩) N cap, z1z, z2z, .slice (some ⟨NB, 0, none⟩) N N, .pointer (some ⟨LX, 0, none⟩), z5z, z6z, z7z, z8z, z9z, z10z, z11z, z12z, z13z, z14z, z15z, z16z, .slice (some ⟨cb, co, none⟩) N cap, .int .i64 N, .int .i64 (N : Int), z20z, z21z, z22z, z23z, z24z, z25z, z26z, z27z, z28z, z29z, z30z, z31z, z32z, z33z, z34z, z35z, z36z, z37z, z38z, z39z, z40z, z41z, z42z, z43z, z44z, z45z, z46z, z47z, z48z, z49z, z50z, z51z, z52z, z53z, z54z, z55z, z56z, z57z, z58z, z59z, z60z, z61z, z62z, z63z, z64z, z65z, z66z], []⟩ W := by
 conv => arg 2; whnf
 go_wp2;exact HX.out
theorem e1_loop (w : World) (LX LB NB N cap cb co : Nat) (code : List Ins) (z1z z2z z7z z8z z9z z10z z11z z12z z13z z14z z15z z16z z44z z45z z46z z47z z48z z49z z50z z51z z52z z53z z54z z55z z56z z57z z58z z59z z60z z61z z62z z63z z64z z65z z66z : Value) (z5z z6z z20z z21z z22z z23z z24z z25z z26z z27z z28z z29z z30z z31z z32z z33z z34z z35z z36z z37z z38z z39z z40z z41z z42z z43z : Value) (rv : Nat → Value) (Q0 : Exit → Act → World → Prop) (W : World) (hn : N ≤ 100000) (HCL : Hid (code.length = N)) (HIN : Hid (∀ (i : Nat) x, code[i]? = some x → InsAt w cb (co + i * 9) x)) (HSX : Hid (∀ x ∈ code, x.op = 1 → 0 ≤ x.s ∧ x.s < N)) (HNE : Hid (LX ≠ NB ∧ LX ≠ LB ∧ LB ≠ NB ∧ w.heap.size ≤ NB ∧ w.heap.size ≤ LB ∧ w.heap.size ≤ LX)) (HL : Hid (LE1 w LX LB NB N cap cb co code 0 rv W))
  (HX : Hid (∀ (rv : Nat → Value) (z5z z6z z20z z21z z22z z23z z24z z25z z26z z27z z28z z29z z30z z31z z32z z33z z34z z35z z36z z37z z38z z39z z40z z41z z42z z43z : Value) (W' : World), LE1 w LX LB NB N cap cb co code N rv W' → Q0 (.exit 0) ⟨#[.slice (some ⟨cb, co, none⟩) N cap, z1z, z2z, .slice (some ⟨NB, 0, none⟩) N N, .pointer (some ⟨LX, 0, none⟩), z5z, z6z, z7z, z8z, z9z, z10z, z11z, z12z, z13z, z14z, z15z, z16z, .slice (some ⟨cb, co, none⟩) N cap, .int .i64 N, .int .i64 (N : Int), z20z, z21z, z22z, z23z, z24z, z25z, z26z, z27z, z28z, z29z, z30z, z31z, z32z, z33z, z34z, z35z, z36z, z37z, z38z, z39z, z40z, z41z, z42z, z43z, z44z, z45z, z46z, z47z, z48z, z49z, z50z, z51z, z52z, z53z, z54z, z55z, z56z, z57z, z58z, z59z, z60z, z61z, z62z, z63z, z64z, z65z, z66z], []⟩ W')) :
  Code.wp prog (Code.loop e1Loop) Q0 ⟨#[.slice (some ⟨cb, co, none⟩) N cap, z1z, z2z, .slice (some ⟨NB, 0, none⟩) N N, .pointer (some ⟨LX, 0, none⟩), z5z, z6z, z7z, z8z, z9z, z10z, z11z, z12z, z13z, z14z, z15z, z16z, .slice (some ⟨cb, co, none⟩) N cap, .int .i64 N, .int .i64 0, z20z, z21z, z22z, z23z, z24z, z25z, z26z, z27z, z28z, z29z, z30z, z31z, z32z, z33z, z34z, z35z, z36z, z37z, z38z, z39z, z40z, z41z, z42z, z43z, z44z, z45z, z46z, z47z, z48z, z49z, z50z, z51z, z52z, z53z, z54z, z55z, z56z, z57z, z58z, z59z, z60z, z61z, z62z, z63z, z64z, z65z, z66z], []⟩ W := by
 refine wp_loop (IE1 w LX LB NB N cap cb co code z1z z2z z7z z8z z9z z10z z11z z12z z13z z14z z15z z16z z44z z45z z46z z47z z48z z49z z50z z51z z52z z53z z54z z55z z56z z57z z58z z59z z60z z61z z62z z63z z64z z65z z66z) (muE1 N) ⟨0, rv, z5z, z6z, z20z, z21z, z22z, z23z, z24z, z25z, z26z, z27z, z28z, z29z, z30z, z31z, z32z, z33z, z34z, z35z, z36z, z37z, z38z, z39z, z40z, z41z, z42z, z43z, by omega, HL.out, rfl⟩ ?_;rintro a W2 ⟨i, rv, u5, u6, u20, u21, u22, u23, u24, u25, u26, u27, u28, u29, u30, u31, u32, u33, u34, u35, u36, u37, u38, u39, u40, u41, u42, u43, hi, hL, rfl⟩
 by_cases hin : i < N
 ·exact e1_step w LX LB NB N cap cb co code z1z z2z z7z z8z z9z z10z z11z z12z z13z z14z z15z z16z z44z z45z z46z z47z z48z z49z z50z z51z z52z z53z z54z z55z z56z z57z z58z z59z z60z z61z z62z z63z z64z z65z z66z u5 u6 u20 u21 u22 u23 u24 u25 u26 u27 u28 u29 u30 u31 u32 u33 u34 u35 u36 u37 u38 u39 u40 u41 u42 u43 i rv Q0 W2 hn HCL HIN HSX HNE hL hin
 ·obtain rfl : i = N := by omega
  exact e1_out w LX LB NB i cap cb co code z1z z2z z7z z8z z9z z10z z11z z12z z13z z14z z15z z16z z44z z45z z46z z47z z48z z49z z50z z51z z52z z53z z54z z55z z56z z57z z58z z59z z60z z61z z62z z63z z64z z65z z66z u5 u6 u20 u21 u22 u23 u24 u25 u26 u27 u28 u29 u30 u31 u32 u33 u34 u35 u36 u37 u38 u39 u40 u41 u42 u43 Q0 W2 (HX.out rv u5 u6 (.bool false) u21 u22 u23 u24 u25 u26 u27 u28 u29 u30 u31 u32 u33 u34 u35 u36 u37 u38 u39 u40 u41 u42 u43 W2 hL) _
end Go.Proofs.YtncondlfngeilaaGreatDoor
namespace Go.Proofs.YtncondlfngeilaaGreatDoor
open Go.ChangeShapes Go.WideShapes Go.ChangeAt Go.RowKit Go.Proofs.Tryz
set_option linter.unusedSimpArgs false
set_option linter.unusedVariables false
set_option maxRecDepth 100000
set_option maxHeartbeats 4000000

noncomputable def e2Range : List (Array Tmp × Code × Code) := (Tryz.f31.body.map rangesOfF).getD []
noncomputable def e2Assign : Code := ((e2Range[0]?).map (·.2.1)).getD .skip
noncomputable def e2Body : Code := ((e2Range[0]?).map (·.2.2)).getD .skip
attribute [local go_sem] Oper.semAt_some
theorem e2_round (l LX KB LB n x t d : Nat) (v0 : Value) (fn : FuncId) (z0z z1z z2z z3z z5z z6z z7z z9z z10z z11z z12z z13z z14z z15z z16z z17z z18z z19z z20z z21z z22z z23z z24z z25z z26z z27z z28z z29z z30z z31z z32z z33z z34z z35z z36z z37z z38z z39z z40z z41z z42z z43z z44z z45z z46z z47z z48z z49z z50z z51z z52z z53z z54z z55z z56z z57z z58z z59z z60z z61z z62z z63z z64z z65z z66z : Value) (W : World) (R : Ending → World → Prop)
  (hl : W.heap[l]? = some (.loop (loopRec fn #[z0z, z1z, z2z, z3z, .pointer (some ⟨LX, 0, none⟩), z5z, z6z, z7z, .pointer (some ⟨KB, 0, none⟩), z9z, z10z, z11z, z12z, z13z, z14z, z15z, z16z, z17z, z18z, z19z, z20z, z21z, z22z, z23z, z24z, z25z, z26z, z27z, z28z, z29z, z30z, z31z, z32z, z33z, z34z, z35z, z36z, z37z, z38z, z39z, z40z, z41z, z42z, z43z, z44z, z45z, z46z, z47z, z48z, z49z, z50z, z51z, z52z, z53z, z54z, z55z, z56z, z57z, z58z, z59z, z60z, z61z, z62z, z63z, z64z, z65z, z66z] #[60] e2Assign e2Body d))) (h0 : W.cell? ⟨LX, 0, none⟩ = some (.slice (some ⟨LB, 0, none⟩) n n)) (h1 : W.cell? ⟨KB, 0, none⟩ = some (.int .i64 t)) (cv : W.cell? ⟨LB, x, none⟩ = some v0) (zv : W.frozen? ⟨LB, x, none⟩ = false)
  (j0 : (0 : Int) ≤ x) (j1 : (x : Int) < n)
  (HT : Hid (∀ W2 : World, (∀ k, k ≠ l → W2.heap[k]? = W.heap[k]?) → (W2.heap.size = W.heap.size ∧ W2.os = W.os ∧ W2.tape = W.tape ∧ W2.output = W.output) → R (.returned (.bool true)) ((W2.setCell ⟨LB, x, none⟩ (.int .i64 t)).putObj l (.loop (loopRec fn #[z0z, z1z, z2z, z3z, .pointer (some ⟨LX, 0, none⟩), z5z, z6z, z7z, .pointer (some ⟨KB, 0, none⟩), z9z, z10z, z11z, z12z, z13z, z14z, z15z, z16z, z17z, z18z, z19z, z20z, z21z, z22z, z23z, z24z, z25z, z26z, z27z, z28z, z29z, z30z, z31z, z32z, z33z, z34z, z35z, z36z, z37z, z38z, z39z, z40z, z41z, z42z, z43z, z44z, z45z, z46z, z47z, z48z, z49z, z50z, z51z, z52z, z53z, z54z, z55z, z56z, z57z, z58z, z59z, z60z, z61z, z62z, z63z, z64z, z65z, z66z] #[60] e2Assign e2Body d))))) :
  YieldAt Fence.wide 0 prog l #[.int .i64 x] W R := by
 have n0 := cell_not_loopF hl h0;have n1 := cell_not_loopF hl h1;have n4 := cell_not_loopF hl cv;refine yield_round hl rfl rfl trivial ?_;simp only [loopRec]
 conv => arg 4; whnf
 gi_wp2
 refine ⟨(by first | exact hl | rfl), ?_⟩
 conv => arg 4; whnf
 have ll : l < W.heap.size := (zge hl).1;obtain ⟨W2, hW2⟩ : ∃ W2, W.putObj l (.loop { state := .busy, pending := none, fn := fn, tmps := #[z0z, z1z, z2z, z3z, .pointer (some ⟨LX, 0, none⟩), z5z, z6z, z7z, .pointer (some ⟨KB, 0, none⟩), z9z, z10z, z11z, z12z, z13z, z14z, z15z, z16z, z17z, z18z, z19z, z20z, z21z, z22z, z23z, z24z, z25z, z26z, z27z, z28z, z29z, z30z, z31z, z32z, z33z, z34z, z35z, z36z, z37z, z38z, z39z, z40z, z41z, z42z, z43z, z44z, z45z, z46z, z47z, z48z, z49z, z50z, z51z, z52z, z53z, z54z, z55z, z56z, z57z, z58z, z59z, z60z, z61z, z62z, z63z, z64z, z65z, z66z], params := #[60], assign := e2Assign, body := e2Body, defers := d }) = W2 := ⟨_, rfl⟩;have HOT : Hid (∀ k, k ≠ l → W2.heap[k]? = W.heap[k]?) := fun k hk => by rw [← hW2]; exact put_otherF hk
 have HL : Hid (W2.heap[l]? = some (.loop { state := .busy, pending := none, fn := fn, tmps := #[z0z, z1z, z2z, z3z, .pointer (some ⟨LX, 0, none⟩), z5z, z6z, z7z, .pointer (some ⟨KB, 0, none⟩), z9z, z10z, z11z, z12z, z13z, z14z, z15z, z16z, z17z, z18z, z19z, z20z, z21z, z22z, z23z, z24z, z25z, z26z, z27z, z28z, z29z, z30z, z31z, z32z, z33z, z34z, z35z, z36z, z37z, z38z, z39z, z40z, z41z, z42z, z43z, z44z, z45z, z46z, z47z, z48z, z49z, z50z, z51z, z52z, z53z, z54z, z55z, z56z, z57z, z58z, z59z, z60z, z61z, z62z, z63z, z64z, z65z, z66z], params := #[60], assign := e2Assign, body := e2Body, defers := d })) := by show _ = _; rw [← hW2]; exact World.putObj_heap_same ll
 have HS : Hid (W2.heap.size = W.heap.size ∧ W2.os = W.os ∧ W2.tape = W.tape ∧ W2.output = W.output) := by rw [← hW2]; exact ⟨World.putObj_size .., rfl, rfl, rfl⟩
 rw [hW2];clear hW2 hl;replace h0 := (World.cell?_of_block (HOT.out LX n0)).trans h0;replace h1 := (World.cell?_of_block (HOT.out KB n1)).trans h1;replace cv := (World.cell?_of_block (HOT.out LB n4)).trans cv;replace zv := (World.frozen?_of_block (HOT.out LB n4)).trans zv
 have HE : Hid ((W2.setCell ⟨LB, x, none⟩ (.int .i64 t)).heap[l]? = some (.loop { state := .busy, pending := none, fn := fn, tmps := #[z0z, z1z, z2z, z3z, .pointer (some ⟨LX, 0, none⟩), z5z, z6z, z7z, .pointer (some ⟨KB, 0, none⟩), z9z, z10z, z11z, z12z, z13z, z14z, z15z, z16z, z17z, z18z, z19z, z20z, z21z, z22z, z23z, z24z, z25z, z26z, z27z, z28z, z29z, z30z, z31z, z32z, z33z, z34z, z35z, z36z, z37z, z38z, z39z, z40z, z41z, z42z, z43z, z44z, z45z, z46z, z47z, z48z, z49z, z50z, z51z, z52z, z53z, z54z, z55z, z56z, z57z, z58z, z59z, z60z, z61z, z62z, z63z, z64z, z65z, z66z], params := #[60], assign := e2Assign, body := e2Body, defers := d }) ∧ R (.returned (.bool true)) ((W2.setCell ⟨LB, x, none⟩ (.int .i64 t)).putObj l (.loop { state := .ready, pending := none, fn := fn, tmps := #[z0z, z1z, z2z, z3z, .pointer (some ⟨LX, 0, none⟩), z5z, z6z, z7z, .pointer (some ⟨KB, 0, none⟩), z9z, z10z, z11z, z12z, z13z, z14z, z15z, z16z, z17z, z18z, z19z, z20z, z21z, z22z, z23z, z24z, z25z, z26z, z27z, z28z, z29z, z30z, z31z, z32z, z33z, z34z, z35z, z36z, z37z, z38z, z39z, z40z, z41z, z42z, z43z, z44z, z45z, z46z, z47z, z48z, z49z, z50z, z51z, z52z, z53z, z54z, z55z, z56z, z57z, z58z, z59z, z60z, z61z, z62z, z63z, z64z, z65z, z66z], params := #[60], assign := e2Assign, body := e2Body, defers := d }))) :=
  ⟨(gset_otherF (Ne.symm n4)).trans HL.out, HT.out W2 HOT.out HS.out⟩
 clear HT HL
 gi_wp2
 exact HE.out
end Go.Proofs.YtncondlfngeilaaGreatDoor
