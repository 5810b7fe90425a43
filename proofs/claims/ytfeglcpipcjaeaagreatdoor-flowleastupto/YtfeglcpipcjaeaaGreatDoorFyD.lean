import Derived.Test.YtfeglcpipcjaeaaGreatDoorFyB
import Derived.Test.YtfeglcpipcjaeaaGreatDoorFyC
namespace Go.Proofs.YtfeglcpipcjaeaaGreatDoor
open Go.ChangeShapes Go.WideShapes Go.ChangeAt Go.RowKit Go.Proofs.Tryz
set_option linter.unusedSimpArgs false
set_option linter.unusedVariables false
set_option maxRecDepth 100000
set_option maxHeartbeats 16000000

structure RO (w : World) (NB n : Nat) (rv : Nat → Value) (g : Nat → List Nat) (H : Nat) : Prop where
 c : ∀ i, i < n → w.cell? ⟨NB, i, none⟩ = some (rv i)
 il : ∀ i, i < n → IL w (rv i) (up (g i))
 nb : 0 < n → NB < H
 bl : ∀ i, i < n → ∀ b o s k c, rv i = .slice (some ⟨b, o, s⟩) k c → b < H
theorem RO.of {w w' : World} {NB n H : Nat} {rv : Nat → Value} {g : Nat → List Nat} (h : RO w NB n rv g H) (hk : ∀ k, k < H → w'.heap[k]? = w.heap[k]?) : RO w' NB n rv g H :=
 ⟨fun i hi => cell_of (h.c i hi) (fun _ => hk NB (h.nb (by omega))), fun i hi => (h.il i hi).of2 (fun b o s n c e _ => hk b (h.bl i hi b o s n c e)), h.nb, h.bl⟩
theorem NI.ro {B NB n : Nat} {rv : Nat → Value} {g : Nat → List Nat} {W : World} (h : NI B NB n rv g W) (hl : ∀ i, i < n → (g i).length ≤ 1000000000000) : RO W NB n rv g W.heap.size :=
 ⟨fun i hi => (h.cell i hi).1, fun i hi => IL.ownF (by rw [up_length]; exact h.own i hi) (by rw [up_length]; have := hl i hi; omega), fun h0 => h.nbl h0, fun i hi b o s k c e => ((h.own i hi).lt b (by rw [e]; rfl)).2⟩
structure LvF (w0 : World) (XB NP MB LX LB NR NW N R : Nat) (code : List Ins) (rr rw rp : Nat → Value) : Prop where
 x0 : w0.cell? ⟨XB, 0, none⟩ = some (.slice (some ⟨NP, 0, none⟩) N N)
 x1 : w0.cell? ⟨XB, 1, none⟩ = some (.slice (some ⟨MB, 0, none⟩) N N)
 lx : w0.cell? ⟨LX, 0, none⟩ = some (.slice (some ⟨LB, 0, none⟩) N N)
 rd : RO w0 NR R rr (gOf (esG usX code N)) MB
 wt : RO w0 NW R rw (gOf (esG wrX code N)) MB
 pr : RO w0 NP N rp (gOf (esG sxF code N)) MB
 a : XB ≠ MB ∧ XB ≠ LB ∧ LX ≠ MB ∧ LX ≠ LB ∧ MB < LB
 s : LB < w0.heap.size
structure AgF (w0 : World) (MB LB : Nat) (W : World) : Prop where
 os : W.os = w0.os
 tape : W.tape = w0.tape
 output : W.output = w0.output
 size : w0.heap.size ≤ W.heap.size
 block : ∀ k, k < w0.heap.size → k ≠ MB → k ≠ LB → W.heap[k]? = w0.heap[k]?
def Mk1 (w0 : World) (ms : List Nat) (W : World) : Prop := ms.Nodup ∧ ∀ d ∈ ms, W.heap[d]? = some (.deferred (some [])) ∧ w0.heap.size ≤ d
def LLv (w0 : World) (XB NP MB LX LB NR NW N R : Nat) (code : List Ins) (rr rw rp : Nat → Value) (i : Nat) (ms : List Nat) (W : World) : Prop := ∃ rv m, NI w0.heap.size LB N rv (lvL usX wrX sxF code i) W ∧ MetAt W MB N m ∧ AgF w0 MB LB W ∧ Mk1 w0 ms W
noncomputable def lvLoop : Code := (((Tryz.f25.body.map loopsOf).getD [])[0]?).getD .skip
def ILv (w0 : World) (XB NP MB LX LB NR NW N R : Nat) (code : List Ins) (rr rw rp : Nat → Value) (z0z z1z z2z z9z z10z z11z z12z z13z z14z z15z z16z z17z z18z z19z z20z z21z z22z z59z : Value) (a : Act) (W : World) : Prop := ∃ (i : Nat) (ms : List Nat) (z7z z8z z25z z26z z27z z28z z29z z30z z31z z32z z33z z34z z35z z36z z37z z38z z39z z40z z41z z42z z43z z44z z45z z46z z47z z48z z49z z50z z51z z52z z53z z54z z55z z56z z57z z58z : Value), i ≤ R ∧ LLv w0 XB NP MB LX LB NR NW N R code rr rw rp i ms W ∧ a = ⟨#[z0z, z1z, z2z, .slice (some ⟨NR, 0, none⟩) R R, .slice (some ⟨NW, 0, none⟩) R R, .pointer (some ⟨XB, 0, none⟩), .pointer (some ⟨LX, 0, none⟩), z7z, z8z, z9z, z10z, z11z, z12z, z13z, z14z, z15z, z16z, z17z, z18z, z19z, z20z, z21z, z22z, .int .i64 (R : Int), .int .i64 (i : Int), z25z, z26z, z27z, z28z, z29z, z30z, z31z, z32z, z33z, z34z, z35z, z36z, z37z, z38z, z39z, z40z, z41z, z42z, z43z, z44z, z45z, z46z, z47z, z48z, z49z, z50z, z51z, z52z, z53z, z54z, z55z, z56z, z57z, z58z, z59z], ms.map mkD⟩
def muLv (n : Nat) (a : Act) (_ : World) : Nat := n - (intOf (a.tmps.getD 24 undef)).toNat
structure JLv (W3 : World) (B MB LB N : Nat) (rc : Loop) (rv : Nat → Value) (g : Nat → List Nat) (i : Nat) (o : List Nat) (ob : Option Nat) (W : World) : Prop where
 os : W.os = W3.os
 tape : W.tape = W3.tape
 output : W.output = W3.output
 size : W3.heap.size + 2 ≤ W.heap.size
 block : ∀ k, k < W3.heap.size → k ≠ MB → k ≠ LB → ¬ Ob N rv k → W.heap[k]? = W3.heap[k]?
 df : W.heap[W3.heap.size]? = some (.deferred (some []))
 lp : W.heap[W3.heap.size + 1]? = some (.loop rc)
 ni : ∃ rv', NI B LB N rv' (addO g o i) W ∧ (∀ j, j ∉ o → rv' j = rv j) ∧ (∀ k, Ob N rv' k → Ob N rv k ∨ W3.heap.size + 2 ≤ k) ∧ ∀ k, ob = some k → ¬ Ob N rv' k
 own : ∀ k, ob = some k → W3.heap.size + 2 ≤ k ∧ k < W.heap.size
theorem JLv.enter {W3 : World} {B MB LB N i : Nat} {rc : Loop} {rv : Nat → Value} {g : Nat → List Nat} (h : NI B LB N rv g W3) : JLv W3 B MB LB N rc rv g i [] none (loopW W3 rc) where
 os := rfl
 tape := rfl
 output := rfl
 size := by simp [loopW]
 block := fun k hk _ _ _ => by unfold loopW; rw [Below.heap_alloc _ _ k (by simp; omega), Below.heap_alloc _ _ k hk]
 df := by unfold loopW; rw [Below.heap_alloc _ _ _ (by simp)]; show (W3.heap.push _)[W3.heap.size]? = _; simp
 lp := by
  unfold loopW
  show ((W3.alloc (.deferred (some []))).heap.push _)[W3.heap.size + 1]? = _
  have : (W3.alloc (.deferred (some []))).heap.size = W3.heap.size + 1 := World.size_alloc _ _;rw [← this];exact Array.getElem?_push_size
 ni := ⟨rv, NI.ext (h.of ((bel_alloc (bel_alloc (Below.refl _ _) _) _))) (fun k => (addO_nil g i k).symm), fun _ _ => rfl, fun k hk => .inl hk, fun k hk => by cases hk⟩
 own := fun k hk => by cases hk
theorem JLv.mo {W3 W W' : World} {B MB LB N i : Nat} {rc : Loop} {rv : Nat → Value} {g : Nat → List Nat} {o : List Nat} {ob ob' : Option Nat} (h : JLv W3 B MB LB N rc rv g i o ob W) (hv : Mo MB ob W W') (hb : ob' = ob ∨ ∃ k, ob' = some k ∧ W.heap.size ≤ k ∧ k < W'.heap.size) (hlb : 0 < N → LB < W3.heap.size ∧ LB ≠ MB) (hmb : MB < W3.heap.size) (hrm : ∀ k, Ob N rv k → k ≠ MB) : JLv W3 B MB LB N rc rv g i o ob' W' := by
 have hob : ∀ k, k < W3.heap.size + 2 → some k ≠ ob := fun k hk e => by have := (h.own k e.symm).1; omega
 have hsz := h.size;obtain ⟨rv', n1, n2, n3, n4⟩ := h.ni;refine ⟨hv.os.trans h.os, hv.tape.trans h.tape, hv.output.trans h.output, Nat.le_trans h.size hv.size, fun k h1 h2 h3 h4 => (hv.block k (by omega) h2 (hob k (by omega))).trans (h.block k h1 h2 h3 h4), (hv.block _ (by omega) (by omega) (hob _ (by omega))).trans h.df, (hv.block _ (by omega) (by omega) (hob _ (by omega))).trans h.lp, ⟨rv', n1.blk (fun k hk => ?_), n2, n3, fun k hk => ?_⟩, fun k hk => ?_⟩
 ·rcases hk with ⟨h0, rfl⟩ | ⟨j, hj, e⟩
  ·exact hv.block _ (by have := (hlb h0).1; omega) (hlb h0).2 (hob _ (by have := (hlb h0).1; omega))
  ·have ho : Ob N rv' k := ⟨j, hj, e⟩
   refine hv.block k (n1.obw ho).2 ?_ (fun e2 => n4 k e2.symm ho)
   rcases n3 k ho with q | q
   ·exact hrm k q
   ·omega
 ·rcases hb with e | ⟨k2, e, h2, _⟩
  ·exact n4 k (by rw [← e]; exact hk)
  ·rw [e] at hk
   injection hk with hk
   intro ho;have := (n1.obw ho).2
   omega
 ·rcases hb with e | ⟨k2, e, h2, h3⟩
  ·have := h.own k (by rw [← e]; exact hk)
   have := hv.size;exact ⟨by omega, by omega⟩
  ·rw [e] at hk
   injection hk with hk
   exact ⟨by omega, by omega⟩
structure X5 (W : World) (MB XB N i : Nat) (sv : Value) (m : Nat → Bool) (W3 : World) : Prop where
 os : W3.os = W.os
 tape : W3.tape = W.tape
 output : W3.output = W.output
 size : W3.heap.size = W.heap.size + 3
 block : ∀ k, k < W.heap.size → k ≠ MB → W3.heap[k]? = W.heap[k]?
 c0 : W3.cell? ⟨W.heap.size, 0, none⟩ = some (.int .i64 (i : Int))
 c1 : W3.cell? ⟨W.heap.size + 1, 0, none⟩ = some (.pointer (some ⟨XB, 0, none⟩))
 c2 : W3.cell? ⟨W.heap.size + 2, 0, none⟩ = some sv
 mt : MetAt W3 MB N m
theorem x5_made {W W1 W2 : World} {MB XB N i : Nat} {sa : Option Addr} {sn sc : Nat} {m : Nat → Bool} (hW1 : W.alloc (.cells #[.int .i64 (i : Int)] 3) = W1) (ho : Only MB W1 W2) (hm : MetAt W2 MB N m) (hmb : MB < W.heap.size) :
  X5 W MB XB N i (.slice sa sn sc) m ((W2.alloc (.cells #[.pointer (some ⟨XB, 0, none⟩)] 73)).alloc (.cells #[.slice sa sn sc] 22)) := by
 have hs1 : W1.heap.size = W.heap.size + 1 := by rw [← hW1]; exact World.size_alloc _ _
 have hs2 : W2.heap.size = W.heap.size + 1 := ho.size.trans hs1;have hs3 : (W2.alloc (.cells #[.pointer (some ⟨XB, 0, none⟩)] 73)).heap.size = W.heap.size + 2 := by rw [World.size_alloc, hs2]
 refine ⟨?_, ?_, ?_, by rw [World.size_alloc, hs3], fun k hk hne => ?_, ?_, ?_, ?_, ?_⟩
 ·exact ho.os.trans (by rw [← hW1]; rfl)
 ·exact ho.tape.trans (by rw [← hW1]; rfl)
 ·exact ho.output.trans (by rw [← hW1]; rfl)
 ·rw [Below.heap_alloc _ _ _ (by omega), Below.heap_alloc _ _ _ (by omega), ho.block k hne, ← hW1, Below.heap_alloc _ _ _ hk]
 ·refine keep_alloc (keep_alloc (ho.cell (by omega) ?_) _) _
  rw [← hW1];exact cell_new2 W _ _ _ rfl
 ·exact keep_alloc (cell_new2 _ _ _ _ hs2) _
 ·exact cell_new2 _ _ _ _ hs3
 ·exact hm.of (by rw [Below.heap_alloc _ _ _ (by omega), Below.heap_alloc _ _ _ (by omega)])
def lvM (us ws : List Nat) : Nat → Bool := setM (setM (fun _ => false) true ws) false us
theorem lvM_iff (us ws : List Nat) (i : Nat) : lvM us ws i = true ↔ (i ∈ ws ∧ i ∉ us) := by
 unfold lvM setM
 by_cases h1 : i ∈ us
 ·simp [h1]
 ·by_cases h2 : i ∈ ws <;> simp [h1, h2]
theorem lv_step (w0 : World) (XB NP MB LX LB NR NW N R : Nat) (code : List Ins) (rr rw rp : Nat → Value) (z0z z1z z2z z9z z10z z11z z12z z13z z14z z15z z16z z17z z18z z19z z20z z21z z22z z59z : Value) (z7z z8z z25z z26z z27z z28z z29z z30z z31z z32z z33z z34z z35z z36z z37z z38z z39z z40z z41z z42z z43z z44z z45z z46z z47z z48z z49z z50z z51z z52z z53z z54z z55z z56z z57z z58z : Value) (i : Nat) (ms : List Nat) (Q0 : Exit → Act → World → Prop) (W : World) (hn : N ≤ 100000) (hR : R ≤ 1000000) (HF : Hid (LvF w0 XB NP MB LX LB NR NW N R code rr rw rp)) (HCL : Hid (code.length = N)) (HU : Hid (∀ r, (gOf (esG usX code N) r).length ≤ 1000000000000)) (HW : Hid (∀ r, (gOf (esG wrX code N) r).length ≤ 1000000000000)) (HI : Hid (InR usX code ∧ InR wrX code ∧ InR sxF code)) (HSX : Hid (∀ x ∈ code, ∀ y ∈ sxF x, 0 ≤ y ∧ y < N)) (HL : Hid (LLv w0 XB NP MB LX LB NR NW N R code rr rw rp i ms W)) (hin : i < R) :
  Code.wp prog lvLoop (Exit.then (fun a' w' => ILv w0 XB NP MB LX LB NR NW N R code rr rw rp z0z z1z z2z z9z z10z z11z z12z z13z z14z z15z z16z z17z z18z z19z z20z z21z z22z z59z a' w' ∧ muLv R a' w' < muLv R ⟨#[z0z, z1z, z2z, .slice (some ⟨NR, 0, none⟩) R R, .slice (some ⟨NW, 0, none⟩) R R, .pointer (some ⟨XB, 0, none⟩), .pointer (some ⟨LX, 0, none⟩), z7z, z8z, z9z, z10z, z11z, z12z, z13z, z14z, z15z, z16z, z17z, z18z, z19z, z20z, z21z, z22z, .int .i64 (R : Int), .int .i64 (i : Int), z25z, z26z, z27z, z28z, z29z, z30z, z31z, z32z, z33z, z34z, z35z, z36z, z37z, z38z, z39z, z40z, z41z, z42z, z43z, z44z, z45z, z46z, z47z, z48z, z49z, z50z, z51z, z52z, z53z, z54z, z55z, z56z, z57z, z58z, z59z], ms.map mkD⟩ W) Q0) ⟨#[z0z, z1z, z2z, .slice (some ⟨NR, 0, none⟩) R R, .slice (some ⟨NW, 0, none⟩) R R, .pointer (some ⟨XB, 0, none⟩), .pointer (some ⟨LX, 0, none⟩), z7z, z8z, z9z, z10z, z11z, z12z, z13z, z14z, z15z, z16z, z17z, z18z, z19z, z20z, z21z, z22z, .int .i64 (R : Int), .int .i64 (i : Int), z25z, z26z, z27z, z28z, z29z, z30z, z31z, z32z, z33z, z34z, z35z, z36z, z37z, z38z, z39z, z40z, z41z, z42z, z43z, z44z, z45z, z46z, z47z, z48z, z49z, z50z, z51z, z52z, z53z, z54z, z55z, z56z, z57z, z58z, z59z], ms.map mkD⟩ W := by
 obtain ⟨rv, m, hni, hmt, hag, hmk⟩ := HL.out;have hf := HF.out;have hLB : LB < W.heap.size := Nat.lt_of_lt_of_le hf.s hag.size;have hMB : MB < W.heap.size := by have := hf.a.2.2.2.2; omega
 have hMB0 : MB < w0.heap.size := by have := hf.a.2.2.2.2; have := hf.s; omega
 have HK : Hid (∀ k, k < MB → W.heap[k]? = w0.heap[k]?) := fun k hk => hag.block k (by omega) (by omega) (by have := hf.a.2.2.2.2; omega);have hXB : XB < w0.heap.size := block_lt_of_cell hf.x1;have x1 : W.cell? ⟨XB, 1, none⟩ = some (.slice (some ⟨MB, 0, none⟩) N N) := cell_of hf.x1 (fun h => hag.block XB h hf.a.1 hf.a.2.1);have HRD := hidF (hf.rd.of HK.out);have HWT := hidF (hf.wt.of HK.out)
 obtain ⟨ra, rc0, hrv⟩ : ∃ a c, rr i = .slice a (gOf (esG usX code N) i).length c := by
  obtain ⟨a, c, h, _⟩ := (HRD.out.il i hin).partsF;rw [up_length] at h;exact ⟨a, c, h⟩
 obtain ⟨wa, wc0, hwv⟩ : ∃ a c, rw i = .slice a (gOf (esG wrX code N) i).length c := by
  obtain ⟨a, c, h, _⟩ := (HWT.out.il i hin).partsF;rw [up_length] at h;exact ⟨a, c, h⟩
 have cr := HRD.out.c i hin;have cw := HWT.out.c i hin;have ilr := HRD.out.il i hin;have ilw := HWT.out.il i hin;have blr := HRD.out.bl i hin;have blw := HWT.out.bl i hin;rw [hrv] at cr ilr blr;rw [hwv] at cw ilw blw;have hNR : NR < MB := HRD.out.nb (by omega);have hNW : NW < MB := HWT.out.nb (by omega);obtain ⟨us, hus⟩ : ∃ us, gOf (esG usX code N) i = us := ⟨_, rfl⟩;obtain ⟨ws, hws⟩ : ∃ ws, gOf (esG wrX code N) i = ws := ⟨_, rfl⟩;have hul : us.length ≤ 1000000000000 := by rw [← hus]; exact HU.out i
 have hwl : ws.length ≤ 1000000000000 := by rw [← hws]; exact HW.out i
 have hlt : ∀ {f : Ins → List Int} {n r : Nat}, InR f code → n ∈ gOf (esG f code N) r → n < N := fun hI h => by
  obtain ⟨x, hx, _⟩ := (mem_rows HCL.out hI).1 h;have := (List.getElem?_eq_some_iff.1 hx).1;have := HCL.out
  omega
 have huN : ∀ s ∈ us, s < N := fun s hs => hlt HI.out.1 (by rw [hus]; exact hs);have hwN : ∀ s ∈ ws, s < N := fun s hs => hlt HI.out.2.1 (by rw [hws]; exact hs)
 have HGP : Hid (∀ k, k < N → (gOf (esG sxF code N) k).length ≤ 1000000 ∧ ∀ t ∈ gOf (esG sxF code N) k, t < N) := fun k hk => ⟨by
  have h1 := gOf_length (esG sxF code N) k;have h2 := esT_length code N;rw [esT_esG] at h2
  omega, fun t ht => hlt HI.out.2.2 ht⟩
 rw [hus] at cr ilr blr;rw [hws] at cw ilw blw;obtain ⟨un, hun⟩ : ∃ un, us.length = un := ⟨_, rfl⟩;obtain ⟨wn, hwn⟩ : ∃ wn, ws.length = wn := ⟨_, rfl⟩;rw [hun] at cr ilr blr;rw [hwn] at cw ilw blw;have HNI := hidF hni;have HMT := hidF hmt;have HAG := hidF hag;have HMK := hidF hmk;have HIR := hidF (And.intro ilr blr);have HIW := hidF (And.intro ilw blw);have HUL := hidF (And.intro hul (And.intro huN (And.intro hus hun)));have HWL := hidF (And.intro hwl (And.intro hwN (And.intro hws hwn)));have HA5 := hidF hf.a;have hne : XB ≠ MB := hf.a.1;have j0 : (0 : Int) ≤ i := by omega
 have j1 : (i : Int) < R := by omega
 have hX : XB < W.heap.size := Nat.lt_of_lt_of_le hXB hag.size;clear hni hmt hag hmk ilr ilw blr blw hul hwl huN hwN hlt hus hws hun hwn hf hrv hwv HL;obtain ⟨W1, hW1⟩ : ∃ W1, W.alloc (.cells #[.int .i64 (i : Int)] 3) = W1 := ⟨_, rfl⟩;have s1 : W1.heap.size = W.heap.size + 1 := by rw [← hW1]; exact World.size_alloc _ _
 have HM1 : Hid (MetAt W1 MB N m) := hidF (HMT.out.of (by rw [← hW1]; exact Below.heap_alloc _ _ _ hMB));have q7 : W1.cell? ⟨W.heap.size, 0, none⟩ = some (.int .i64 (i : Int)) := by rw [← hW1]; exact cell_new2 W _ _ _ rfl
 have k1 : ∀ {b o : Nat} {v : Value}, W.cell? ⟨b, o, none⟩ = some v → W1.cell? ⟨b, o, none⟩ = some v := fun h => by rw [← hW1]; exact keep_alloc h _
 have p1 := k1 x1;have pr := k1 cr;have pw := k1 cw
 have HI1 : Hid (IL W1 (.slice ra un rc0) (up us) ∧ IL W1 (.slice wa wn wc0) (up ws)) := by
  have hb : Below W.heap.size W W1 := by rw [← hW1]; exact bel_alloc (Below.refl _ _) _
  exact ⟨HIR.out.1.of2 (fun b o s n c e h => hb.block b h), HIW.out.1.of2 (fun b o s n c e h => hb.block b h)⟩
 have HWE := hidF hW1;clear k1
 conv => arg 2; whnf
 go_upto_region 7 with fail
 clear hW1 x1 cr cw
 go_upto_region 8 with (go_at_call 41; refine (reset_any XB MB N N m W1 p1 hne HM1).mono ?_; rintro e W2 ⟨rfl, hm2, ho2⟩)
 have HM2 := hidF hm2;have HO2 := hidF ho2;have q72 := ho2.cell (by omega) q7;have p12 := ho2.cell hne p1;have pr2 := ho2.cell (show NR ≠ MB by omega) pr;have pw2 := ho2.cell (show NW ≠ MB by omega) pw
 have HI2 : Hid (IL W2 (.slice ra un rc0) (up us) ∧ IL W2 (.slice wa wn wc0) (up ws)) :=
  ⟨HI1.out.1.of2 (fun b o s n c e _ => HO2.out.block b (by have := HIR.out.2 b o s n c e; omega)), HI1.out.2.of2 (fun b o s n c e _ => HO2.out.block b (by have := HIW.out.2 b o s n c e; omega))⟩
 clear hm2 ho2 q7 p1 pr pw HI1 HM1
 go_upto_region 9 with (go_at_call 42; refine (close_any XB MB N N _ ws _ W2 HWL.out.1 p12 hne HI2.out.2 (fun b o s k c e => by have := HIW.out.2 b o s k c e; omega) HWL.out.2.1 HM2.out).mono ?_; rintro e W3 ⟨rfl, hm3, ho3⟩)
 have HM3 := hidF hm3;have HO3 := hidF (HO2.out.trans ho3);have q73 := ho3.cell (show W.heap.size ≠ MB by omega) q72;have p13 := ho3.cell hne p12;have pr3 := ho3.cell (show NR ≠ MB by omega) pr2;have HI3 : Hid (IL W3 (.slice ra un rc0) (up us)) := HI2.out.1.of2 (fun b o s n c e _ => ho3.block b (by have := HIR.out.2 b o s n c e; omega));clear hm3 ho3 q72 p12 pr2 pw2 HI2 HM2 HO2
 go_upto_region 10 with (go_at_call 43; refine (open_any XB MB N N _ us _ W3 HUL.out.1 p13 hne HI3.out (fun b o s k c e => by have := HIR.out.2 b o s k c e; omega) HUL.out.2.1 HM3.out).mono ?_; rintro e W4 ⟨rfl, hm4, ho4⟩)
 have HM4 : Hid (MetAt W4 MB N (lvM us ws)) := hm4;have HO4 := hidF (HO3.out.trans ho4);have q74 := ho4.cell (show W.heap.size ≠ MB by omega) q73;have pr4 := ho4.cell (show NR ≠ MB by omega) pr3;have HI4 : Hid (IL W4 (.slice ra un rc0) (up us)) := HI3.out.of2 (fun b o s n c e _ => ho4.block b (by have := HIR.out.2 b o s n c e; omega));clear hm4 ho4 q73 p13 pr3 HI3 HM3 HO3
 go_wp2_with (go_at_call 44; refine (from_any XB _ _ _ _).mono ?_; rintro e w3 ⟨rfl, rfl⟩)
 have hs4 : W4.heap.size = W.heap.size + 1 := HO4.out.size.trans s1;rw [hs4];refine gwp_namedF (X5 W MB XB N i (.slice ra un rc0) (lvM us ws)) (x5_made HWE.out HO4.out HM4.out hMB) ?_;intro W5 hx5;have HX5 := hidF hx5;have hsz5 := hx5.size;have hbm : ∀ k, k < w0.heap.size → k ≠ MB → k ≠ LB → W5.heap[k]? = w0.heap[k]? := fun k h1 h2 h3 => (hx5.block k (by have := HAG.out.size; omega) h2).trans (HAG.out.block k h1 h2 h3);have HKW := hidF hbm;have hrvb : ∀ k, Ob N rv k → w0.heap.size ≤ k ∧ k < W.heap.size := fun k hk => HNI.out.obw hk;have HRB := hidF hrvb
 have HNI5 : Hid (NI w0.heap.size LB N rv (lvL usX wrX sxF code i) W5) := HNI.out.blk (fun k hk => hx5.block k (by
  rcases hk with ⟨h0, rfl⟩ | ho
  ·exact hLB
  ·exact (HRB.out k ho).2) (by
  have := HA5.out
  rcases hk with ⟨h0, rfl⟩ | ho
  ·omega
  ·have := (HRB.out k ho).1; omega))
 have HIL5 : Hid (IL W5 (.slice ra un rc0) (up us)) := HIR.out.1.of2 (fun b o s n c e h => hx5.block b h (by have := HIR.out.2 b o s n c e; omega));clear hx5 hbm hrvb q74 pr4 HI4 HM4 HO4 hs4 HNI;refine (wpIn_wide (n := 3)).1 ?_;refine range_outer (F := Fence.wide) rfl (by omega) (gf := 65) (lb := #[.pointer (some ⟨W.heap.size + 2, 0, none⟩), .pointer (some ⟨W.heap.size + 1, 0, none⟩)]) (by simp [Act.eval]) trivial (enters_of func65 (by kernel_rfl) rfl) ?_;intro fn _;refine callsIn_wide.2 ?_
 generalize hrc : loopRec fn _ _ _ _ _ = rc
 have HRC := hidF hrc;have hlw : (loopW W5 rc).heap.size = W5.heap.size + 2 := by simp [loopW]
 have hsw := HAG.out.size;refine (from1_own (W5.heap.size + 1) (W.heap.size + 2) (W.heap.size + 1) XB NP MB N N N (W5.heap.size + 2) ra un rc0 us (gOf (esG sxF code N)) rp (lvM us ws) (loopW W5 rc) (JLv W5 w0.heap.size MB LB N rc rv (lvL usX wrX sxF code i) i) (hidF HUL.out.2.2.2.symm) (by have := HUL.out.1; have := HUL.out.2.2.2; omega) (by omega) HGP HUL.out.2.1 (hidF (by omega)) (hidF hlw) (JLv.enter HNI5.out) ?_ ?_ ?_ ?_).mono ?_
 ·refine HX5.out.mt.of ?_
  unfold loopW;rw [Below.heap_alloc _ _ _ (by simp; omega), Below.heap_alloc _ _ _ (by omega)]
 ·intro o ob W' hJ
  have hk : ∀ k, k < W5.heap.size → k ≠ MB → k ≠ LB → (W.heap.size ≤ k ∨ k < w0.heap.size) → W'.heap[k]? = W5.heap[k]? := fun k h1 h2 h3 h4 => hJ.block k h1 h2 h3 (fun ho => by have := HRB.out k ho; omega);have ha := HA5.out;have hf := HF.out;have hk0 : ∀ k, k < w0.heap.size → k ≠ MB → k ≠ LB → W'.heap[k]? = w0.heap[k]? := fun k h1 h2 h3 => (hk k (by omega) h2 h3 (.inr h1)).trans (HKW.out k h1 h2 h3);have hpr := hf.pr.of (w' := W') (fun k hk1 => hk0 k (by omega) (by omega) (by omega))
  exact {
   c1 := cell_of HX5.out.c2 (fun h => hk _ h (by omega) (by omega) (.inl (by omega)))
   il := HIL5.out.of2 (fun b o s n c e h => (by have := HIR.out.2 b o s n c e; exact hk b h (by omega) (by omega) (.inr (by omega))))
   c2 := cell_of HX5.out.c1 (fun h => hk _ h (by omega) (by omega) (.inl (by omega)))
   x0 := cell_of hf.x0 (fun h => hk0 _ h ha.1 ha.2.1)
   x1 := cell_of hf.x1 (fun h => hk0 _ h ha.1 ha.2.1)
   rows := fun j hj => ⟨hpr.c j hj, hpr.il j hj⟩ }
 ·exact fun o ob ob' W1 W2 h hv hb => h.mo hv hb (fun _ => ⟨by omega, by have := HA5.out; omega⟩) (by omega) (fun k ho => by have := (HRB.out k ho).1; omega)
 ·intro o y ob W' hJ hy hyo
  have ha := HA5.out;have hf := HF.out;have hk : ∀ k, k < W5.heap.size → k ≠ MB → k ≠ LB → (W.heap.size ≤ k ∨ k < w0.heap.size) → W'.heap[k]? = W5.heap[k]? := fun k h1 h2 h3 h4 => hJ.block k h1 h2 h3 (fun ho => by have := HRB.out k ho; omega);have hk0 : ∀ k, k < w0.heap.size → k ≠ MB → k ≠ LB → W'.heap[k]? = w0.heap[k]? := fun k h1 h2 h3 => (hk k (by omega) h2 h3 (.inr h1)).trans (HKW.out k h1 h2 h3);obtain ⟨rv', hni', hsame, hob, hown⟩ := hJ.ni;have hlp := hJ.lp;rw [← HRC.out] at hlp;have hsz := hJ.size
  have hlen : (addO (lvL usX wrX sxF code i) o i y).length ≤ 1000000000000 := by
   unfold addO;rw [if_neg hyo];have := lvL_length usX wrX sxF code i y
   omega
  have hfar : ∀ k, k < W5.heap.size + 2 → ¬ Ob N rv k → ∀ j, j < N → some k ≠ (rv' j).ownBlock := fun k h1 h2 j hj e => by
   rcases hob k ⟨j, hj, e.symm⟩ with q | q
   ·exact h2 q
   ·omega
  have hLX : LX < w0.heap.size := block_lt_of_cell hf.lx;have hnx : ∀ k, (k < w0.heap.size ∨ W.heap.size ≤ k) → ¬ Ob N rv k := fun k h ho => by have := HRB.out k ho; omega
  refine lv_round (W5.heap.size + 1) LX W.heap.size LB N w0.heap.size y i _ rv' (addO (lvL usX wrX sxF code i) o i) fn _ _ _ _ _ _ _ _ _ _ _ _ _ _ _ _ _ _ _ _ _ _ _ _ _ _ _ _ _ _ _ _ _ _ _ _ _ _ _ _ _ _ _ _ _ _ _ _ _ _ _ _ _ _ _ _ _ _  W' _ hlp (cell_of hf.lx (fun h => hk0 _ h ha.2.2.1 ha.2.2.2.1)) (cell_of HX5.out.c0 (fun h => hk _ h (by omega) (by omega) (.inl (by omega)))) hni' hy hlen (by omega) (fun j hj => ⟨hfar LX (by omega) (hnx _ (.inl hLX)) j hj, hfar _ (by omega) (hnx _ (.inr (by omega))) j hj⟩) ⟨ha.2.2.2.1, by omega⟩ ?_;intro W2 rv2 n1 n2 n3 n4 n5 n6 n7 n8 n9;replace n3 : W2.heap[W5.heap.size + 1]? = some (.loop rc) := by rw [← HRC.out]; exact n3
  have hry : rv' y = rv y := hsame y hyo;have hky : ∀ k, k < W'.heap.size → k ≠ W5.heap.size + 1 → k ≠ LB → ¬ Ob N rv k → W2.heap[k]? = W'.heap[k]? := fun k h1 h2 h3 h4 => n2 k h2 h3 h1 (fun e => h4 ⟨y, hy, by rw [← hry]; exact e.symm⟩);refine ⟨rfl, ⟨n5.trans hJ.os, n6.trans hJ.tape, n7.trans hJ.output, Nat.le_trans hJ.size n4, fun k h1 h2 h3 h4 => (hky k (by omega) (by omega) h3 h4).trans (hJ.block k h1 h2 h3 h4), (hky _ (by omega) (by omega) (by omega) (hnx _ (.inr (by omega)))).trans hJ.df, n3, ⟨rv2, NI.ext n1 (fun k => addO_snoc _ _ _ _ _ hyo), fun j hj => ?_, fun k hk3 => ?_, fun k hk3 hk4 => ?_⟩, fun k hk3 => ⟨(hJ.own k hk3).1, Nat.lt_of_lt_of_le (hJ.own k hk3).2 n4⟩⟩, n4, fun k hk1 hk2 => ?_⟩
  ·have h1 : j ≠ y := fun e => hj (by rw [e]; simp)
   have h2 : j ∉ o := fun e => hj (by simp [e]);rw [n8 j h1];exact hsame j h2
  ·obtain ⟨j, hj, e⟩ := hk3
   by_cases hjy : j = y
   ·subst hjy
    rcases n9 k e with q | q
    ·exact hob k ⟨j, hj, q⟩
    ·exact .inr (by omega)
   ·rw [n8 j hjy] at e
    exact hob k ⟨j, hj, e⟩
  ·obtain ⟨j, hj, e⟩ := hk4
   by_cases hjy : j = y
   ·subst hjy
    rcases n9 k e with q | q
    ·exact hown k hk3 ⟨j, hj, q⟩
    ·have := (hJ.own k hk3).2; omega
   ·rw [n8 j hjy] at e
    exact hown k hk3 ⟨j, hj, e⟩
  ·rcases hk1 with e | e
   ·exact hky k hk2 (by omega) (by omega) (hnx _ (.inl (by omega)))
   ·have h1 := hJ.own k e.symm
    exact hky k hk2 (by omega) (by omega) (hnx _ (.inr (by omega)))
 ·rintro e W6 ⟨rfl, o, m', ob, hJ, hm', hsr, hsz6⟩
  refine ⟨⟨_, rfl⟩, rc, hJ.lp, by rw [← HRC.out]; simp [loopRec], .inl ⟨by rw [← HRC.out]; rfl, ?_⟩⟩;refine gq_namedF (LLv w0 XB NP MB LX LB NR NW N R code rr rw rp (i + 1) (W5.heap.size :: ms)) ?_ ?_
  ·have ha := HA5.out
   have p1 : ∀ o' k, k ≠ W5.heap.size + 1 → (W6.putObj (W5.heap.size + 1) o').heap[k]? = W6.heap[k]? := fun _ k hk => put_otherF hk;obtain ⟨rv', hni', hsame, hob, hown⟩ := hJ.ni;have hsz := hJ.size;have hnx : ∀ k, (k < w0.heap.size ∨ W.heap.size ≤ k) → ¬ Ob N rv k := fun k h ho => by have := HRB.out k ho; omega
   have hls := fun n => live_search HCL.out HI.out.1 HI.out.2.1 HI.out.2.2 (r := i) (fun j _ => by rw [HUL.out.2.2.1, HWL.out.2.2.1]; exact lvM_iff us ws j) (by rw [HUL.out.2.2.1]; exact hsr) n;refine ⟨rv', m', NI.ext (hni'.loop hJ.lp (fun k hk => p1 _ k hk)) (fun k => lvL_succ hls k), hm'.of (p1 _ MB (by omega)), ⟨hJ.os.trans (HX5.out.os.trans HAG.out.os), hJ.tape.trans (HX5.out.tape.trans HAG.out.tape), hJ.output.trans (HX5.out.output.trans HAG.out.output), by rw [World.putObj_size]; omega, fun k h1 h2 h3 => (p1 _ k (by omega)).trans ((hJ.block k (by omega) h2 h3 (hnx k (.inl h1))).trans (HKW.out k h1 h2 h3))⟩, ?_, ?_⟩
   ·refine List.nodup_cons.2 ⟨fun hd => ?_, HMK.out.1⟩
    have := (zge (HMK.out.2 _ hd).1).1
    omega
   ·intro d hd
    rcases List.mem_cons.1 hd with rfl | hd
    ·exact ⟨(p1 _ _ (by omega)).trans hJ.df, by omega⟩
    ·obtain ⟨q1, q4⟩ := HMK.out.2 d hd
     have hl := (zge q1).1;have hss := HF.out.s;have q5 : W5.heap[d]? = some (.deferred (some [])) := (HX5.out.block d hl (by omega)).trans q1;exact ⟨(p1 _ d (by omega)).trans ((hJ.block d (by omega) (by omega) (by omega) (HNI5.out.ndef q5).2).trans q5), q4⟩
  intro W7 hL7;have HL7 := hidF hL7;clear hL7 hJ hm' hsr hsz6;dsimp only;go_wp2;have e1 : ((i : Int) + 1) = ((i + 1 : Nat) : Int) := by omega
  rw [e1];rw [hsz5] at HL7;refine ⟨⟨i + 1, (W.heap.size + 3) :: ms, _, _, _, _, _, _, _, _, _, _, _, _, _, _, _, _, _, _, _, _, _, _, _, _, _, _, _, _, _, _, _, _, _, _, _, _, by omega, HL7.out, rfl⟩, ?_⟩;unfold muLv;simp [intOf]
  omega
theorem lv_out (w0 : World) (XB NP MB LX LB NR NW N R : Nat) (code : List Ins) (rr rw rp : Nat → Value) (z0z z1z z2z z9z z10z z11z z12z z13z z14z z15z z16z z17z z18z z19z z20z z21z z22z z59z : Value) (z7z z8z z25z z26z z27z z28z z29z z30z z31z z32z z33z z34z z35z z36z z37z z38z z39z z40z z41z z42z z43z z44z z45z z46z z47z z48z z49z z50z z51z z52z z53z z54z z55z z56z z57z z58z : Value) (ms : List Nat) (Q0 : Exit → Act → World → Prop) (W : World) (HX : Hid (Q0 (.exit 0) ⟨#[z0z, z1z, z2z, .slice (some ⟨NR, 0, none⟩) R R, .slice (some ⟨NW, 0, none⟩) R R, .pointer (some ⟨XB, 0, none⟩), .pointer (some ⟨LX, 0, none⟩), z7z, z8z, z9z, z10z, z11z, z12z, z13z, z14z, z15z, z16z, z17z, z18z, z19z, z20z, z21z, z22z, .int .i64 (R : Int), .int .i64 (R : Int), .bool false, z26z, z27z, z28z, z29z, z30z, z31z, z32z, z33z, z34z, z35z, z36z, z37z, z38z, z39z, z40z, z41z, z42z, z43z, z44z, z45z, z46z, z47z, z48z, z49z, z50z, z51z, z52z, z53z, z54z, z55z, z56z, z57z, z58z, z59z], ms.map mkD⟩ W)) (K : Act → World → Prop) :
  Code.wp prog lvLoop (Exit.then K Q0) ⟨#[z0z, z1z, z2z, .slice (some ⟨NR, 0, none⟩) R R, .slice (some ⟨NW, 0, none⟩) R R, .pointer (some ⟨XB, 0, none⟩), .pointer (some ⟨LX, 0, none⟩), z7z, z8z, z9z, z10z, z11z, z12z, z13z, z14z, z15z, z16z, z17z, z18z, z19z, z20z, z21z, z22z, .int .i64 (R : Int), .int .i64 (R : Int), z25z, z26z, z27z, z28z, z29z, z30z, z31z, z32z, z33z, z34z, z35z, z36z, z37z, z38z, z39z, z40z, z41z, z42z, z43z, z44z, z45z, z46z, z47z, z48z, z49z, z50z, z51z, z52z, z53z, z54z, z55z, z56z, z57z, z58z, z59z], ms.map mkD⟩ W := by
 conv => arg 2; whnf
 go_wp2;exact HX.out
theorem lv_loop (w0 : World) (XB NP MB LX LB NR NW N R : Nat) (code : List Ins) (rr rw rp : Nat → Value) (z0z z1z z2z z9z z10z z11z z12z z13z z14z z15z z16z z17z z18z z19z z20z z21z z22z z59z : Value) (z7z z8z z25z z26z z27z z28z z29z z30z z31z z32z z33z z34z z35z z36z z37z z38z z39z z40z z41z z42z z43z z44z z45z z46z z47z z48z z49z z50z z51z z52z z53z z54z z55z z56z z57z z58z : Value) (Q0 : Exit → Act → World → Prop) (W : World) (hn : N ≤ 100000) (hR : R ≤ 1000000) (HF : Hid (LvF w0 XB NP MB LX LB NR NW N R code rr rw rp)) (HCL : Hid (code.length = N)) (HU : Hid (∀ r, (gOf (esG usX code N) r).length ≤ 1000000000000)) (HW : Hid (∀ r, (gOf (esG wrX code N) r).length ≤ 1000000000000)) (HI : Hid (InR usX code ∧ InR wrX code ∧ InR sxF code)) (HSX : Hid (∀ x ∈ code, ∀ y ∈ sxF x, 0 ≤ y ∧ y < N)) (HL : Hid (LLv w0 XB NP MB LX LB NR NW N R code rr rw rp 0 [] W))
  (HX : Hid (∀ (ms : List Nat) (z7z z8z z25z z26z z27z z28z z29z z30z z31z z32z z33z z34z z35z z36z z37z z38z z39z z40z z41z z42z z43z z44z z45z z46z z47z z48z z49z z50z z51z z52z z53z z54z z55z z56z z57z z58z : Value) (W' : World), LLv w0 XB NP MB LX LB NR NW N R code rr rw rp R ms W' → Q0 (.exit 0) ⟨#[z0z, z1z, z2z, .slice (some ⟨NR, 0, none⟩) R R, .slice (some ⟨NW, 0, none⟩) R R, .pointer (some ⟨XB, 0, none⟩), .pointer (some ⟨LX, 0, none⟩), z7z, z8z, z9z, z10z, z11z, z12z, z13z, z14z, z15z, z16z, z17z, z18z, z19z, z20z, z21z, z22z, .int .i64 (R : Int), .int .i64 (R : Int), z25z, z26z, z27z, z28z, z29z, z30z, z31z, z32z, z33z, z34z, z35z, z36z, z37z, z38z, z39z, z40z, z41z, z42z, z43z, z44z, z45z, z46z, z47z, z48z, z49z, z50z, z51z, z52z, z53z, z54z, z55z, z56z, z57z, z58z, z59z], ms.map mkD⟩ W')) :
  Code.wp prog (Code.loop lvLoop) Q0 ⟨#[z0z, z1z, z2z, .slice (some ⟨NR, 0, none⟩) R R, .slice (some ⟨NW, 0, none⟩) R R, .pointer (some ⟨XB, 0, none⟩), .pointer (some ⟨LX, 0, none⟩), z7z, z8z, z9z, z10z, z11z, z12z, z13z, z14z, z15z, z16z, z17z, z18z, z19z, z20z, z21z, z22z, .int .i64 (R : Int), .int .i64 0, z25z, z26z, z27z, z28z, z29z, z30z, z31z, z32z, z33z, z34z, z35z, z36z, z37z, z38z, z39z, z40z, z41z, z42z, z43z, z44z, z45z, z46z, z47z, z48z, z49z, z50z, z51z, z52z, z53z, z54z, z55z, z56z, z57z, z58z, z59z], []⟩ W := by
 refine wp_loop (ILv w0 XB NP MB LX LB NR NW N R code rr rw rp z0z z1z z2z z9z z10z z11z z12z z13z z14z z15z z16z z17z z18z z19z z20z z21z z22z z59z) (muLv R) ⟨0, [], z7z, z8z, z25z, z26z, z27z, z28z, z29z, z30z, z31z, z32z, z33z, z34z, z35z, z36z, z37z, z38z, z39z, z40z, z41z, z42z, z43z, z44z, z45z, z46z, z47z, z48z, z49z, z50z, z51z, z52z, z53z, z54z, z55z, z56z, z57z, z58z, by omega, HL.out, rfl⟩ ?_;rintro a W2 ⟨i, ms, u7, u8, u25, u26, u27, u28, u29, u30, u31, u32, u33, u34, u35, u36, u37, u38, u39, u40, u41, u42, u43, u44, u45, u46, u47, u48, u49, u50, u51, u52, u53, u54, u55, u56, u57, u58, hi, hL, rfl⟩
 by_cases hin : i < R
 ·exact lv_step w0 XB NP MB LX LB NR NW N R code rr rw rp z0z z1z z2z z9z z10z z11z z12z z13z z14z z15z z16z z17z z18z z19z z20z z21z z22z z59z u7 u8 u25 u26 u27 u28 u29 u30 u31 u32 u33 u34 u35 u36 u37 u38 u39 u40 u41 u42 u43 u44 u45 u46 u47 u48 u49 u50 u51 u52 u53 u54 u55 u56 u57 u58 i ms Q0 W2 hn hR HF HCL HU HW HI HSX hL hin
 ·obtain rfl : i = R := by omega
  exact lv_out w0 XB NP MB LX LB NR NW N i code rr rw rp z0z z1z z2z z9z z10z z11z z12z z13z z14z z15z z16z z17z z18z z19z z20z z21z z22z z59z u7 u8 u25 u26 u27 u28 u29 u30 u31 u32 u33 u34 u35 u36 u37 u38 u39 u40 u41 u42 u43 u44 u45 u46 u47 u48 u49 u50 u51 u52 u53 u54 u55 u56 u57 u58 ms Q0 W2 (HX.out ms u7 u8 (.bool false) u26 u27 u28 u29 u30 u31 u32 u33 u34 u35 u36 u37 u38 u39 u40 u41 u42 u43 u44 u45 u46 u47 u48 u49 u50 u51 u52 u53 u54 u55 u56 u57 u58 W2 hL) _
end Go.Proofs.YtfeglcpipcjaeaaGreatDoor
namespace Go.Proofs.YtfeglcpipcjaeaaGreatDoor
open Go.ChangeShapes Go.WideShapes Go.ChangeAt Go.RowKit Go.Proofs.Tryz
set_option linter.unusedSimpArgs false
set_option linter.unusedVariables false
set_option maxRecDepth 100000
set_option maxHeartbeats 16000000

noncomputable def tcLoop : Code := (((Tryz.f38.body.map loopsOf).getD [])[0]?).getD .skip
def ITc (w : World) (RX NR NW R N cap cb co : Nat) (ca : Option Addr) (code : List Ins) (z0z z1z z9z z10z z11z z12z z13z z14z z15z z53z z54z : Value) (a : Act) (W : World) : Prop := ∃ (i : Nat) (ms : List Nat) (z4z z5z z6z z7z z8z z19z z20z z21z z22z z23z z24z z25z z26z z27z z28z z29z z30z z31z z32z z33z z34z z35z z36z z37z z38z z39z z40z z41z z42z z43z z44z z45z z46z z47z z48z z49z z50z z51z z52z : Value), i ≤ N ∧ LTc w RX NR NW R N cap cb co ca code i ms W ∧ a = ⟨#[z0z, z1z, .pointer (some ⟨RX, 0, none⟩), .slice (some ⟨NW, 0, none⟩) R R, z4z, z5z, z6z, z7z, z8z, z9z, z10z, z11z, z12z, z13z, z14z, z15z, .slice ca N cap, .int .i64 N, .int .i64 (i : Int), z19z, z20z, z21z, z22z, z23z, z24z, z25z, z26z, z27z, z28z, z29z, z30z, z31z, z32z, z33z, z34z, z35z, z36z, z37z, z38z, z39z, z40z, z41z, z42z, z43z, z44z, z45z, z46z, z47z, z48z, z49z, z50z, z51z, z52z, z53z, z54z], ms.map mkD⟩
def muTc (n : Nat) (a : Act) (_ : World) : Nat := n - (intOf (a.tmps.getD 18 undef)).toNat
structure MTc (w : World) (RX NR NW R N cap cb co : Nat) (ca : Option Addr) (code : List Ins) (i : Nat) (x : Ins) (va : Option Addr) (vn vc KB : Nat) (ms : List Nat) (W : World) : Prop where
 t2 : ∃ rr rw, T2 w RX NR NW R (gOf (esG usX code (i + 1))) (gOf (esG wrX code i)) rr rw W ∧ ¬ Ob R rw KB
 ma : Mk w NR NW ms W
 nd : W.cell? ⟨KB, 0, none⟩ = some (.int .i64 (i : Int))
 kb : KB ≠ NW
 c0 : W.cell? ⟨KB + 1, 0, none⟩ = some (.int .i64 x.op)
 c1 : W.cell? ⟨KB + 1, 1, none⟩ = some (.int .i64 x.sub)
 c2 : W.cell? ⟨KB + 1, 2, none⟩ = some (.int .i64 x.a)
 c3 : W.cell? ⟨KB + 1, 3, none⟩ = some (.int .i64 x.b)
 c4 : W.cell? ⟨KB + 1, 4, none⟩ = some (.int .i64 x.d)
 c5 : W.cell? ⟨KB + 1, 5, none⟩ = some (.int .i64 x.k)
 c6 : W.cell? ⟨KB + 1, 6, none⟩ = some (.slice va vn vc)
 c7 : W.cell? ⟨KB + 1, 7, none⟩ = some (.int .i64 x.s)
 c8 : W.cell? ⟨KB + 1, 8, none⟩ = some (.int .i64 x.t)
theorem JBk.t2 {W3 : World} {w : World} {RX NR NW R i : Nat} {rc : Loop} {rr rw : Nat → Value} {es : List (Nat × Nat)} {gw : Nat → List Nat} {pre : List Int} {W5 : World} (h : T2 w RX NR NW R (gOf es) gw rr rw W3) (hJ : JBk W3 w.heap.size NR R rc rr es i pre W5) (b3 : B3 w RX NR NW) (o : Obj) :
  ∃ rr', T2 w RX NR NW R (gOf (es ++ edN i pre)) gw rr' rw (W5.putObj (W3.heap.size + 1) o) := by
 obtain ⟨rr', hni, hob⟩ := hJ.ni;have hsz := hJ.size;refine ⟨rr', h.grow1 b3 (hni.loop hJ.lp (fun k hk => put_otherF hk)) (fun k ⟨j, hj, e⟩ => ?_) (fun k h1 h2 h3 => (put_otherF (by omega)).trans (hJ.block k h1 h2 (ob_all.2 h3))) (by rw [World.putObj_size]; omega) hJ.os hJ.tape hJ.output⟩
 rcases hob j hj k e with q | q
 ·exact .inl ⟨j, hj, q⟩
 ·exact .inr (by omega)
theorem T2.gw {w : World} {RX NR NW R : Nat} {gr gw gw' : Nat → List Nat} {rr rw : Nat → Value} {W : World} (h : T2 w RX NR NW R gr gw rr rw W) (e : ∀ k, gw k = gw' k) : T2 w RX NR NW R gr gw' rr rw W := by
 have : gw = gw' := funext e;rw [← this]; exact h
theorem esG_succ {f : Ins → List Int} {code : List Ins} {i : Nat} {x : Ins} (h : code[i]? = some x) : esG f code (i + 1) = esG f code i ++ edN i (f x) := by
 show esG f code i ++ edN i (((code[i]?).map f).getD []) = _
 rw [h]
 rfl
theorem tc_step (w : World) (RX NR NW R N cap cb co : Nat) (ca : Option Addr) (code : List Ins) (z0z z1z z9z z10z z11z z12z z13z z14z z15z z53z z54z : Value) (z4z z5z z6z z7z z8z z19z z20z z21z z22z z23z z24z z25z z26z z27z z28z z29z z30z z31z z32z z33z z34z z35z z36z z37z z38z z39z z40z z41z z42z z43z z44z z45z z46z z47z z48z z49z z50z z51z z52z : Value) (i : Nat) (ms : List Nat) (Q0 : Exit → Act → World → Prop) (W : World) (hn : N ≤ 100000) (HCL : Hid (code.length = N)) (HCA : Hid (0 < N → ca = some ⟨cb, co, none⟩)) (HIN : Hid (∀ (i : Nat) x, code[i]? = some x → InsAt w cb (co + i * 9) x)) (HSH : Hid (ShTab w)) (HUS : Hid (∀ x ∈ code, ∀ y ∈ usX x, 0 ≤ y ∧ y < R)) (HWS : Hid (∀ x ∈ code, ∀ y ∈ wrX x, 0 ≤ y ∧ y < R)) (HLU : Hid (∀ i, i ≤ N → (esG usX code i).length ≤ 1000000000000)) (HLW : Hid (∀ i, i ≤ N → (esG wrX code i).length ≤ 1000000000000)) (HB3 : Hid (B3 w RX NR NW)) (HL : Hid (LTc w RX NR NW R N cap cb co ca code i ms W)) (hin : i < N) :
  Code.wp prog tcLoop (Exit.then (fun a' w' => ITc w RX NR NW R N cap cb co ca code z0z z1z z9z z10z z11z z12z z13z z14z z15z z53z z54z a' w' ∧ muTc N a' w' < muTc N ⟨#[z0z, z1z, .pointer (some ⟨RX, 0, none⟩), .slice (some ⟨NW, 0, none⟩) R R, z4z, z5z, z6z, z7z, z8z, z9z, z10z, z11z, z12z, z13z, z14z, z15z, .slice ca N cap, .int .i64 N, .int .i64 (i : Int), z19z, z20z, z21z, z22z, z23z, z24z, z25z, z26z, z27z, z28z, z29z, z30z, z31z, z32z, z33z, z34z, z35z, z36z, z37z, z38z, z39z, z40z, z41z, z42z, z43z, z44z, z45z, z46z, z47z, z48z, z49z, z50z, z51z, z52z, z53z, z54z], ms.map mkD⟩ W) Q0) ⟨#[z0z, z1z, .pointer (some ⟨RX, 0, none⟩), .slice (some ⟨NW, 0, none⟩) R R, z4z, z5z, z6z, z7z, z8z, z9z, z10z, z11z, z12z, z13z, z14z, z15z, .slice ca N cap, .int .i64 N, .int .i64 (i : Int), z19z, z20z, z21z, z22z, z23z, z24z, z25z, z26z, z27z, z28z, z29z, z30z, z31z, z32z, z33z, z34z, z35z, z36z, z37z, z38z, z39z, z40z, z41z, z42z, z43z, z44z, z45z, z46z, z47z, z48z, z49z, z50z, z51z, z52z, z53z, z54z], ms.map mkD⟩ W := by
 obtain ⟨rr, rw, ht2, hmk⟩ := HL.out;obtain rfl := HCA.out (by omega);have hget := List.getElem?_eq_getElem (l := code) (show i < code.length by rw [HCL.out]; exact hin)
 generalize code[i]'(by rw [HCL.out]; exact hin) = x at hget
 obtain ⟨v, hil, e0, e1, e2, e3, e4, e5, e6, e7, e8⟩ := (HIN.out i x hget).keep ht2.bel;obtain ⟨va, vc, rfl, _⟩ := hil.partsF
 generalize x.args.length = vn at *
 have HGET := hidF hget;have HT2 := hidF ht2;have HMK := hidF hmk;have HIL := hidF hil;have HSW := hidF (HSH.out.keep ht2.bel);have hRX : RX < W.heap.size := block_lt_of_cell ht2.rx;have j0 : (0 : Int) ≤ i := by omega
 have j1 : (i : Int) < N := by omega
 have HSXX : Hid (∀ y ∈ usX x, 0 ≤ y ∧ y < R) := HUS.out x (List.mem_of_getElem? hget);have HWXX : Hid (∀ y ∈ wrX x, 0 ≤ y ∧ y < R) := HWS.out x (List.mem_of_getElem? hget);clear hget ht2 hmk hil HL
 conv => arg 2; whnf
 go_wp2_with (go_at_call 63; refine (uses_made2 _ _ _ _ _ _ _ _ _ _ _ x.args _ _ rfl (HSW.out.keep (bel_alloc (bel_alloc (Below.refl _ _) _) _)) (HIL.out.keep (bel_alloc (bel_alloc (Below.refl _ _) _) _))).mono ?_; rintro e W3 ⟨sb, ib, v, rfl, hus, hb3, hsb, hib, hvf⟩)
 obtain ⟨l', hl'⟩ : ∃ l', (if (shOf x.op).args = true then x.args else []) = l' := ⟨_, rfl⟩;rw [hl'] at hus;have HUX : Hid (usX x = usP (shOf x.op) x.a x.b l') := by show _ = _; unfold usX; rw [hl']
 obtain ⟨u0, u1, u2, u3, u4, u5⟩ := hus;obtain ⟨va2, vc2, rfl, h8⟩ := u5.partsF;have hbz : Below W.heap.size W W3 := bel_trans (bel_alloc (bel_alloc (Below.refl _ _) _) _) hb3;have cN : W3.cell? ⟨W.heap.size, 0, none⟩ = some (.int .i64 (i : Int)) := keep_cell hb3 (keep_alloc (cell_new2 W _ _ _ rfl) _);have c0 : W3.cell? ⟨W.heap.size + 1, 0, none⟩ = some (.int .i64 x.op) := keep_cell hb3 (by simp);have c1 : W3.cell? ⟨W.heap.size + 1, 1, none⟩ = some (.int .i64 x.sub) := keep_cell hb3 (by simp);have c2 : W3.cell? ⟨W.heap.size + 1, 2, none⟩ = some (.int .i64 x.a) := keep_cell hb3 (by simp);have c3 : W3.cell? ⟨W.heap.size + 1, 3, none⟩ = some (.int .i64 x.b) := keep_cell hb3 (by simp);have c4 : W3.cell? ⟨W.heap.size + 1, 4, none⟩ = some (.int .i64 x.d) := keep_cell hb3 (by simp);have c5 : W3.cell? ⟨W.heap.size + 1, 5, none⟩ = some (.int .i64 x.k) := keep_cell hb3 (by simp);have c6 : W3.cell? ⟨W.heap.size + 1, 6, none⟩ = some (.slice va vn vc) := keep_cell hb3 (by simp);have c7 : W3.cell? ⟨W.heap.size + 1, 7, none⟩ = some (.int .i64 x.s) := keep_cell hb3 (by simp);have c8 : W3.cell? ⟨W.heap.size + 1, 8, none⟩ = some (.int .i64 x.t) := keep_cell hb3 (by simp);have hsb2 : W.heap.size + 2 ≤ sb := by simp at hsb; omega
 have hib2 : W.heap.size + 2 ≤ ib := by simp at hib; omega
 have hs3 : W.heap.size + 2 ≤ W3.heap.size := by have := hb3.size; simp at this; omega
 have hsb3 : sb < W3.heap.size := block_lt_of_cell u0;have hib3 : ib < W3.heap.size := block_lt_of_cell u2;have HVF : Hid (∀ b o s n c, Value.slice va2 l'.length vc2 = .slice (some ⟨b, o, s⟩) n c → W.heap.size + 2 ≤ b) := fun b o s n c h => by have := hvf b o s n c h; simp at this; omega
 have HBZ := hidF hbz;have HCN := hidF cN;have HU := hidF (And.intro u0 (And.intro u1 (And.intro u2 (And.intro u3 (And.intro u4 u5)))));have HC9 := hidF (And.intro c0 (And.intro c1 (And.intro c2 (And.intro c3 (And.intro c4 (And.intro c5 (And.intro c6 (And.intro c7 c8))))))));have HT3 := hidF (HT2.out.keep hbz);have hlt : ∀ k, Ob R rr k → k < W.heap.size := fun k hk => (HT2.out.nr.obw hk).2;have HLT := hidF hlt;clear hbz cN u0 u1 u2 u3 u4 u5 hb3 hsb hib hvf hlt e0 e1 e2 e3 e4 e5 e6 e7 e8 c0 c1 c2 c3 c4 c5 c6 c7 c8 hl';refine (wpIn_wide (n := 3)).1 ?_;refine range_outer (F := Fence.wide) rfl (by omega) (gf := 84) (lb := #[.pointer (some ⟨sb, 0, none⟩), .pointer (some ⟨ib, 0, none⟩)]) (by simp [Act.eval]) trivial (enters_of func84 (by kernel_rfl) rfl) ?_;intro fn _;refine callsIn_wide.2 ?_
 generalize hrc : loopRec fn _ _ _ _ _ = rc
 have HRC := hidF hrc;clear hrc;have hNR : NR < W.heap.size := HT2.out.sz.1;have hNW : NW < W.heap.size := HT2.out.sz.2;have HKK : Hid (∀ pre W', JBk W3 w.heap.size NR R rc rr (esG usX code i) i pre W' → ∀ k, W.heap.size ≤ k → k < W3.heap.size → W'.heap[k]? = W3.heap[k]?) := fun pre W' hJ k h1 h2 => hJ.block k h2 (by omega) (ob_all.2 (fun o => by have := HLT.out k o; omega));refine (uses1_any (W3.heap.size + 1) sb ib (shOf x.op) x.a x.b va2 l'.length vc2 l' (loopW W3 rc) (JBk W3 w.heap.size NR R rc rr (esG usX code i) i) (fun _ => False) rfl h8 (JBk.enter HT3.out.nr) ?_ ?_).mono ?_
 ·intro pre W' hJ
  have hk := HKK.out pre W' hJ;obtain ⟨s0, s1, s2, s3, s4, s5⟩ := HU.out;exact ⟨cell_of s0 (fun _ => hk _ (by omega) hsb3), cell_of s1 (fun _ => hk _ (by omega) hsb3), cell_of s2 (fun _ => hk _ (by omega) hib3), cell_of s3 (fun _ => hk _ (by omega) hib3), cell_of s4 (fun _ => hk _ (by omega) hib3), s5.of2 (fun b o s n c e hb => hk b (by have := HVF.out b o s n c e; omega) hb)⟩
 ·intro pre y rest W' hsp hJ
  have hy := HSXX.out y (by rw [HUX.out, hsp]; simp);obtain ⟨z, rfl⟩ : ∃ z : Nat, y = z := ⟨y.toNat, by omega⟩;obtain ⟨rv', hni', hob⟩ := hJ.ni;have hlp := hJ.lp;rw [← HRC.out] at hlp
  have hlen : (gOf (esG usX code i ++ edN i pre) z).length ≤ 1000000000000 := by
   have h1 := gOf_length (esG usX code i ++ edN i pre) z;have h2 := HLU.out (i + 1) (by omega);rw [esG_succ HGET.out, HUX.out, hsp] at h2;rw [List.length_append] at h1 h2;have h3 : (edN i pre).length = pre.length := by simp [edN]
   have h4 : (edN i (pre ++ (z : Int) :: rest)).length = pre.length + (rest.length + 1) := by simp [edN]
   omega
  have hob2 : ∀ k, k < W3.heap.size + 1 → ¬ Ob R rr k → ∀ j, j < R → some k ≠ (rv' j).ownBlock := fun k hk h j hj e => by
   rcases hob j hj k e.symm with q | q
   ·exact h ⟨j, hj, q⟩
   ·omega
  have hnx : ∀ k, W.heap.size ≤ k → ¬ Ob R rr k := fun k hk o => by have := HLT.out k o; omega
  refine tc_round (W3.heap.size + 1) RX W.heap.size NR R w.heap.size z i _ rv' (gOf (esG usX code i ++ edN i pre)) fn _ _ _ _ _ _ _ _ _ _ _ _ _ _ _ _ _ _ _ _ _ _ _ _ _ _ _ _ _ _ _ _ _ _ _ _ _ _ _ _ _ _ _ _ _ _ _ _ _ _ _ _ _  W' _ hlp (cell_of HT3.out.rx (fun _ => hJ.block RX (by omega) HB3.out.b (ob_all.2 HT3.out.x1))) (cell_of HCN.out (fun _ => HKK.out pre W' hJ _ (by omega) (by omega))) hni' (by omega) hlen (by have := hJ.size; have := HT3.out.bel.size; omega) (fun j hj => ⟨hob2 RX (by omega) HT3.out.x1 j hj, hob2 _ (by omega) (hnx _ (by omega)) j hj⟩) ⟨HB3.out.b, by omega⟩ ?_;intro W2 rv2 n1 n2 n3 n4 n5 n6 n7 n8;replace n3 : W2.heap[W3.heap.size + 1]? = some (.loop rc) := by rw [← HRC.out]; exact n3
  have hsz := hJ.size;refine ⟨true, rfl, fun _ => ⟨n5.trans hJ.os, n6.trans hJ.tape, n7.trans hJ.output, Nat.le_trans hJ.size n4, fun k hk h1 h2 => (n2 k (by omega) h1 (by omega) (hob2 k (by omega) (ob_all.1 h2))).trans (hJ.block k hk h1 h2), (n2 _ (by omega) (by omega) (by omega) (hob2 _ (by omega) (hnx _ (by omega)))).trans hJ.df, n3, rv2, NI.ext n1 (fun k => ?_), fun j hj b hb => ?_⟩, fun h => by cases h⟩
  ·rw [addG_gOf, edN_snoc, List.append_assoc]
   rfl
  ·rcases n8 j hj b hb with q | q
   ·exact hob j hj b q
   ·right; omega
 ·rintro e W5 ⟨rfl, hJ⟩
  replace hJ := hJ.resolve_right (fun h => h);refine ⟨⟨_, rfl⟩, rc, hJ.lp, by rw [← HRC.out]; simp [loopRec], .inl ⟨by rw [← HRC.out]; rfl, ?_⟩⟩;refine gq_namedF (MTc w RX NR NW R N cap cb co (some ⟨cb, co, none⟩) code i x va vn vc W.heap.size (W3.heap.size :: ms)) ?_ ?_
  ·have hsz := hJ.size
   have p1 : ∀ o' k, k ≠ W3.heap.size + 1 → (W5.putObj (W3.heap.size + 1) o').heap[k]? = W5.heap[k]? := fun _ k hk => put_otherF hk;have hk := HKK.out _ W5 hJ;obtain ⟨rr', ht⟩ := hJ.t2 HT3.out HB3.out (.loop { rc with state := .exhausted });have q : ∀ b, W.heap.size ≤ b → b < W3.heap.size → (W5.putObj (W3.heap.size + 1) (.loop { rc with state := .exhausted })).heap[b]? = W3.heap[b]? := fun b h1 h2 => (p1 _ b (by omega)).trans (hk b h1 h2);obtain ⟨c0, c1, c2, c3, c4, c5, c6, c7, c8⟩ := HC9.out;refine ⟨⟨rr', rw, ?_, fun o => by have := (HT2.out.nw.obw o).2; omega⟩, ⟨?_, ?_⟩, cell_of HCN.out (q _ (by omega)), by omega, cell_of c0 (q _ (by omega)), cell_of c1 (q _ (by omega)), cell_of c2 (q _ (by omega)), cell_of c3 (q _ (by omega)), cell_of c4 (q _ (by omega)), cell_of c5 (q _ (by omega)), cell_of c6 (q _ (by omega)), cell_of c7 (q _ (by omega)), cell_of c8 (q _ (by omega))⟩
   ·rw [esG_succ HGET.out, HUX.out]
    exact ht
   ·refine List.nodup_cons.2 ⟨fun hd => ?_, HMK.out.1⟩
    have := (zge (HMK.out.2 _ hd).1).1
    omega
   ·intro d hd
    rcases List.mem_cons.1 hd with rfl | hd
    ·exact ⟨(p1 _ _ (by omega)).trans hJ.df, by have := HT2.out.bel.size; omega, by omega, by omega⟩
    ·obtain ⟨q1, q4⟩ := HMK.out.2 d hd
     have hl := (zge q1).1;have q5 : W3.heap[d]? = some (.deferred (some [])) := (HBZ.out.block d hl).trans q1;refine ⟨(p1 _ d (by omega)).trans ((hJ.block d (by omega) q4.2.1 (ob_all.2 (HT3.out.nr.ndef q5).2)).trans q5), q4⟩
  intro W7 hM;have HM7 := hidF hM;clear hM hJ;dsimp only;obtain ⟨⟨rr2, rw2, ht7, hkb⟩, hma, hnd, hkn, c0, c1, c2, c3, c4, c5, c6, c7, c8⟩ := HM7.out;have HT7 := hidF ht7;have HMA := hidF hma;have HKB := hidF hkb;have HND := hidF hnd;have HS7 := hidF (HSH.out.keep ht7.bel);have HTW := hidF (target_walk x.op x.sub x.a x.b x.d x.k va vn vc x.s x.t _ W7 rfl HS7);clear ht7 hma hkb hnd HM7
  cases hq : readB (shOf x.op).d x.d with
  | false =>
   rw [if_neg (by rw [hq]; simp)] at HTW;have HWX : Hid (wrX x = []) := by show _ = _; unfold wrX; rw [if_neg (by rw [hq]; simp)]
   clear hq
   go_wp2_with (go_at_call 64; refine HTW.out.mono ?_; rintro e W8 ⟨rfl, hb8⟩)
   have HFIN : Hid (LTc w RX NR NW R N cap cb co (some ⟨cb, co, none⟩) code (i + 1) (W3.heap.size :: ms) W8) := ⟨rr2, rw2, (HT7.out.keep hb8).gw (fun k => by rw [esG_succ HGET.out, HWX.out]; simp [edN]), HMA.out.keep hb8⟩;have e1 : ((i : Int) + 1) = ((i + 1 : Nat) : Int) := by omega
   rw [e1];refine ⟨⟨i + 1, W3.heap.size :: ms, _, _, _, _, _, _, _, _, _, _, _, _, _, _, _, _, _, _, _, _, _, _, _, _, _, _, _, _, _, _, _, _, _, _, _, _, _, _, _, by omega, HFIN.out, rfl⟩, ?_⟩;unfold muTc;simp [intOf]
   omega
  | true =>
   rw [if_pos (by rw [hq])] at HTW;have HWX : Hid (wrX x = [x.d]) := by show _ = _; unfold wrX; rw [if_pos (by rw [hq])]
   have hd := HWXX.out x.d (by rw [HWX.out]; simp);obtain ⟨z, hz⟩ : ∃ z : Nat, x.d = z := ⟨x.d.toNat, by omega⟩;replace HTW : Hid (Calls prog 64 #[.agg #[.int .i64 x.op, .int .i64 x.sub, .int .i64 x.a, .int .i64 x.b, .int .i64 x.d, .int .i64 x.k, .slice va vn vc, .int .i64 x.s, .int .i64 x.t]] W7 (retP (.tuple #[.int .i64 (z : Int), .bool true]) W7)) := by have := HTW.out; rw [hz] at this ⊢; exact this
   have hzR : z < R := by omega
   have HZ := hidF hz;clear hq hz hd
   go_upto_region 10 with (go_at_call 64; refine HTW.out.mono ?_; rintro e W8 ⟨rfl, hb8⟩)
   have HT8 := hidF (HT7.out.keep hb8);have HMA8 := hidF (HMA.out.keep hb8);refine wp_calm ?_;refine tc_reg W.heap.size NW R w.heap.size z i rw2 (gOf (esG wrX code i)) _ _ _ _ _ _ _ _ _ _ _ _ _ _ _ _ _ _ _ _ _ _ _ _ _ _ _ _ _ _ _ _ _ _ _ _ _ _ _ _ _ _ _ _ _ _ _ _ _ _ _ _  _ _ W8 (fun c a dd v x h => by cases h.1) (keep_cell hb8 HND.out) HT8.out.nw (by omega) (Nat.le_trans (gOf_length _ _) (HLW.out i (by omega))) (by have := HT8.out.bel.size; omega) (ob_all.2 HKB.out) hkn ?_;intro y42 y43 y44 y45 y46 y47 y48 y49 y50 y51 W9 rw3 n1 n2 n4 n5 n6 n7 n8
   have HFIN : Hid (LTc w RX NR NW R N cap cb co (some ⟨cb, co, none⟩) code (i + 1) (W3.heap.size :: ms) W9) := by
    refine ⟨rr2, rw3, (HT8.out.grow2 HB3.out n1 (fun k ⟨j, hj, e⟩ => ?_) (fun k h1 h2 h3 => n2 k h2 h1 (ob_all.2 h3)) n4 n5 n6 n7).gw (fun k => ?_), HMA8.out.1, fun d hd => ?_⟩
    ·rcases n8 j hj k e with q | q
     ·exact .inl ⟨j, hj, q⟩
     ·exact .inr q
    ·rw [esG_succ HGET.out, HWX.out, HZ.out, addG_gOf]
     simp [edN]
    ·obtain ⟨q1, q2⟩ := HMA8.out.2 d hd
     exact ⟨(n2 d q2.2.2 (zge q1).1 (ob_all.2 (HT8.out.nw.ndef q1).2)).trans q1, q2⟩
   clear n1 n2 n4 n5 n6 n7 n8;refine ⟨rfl, ?_⟩;go_wp2;have e1 : ((i : Int) + 1) = ((i + 1 : Nat) : Int) := by omega
   rw [e1];refine ⟨⟨i + 1, W3.heap.size :: ms, _, _, _, _, _, _, _, _, _, _, _, _, _, _, _, _, _, _, _, _, _, _, _, _, _, _, _, _, _, _, _, _, _, _, _, _, _, _, _, by omega, HFIN.out, rfl⟩, ?_⟩;unfold muTc;simp [intOf]
   omega
end Go.Proofs.YtfeglcpipcjaeaaGreatDoor
namespace Go.Proofs.YtfeglcpipcjaeaaGreatDoor
open Go.ChangeShapes Go.WideShapes Go.ChangeAt Go.RowKit Go.Proofs.Tryz
set_option linter.unusedSimpArgs false
set_option linter.unusedVariables false
set_option maxRecDepth 100000
set_option maxHeartbeats 8000000

noncomputable def tcR1 : Code := ((Tryz.f38.body.bind (regionNF 1)).getD .skip)
structure R1 (w1 : World) (RX NR NW R : Nat) (W : World) : Prop where
 os : W.os = w1.os
 tape : W.tape = w1.tape
 output : W.output = w1.output
 size : W.heap.size = w1.heap.size + 2
 block : ∀ k, k < w1.heap.size → k ≠ RX → W.heap[k]? = w1.heap[k]?
 ne : NR ≠ NW
 lr : w1.heap.size ≤ NR ∧ NR < w1.heap.size + 2
 lw : w1.heap.size ≤ NW ∧ NW < w1.heap.size + 2
 rx : W.cell? ⟨RX, 0, none⟩ = some (.slice (some ⟨NR, 0, none⟩) R R)
 rz : W.frozen? ⟨RX, 0, none⟩ = false
 cr : ∀ i, i < R → W.cell? ⟨NR, i, none⟩ = some (.slice none 0 0) ∧ W.frozen? ⟨NR, i, none⟩ = false
 cw : ∀ i, i < R → W.cell? ⟨NW, i, none⟩ = some (.slice none 0 0) ∧ W.frozen? ⟨NW, i, none⟩ = false
theorem frozen_new (w : World) (c : Array Value) (e : TypeId) (k : Nat) (hk : w.heap.size = k) : (w.alloc (.cells c e)).frozen? ⟨k, 0, none⟩ = false := by
 have hh : (w.alloc (.cells c e)).heap[w.heap.size]? = some (.cells c e (0, 0)) := by
  show (w.heap.push _)[w.heap.size]? = _
  simp
 rw [← hk];unfold World.frozen?;rw [hh];simp
theorem alloc_old {V : World} {o : Obj} {k : Nat} (h : k < V.heap.size) : (V.alloc o).heap[k]? = V.heap[k]? := Below.heap_alloc V o k h
theorem r1_A (w1 : World) (RX R : Nat) (crx : w1.cell? ⟨RX, 0, none⟩ = some (.slice none 0 0)) (frx : w1.frozen? ⟨RX, 0, none⟩ = false) (hRX : RX < w1.heap.size) : R1 w1 RX (w1.heap.size) (w1.heap.size + 1) R ((((w1.setCell ⟨RX, 0, none⟩ (.slice (some ⟨w1.heap.size, 0, none⟩) R R)).alloc (.cells (madeCells #[.slice none 0 0] R) 22)).alloc (.cells (madeCells #[.slice none 0 0] R) 22)).drew) := by
 obtain ⟨V, hV⟩ : ∃ V, w1.setCell ⟨RX, 0, none⟩ (.slice (some ⟨w1.heap.size, 0, none⟩) R R) = V := ⟨_, rfl⟩;have hs0 : V.heap.size = w1.heap.size := by rw [← hV, gsize_setF]
 have ha := made_at V (.slice none 0 0) R 22;have hb := made_at (V.alloc (.cells (madeCells #[.slice none 0 0] R) 22)) (.slice none 0 0) R 22;have hs1 : (V.alloc (.cells (madeCells #[.slice none 0 0] R) 22)).heap.size = w1.heap.size + 1 := by rw [World.size_alloc, hs0]
 rw [hs0] at ha;rw [hs1] at hb;have cV : V.cell? ⟨RX, 0, none⟩ = some (.slice (some ⟨w1.heap.size, 0, none⟩) R R) := by rw [← hV]; exact World.cell?_setCell_same _ _ _ crx
 have fV : V.frozen? ⟨RX, 0, none⟩ = false := by rw [← hV, World.frozen?_setCell]; exact frx
 have ka : ∀ i, i < R → ((V.alloc (.cells (madeCells #[.slice none 0 0] R) 22)).alloc (.cells (madeCells #[.slice none 0 0] R) 22)).cell? ⟨w1.heap.size, i, none⟩ = some (.slice none 0 0) ∧ ((V.alloc (.cells (madeCells #[.slice none 0 0] R) 22)).alloc (.cells (madeCells #[.slice none 0 0] R) 22)).frozen? ⟨w1.heap.size, i, none⟩ = false := fun i hi => ⟨keep_alloc (ha i hi).1 _, keep_frozen (bel_alloc (Below.refl _ _) _) (ha i hi).1 (ha i hi).2⟩;rw [hV];refine ⟨by rw [← hV]; rfl, by rw [← hV]; rfl, by rw [← hV]; rfl, by show ((V.alloc (.cells (madeCells #[.slice none 0 0] R) 22)).alloc (.cells (madeCells #[.slice none 0 0] R) 22)).heap.size = _; rw [World.size_alloc, hs1], fun k hk hne => ?_, by omega, ⟨by omega, by omega⟩, ⟨by omega, by omega⟩, keep_alloc (keep_alloc cV _) _, keep_frozen (bel_alloc (bel_alloc (Below.refl _ _) _) _) cV fV, ka, hb⟩
 show ((V.alloc (.cells (madeCells #[.slice none 0 0] R) 22)).alloc (.cells (madeCells #[.slice none 0 0] R) 22)).heap[k]? = _
 rw [alloc_old (by omega), alloc_old (by omega), ← hV, gset_otherF hne]
theorem r1_C (w1 : World) (RX R : Nat) (crx : w1.cell? ⟨RX, 0, none⟩ = some (.slice none 0 0)) (frx : w1.frozen? ⟨RX, 0, none⟩ = false) (hRX : RX < w1.heap.size) : R1 w1 RX (w1.heap.size + 1) (w1.heap.size) R ((((w1.setCell ⟨RX, 0, none⟩ (.slice (some ⟨w1.heap.size + 1, 0, none⟩) R R)).alloc (.cells (madeCells #[.slice none 0 0] R) 22)).alloc (.cells (madeCells #[.slice none 0 0] R) 22)).drew) := by
 obtain ⟨V, hV⟩ : ∃ V, w1.setCell ⟨RX, 0, none⟩ (.slice (some ⟨w1.heap.size + 1, 0, none⟩) R R) = V := ⟨_, rfl⟩;have hs0 : V.heap.size = w1.heap.size := by rw [← hV, gsize_setF]
 have ha := made_at V (.slice none 0 0) R 22;have hb := made_at (V.alloc (.cells (madeCells #[.slice none 0 0] R) 22)) (.slice none 0 0) R 22;have hs1 : (V.alloc (.cells (madeCells #[.slice none 0 0] R) 22)).heap.size = w1.heap.size + 1 := by rw [World.size_alloc, hs0]
 rw [hs0] at ha;rw [hs1] at hb;have cV : V.cell? ⟨RX, 0, none⟩ = some (.slice (some ⟨w1.heap.size + 1, 0, none⟩) R R) := by rw [← hV]; exact World.cell?_setCell_same _ _ _ crx
 have fV : V.frozen? ⟨RX, 0, none⟩ = false := by rw [← hV, World.frozen?_setCell]; exact frx
 have ka : ∀ i, i < R → ((V.alloc (.cells (madeCells #[.slice none 0 0] R) 22)).alloc (.cells (madeCells #[.slice none 0 0] R) 22)).cell? ⟨w1.heap.size, i, none⟩ = some (.slice none 0 0) ∧ ((V.alloc (.cells (madeCells #[.slice none 0 0] R) 22)).alloc (.cells (madeCells #[.slice none 0 0] R) 22)).frozen? ⟨w1.heap.size, i, none⟩ = false := fun i hi => ⟨keep_alloc (ha i hi).1 _, keep_frozen (bel_alloc (Below.refl _ _) _) (ha i hi).1 (ha i hi).2⟩;rw [hV];refine ⟨by rw [← hV]; rfl, by rw [← hV]; rfl, by rw [← hV]; rfl, by show ((V.alloc (.cells (madeCells #[.slice none 0 0] R) 22)).alloc (.cells (madeCells #[.slice none 0 0] R) 22)).heap.size = _; rw [World.size_alloc, hs1], fun k hk hne => ?_, by omega, ⟨by omega, by omega⟩, ⟨by omega, by omega⟩, keep_alloc (keep_alloc cV _) _, keep_frozen (bel_alloc (bel_alloc (Below.refl _ _) _) _) cV fV, hb, ka⟩
 show ((V.alloc (.cells (madeCells #[.slice none 0 0] R) 22)).alloc (.cells (madeCells #[.slice none 0 0] R) 22)).heap[k]? = _
 rw [alloc_old (by omega), alloc_old (by omega), ← hV, gset_otherF hne]
theorem tc_r1 (FB RX R : Nat) (z0z z3z z4z z5z z6z z7z z8z z9z z10z z11z z12z z13z z14z z15z z16z z17z z18z z19z z20z z21z z22z z23z z24z z25z z26z z27z z28z z29z z30z z31z z32z z33z z34z z35z z36z z37z z38z z39z z40z z41z z42z z43z z44z z45z z46z z47z z48z z49z z50z z51z z52z z53z z54z : Value) (DF : List Deferred) (Q0 : Exit → Act → World → Prop) (w1 : World) (hQ0 : ∀ c (a : Act) (dd : Option Tmp) v x, Q0 (.panic c) (a.put dd v) x → Q0 (.panic c) a x)
  (hR : R ≤ 1000000) (h1 : w1.cell? ⟨FB, 2, none⟩ = some (.int .i64 (R : Int))) (crx : w1.cell? ⟨RX, 0, none⟩ = some (.slice none 0 0)) (frx : w1.frozen? ⟨RX, 0, none⟩ = false) (hRX : RX < w1.heap.size) (HNE : Hid (FB ≠ RX))
  (HK : Hid (∀ y9 y10 y11 y12 y13 y14 NR NW (W : World), R1 w1 RX NR NW R W → Q0 .normal ⟨#[z0z, .pointer (some ⟨FB, 0, none⟩), .pointer (some ⟨RX, 0, none⟩), .slice (some ⟨NW, 0, none⟩) R R, z4z, z5z, z6z, z7z, z8z, y9, y10, y11, y12, y13, y14, z15z, z16z, z17z, z18z, z19z, z20z, z21z, z22z, z23z, z24z, z25z, z26z, z27z, z28z, z29z, z30z, z31z, z32z, z33z, z34z, z35z, z36z, z37z, z38z, z39z, z40z, z41z, z42z, z43z, z44z, z45z, z46z, z47z, z48z, z49z, z50z, z51z, z52z, z53z, z54z], DF⟩ W)) :
  Code.wp prog tcR1 Q0 ⟨#[z0z, .pointer (some ⟨FB, 0, none⟩), .pointer (some ⟨RX, 0, none⟩), z3z, z4z, z5z, z6z, z7z, z8z, z9z, z10z, z11z, z12z, z13z, z14z, z15z, z16z, z17z, z18z, z19z, z20z, z21z, z22z, z23z, z24z, z25z, z26z, z27z, z28z, z29z, z30z, z31z, z32z, z33z, z34z, z35z, z36z, z37z, z38z, z39z, z40z, z41z, z42z, z43z, z44z, z45z, z46z, z47z, z48z, z49z, z50z, z51z, z52z, z53z, z54z], DF⟩ w1 := by
 have mk1 := mk_rows R hR
 conv => arg 2; whnf
 refine wp_region_held_drew (S := (fun w' => w'.cell? ⟨FB, 2, none⟩ = some (.int .i64 (R : Int)))) (by kernel_rfl) (h1) (fun hHeld => ?_);refine wpAnyH_take (i := 0) (oi := ?o0) (v := ?v0) ?i0 (by kernel_rfl) (by kernel_rfl) (by kernel_rfl) ?q0 ?y0 hHeld ?_
 case i0 => simp only [zga, zgs, zgz]; rfl
 case q0 => exact fun _ _ _ h => hQ0 _ _ _ _ _ h
 case y0 => refine .inl ⟨by rfl, ?_⟩; intro w' hSw; (try dsimp only at hSw); go_simp; try with_reducible rfl
 simp only [Act.put, zsa, zsz, zss];refine wpAnyH_take (i := 1) (oi := ?o1) (v := ?v1) ?i1 (by kernel_rfl) (by kernel_rfl) (by kernel_rfl) ?q1 ?y1 hHeld ?_
 case i1 => simp only [zga, zgs, zgz]; rfl
 case q1 => exact fun _ _ _ h => hQ0 _ _ _ _ _ h
 case y1 => refine .inl ⟨by rfl, ?_⟩; intro w' hSw; (try dsimp only at hSw); go_simp; try with_reducible rfl
 simp only [Act.put, zsa, zsz, zss];refine wpAnyH_take (i := 3) (oi := ?o2) (v := ?v2) ?i2 (by kernel_rfl) (by kernel_rfl) (by kernel_rfl) ?q2 ?y2 hHeld ?_
 case i2 => simp only [zga, zgs, zgz]; rfl
 case q2 => exact fun _ _ _ h => hQ0 _ _ _ _ _ h
 case y2 => refine .inl ⟨by rfl, ?_⟩; intro w' hSw; (try dsimp only at hSw); go_simp; try with_reducible rfl
 simp only [Act.put, zsa, zsz, zss];refine wpAnyH_take (i := 4) (oi := ?o3) (v := ?v3) ?i3 (by kernel_rfl) (by kernel_rfl) (by kernel_rfl) ?q3 ?y3 hHeld ?_
 case i3 => simp only [zga, zgs, zgz]; rfl
 case q3 => exact fun _ _ _ h => hQ0 _ _ _ _ _ h
 case y3 => refine .inl ⟨by rfl, ?_⟩; intro w' hSw; (try dsimp only at hSw); go_simp; try with_reducible rfl
 simp only [Act.put, zsa, zsz, zss];refine wpAnyH_ready (rs := [2, 5]) (by kernel_rfl) (by simp) ?_;refine (AllReadyH.cons (o := ?o4) ?i4 (fun K hK => ?g4) (AllReadyH.cons (o := ?o5) ?i5 (fun K hK => ?g5) AllReadyH.nil))
 case i4 => simp only [zga, zgs, zgz]; rfl
 case i5 => simp only [zga, zgs, zgz]; rfl
 case g4 =>
  go_simp;refine hK.out _ _ (keep_alloc hHeld _) (fun hN => ?_);clear hK K hHeld;have hHeld := hN;clear hN
  try simp only [Act.put, zsa, zsz, zss]
  refine wpAnyH_ready (rs := [5, 6]) (by kernel_rfl) (by simp) ?_;refine (AllReadyH.cons (o := ?o6) ?i6 (fun K hK => ?g6) (AllReadyH.cons (o := ?o7) ?i7 (fun K hK => ?g7) AllReadyH.nil))
  case i6 => simp only [zga, zgs, zgz]; rfl
  case i7 => simp only [zga, zgs, zgz]; rfl
  case g6 =>
   go_simp;refine hK.out _ _ (keep_alloc hHeld _) (fun hN => ?_);clear hK K hHeld;have hHeld := hN;clear hN
   try simp only [Act.put, zsa, zsz, zss]
   refine zr (r := 6) (o := ?o8) (by kernel_rfl) ?i8 (fun K hK => ?g8)
   case i8 => simp only [zga, zgs, zgz]; rfl
   case g8 =>
    go_simp;refine hK.out _ _ (keep_alloc (keep_alloc (keep_set (p := ⟨RX, 0, none⟩) h1 HNE.out) _) _) (fun hN => ?_);clear hK K hHeld;have hHeld := hN;clear hN
    try simp only [Act.put, zsa, zsz, zss]
    refine wpAnyH_take (i := 7) (oi := ?o9) (v := ?v9) ?i9 (by kernel_rfl) (by kernel_rfl) (by kernel_rfl) ?q9 ?y9 hHeld ?_
    case i9 => simp only [zga, zgs, zgz]; rfl
    case q9 => exact fun _ _ _ h => hQ0 _ _ _ _ _ h
    case y9 => refine .inl ⟨by rfl, ?_⟩; intro w' hSw; (try dsimp only at hSw); go_simp; try with_reducible rfl
    simp only [Act.put, zsa, zsz, zss];refine wpAnyH_done (by kernel_rfl) ?_ _;exact HK.out _ _ _ _ _ _ _ _ _ (r1_A w1 RX R crx frx hRX)
  case g7 =>
   go_simp;refine hK.out _ _ (keep_alloc (keep_set (p := ⟨RX, 0, none⟩) h1 HNE.out) _) (fun hN => ?_);clear hK K hHeld;have hHeld := hN;clear hN
   try simp only [Act.put, zsa, zsz, zss]
   refine zr (r := 5) (o := ?o10) (by kernel_rfl) ?i10 (fun K hK => ?g10)
   case i10 => simp only [zga, zgs, zgz]; rfl
   case g10 =>
    go_simp;refine hK.out _ _ (keep_alloc hHeld _) (fun hN => ?_);clear hK K hHeld;have hHeld := hN;clear hN
    try simp only [Act.put, zsa, zsz, zss]
    refine wpAnyH_take (i := 7) (oi := ?o11) (v := ?v11) ?i11 (by kernel_rfl) (by kernel_rfl) (by kernel_rfl) ?q11 ?y11 hHeld ?_
    case i11 => simp only [zga, zgs, zgz]; rfl
    case q11 => exact fun _ _ _ h => hQ0 _ _ _ _ _ h
    case y11 => refine .inl ⟨by rfl, ?_⟩; intro w' hSw; (try dsimp only at hSw); go_simp; try with_reducible rfl
    simp only [Act.put, zsa, zsz, zss];refine wpAnyH_done (by kernel_rfl) ?_ _;exact HK.out _ _ _ _ _ _ _ _ _ (r1_A w1 RX R crx frx hRX)
 case g5 =>
  go_simp;refine hK.out _ _ (keep_alloc hHeld _) (fun hN => ?_);clear hK K hHeld;have hHeld := hN;clear hN
  try simp only [Act.put, zsa, zsz, zss]
  refine zr (r := 2) (o := ?o12) (by kernel_rfl) ?i12 (fun K hK => ?g12)
  case i12 => simp only [zga, zgs, zgz]; rfl
  case g12 =>
   go_simp;refine hK.out _ _ (keep_alloc hHeld _) (fun hN => ?_);clear hK K hHeld;have hHeld := hN;clear hN
   try simp only [Act.put, zsa, zsz, zss]
   refine zr (r := 6) (o := ?o13) (by kernel_rfl) ?i13 (fun K hK => ?g13)
   case i13 => simp only [zga, zgs, zgz]; rfl
   case g13 =>
    go_simp;refine hK.out _ _ (keep_alloc (keep_alloc (keep_set (p := ⟨RX, 0, none⟩) h1 HNE.out) _) _) (fun hN => ?_);clear hK K hHeld;have hHeld := hN;clear hN
    try simp only [Act.put, zsa, zsz, zss]
    refine wpAnyH_take (i := 7) (oi := ?o14) (v := ?v14) ?i14 (by kernel_rfl) (by kernel_rfl) (by kernel_rfl) ?q14 ?y14 hHeld ?_
    case i14 => simp only [zga, zgs, zgz]; rfl
    case q14 => exact fun _ _ _ h => hQ0 _ _ _ _ _ h
    case y14 => refine .inl ⟨by rfl, ?_⟩; intro w' hSw; (try dsimp only at hSw); go_simp; try with_reducible rfl
    simp only [Act.put, zsa, zsz, zss];refine wpAnyH_done (by kernel_rfl) ?_ _;exact HK.out _ _ _ _ _ _ _ _ _ (r1_C w1 RX R crx frx hRX)

theorem tc_out (w : World) (RX NR NW R N cap cb co : Nat) (ca : Option Addr) (code : List Ins) (z0z z1z z9z z10z z11z z12z z13z z14z z15z z53z z54z : Value) (z4z z5z z6z z7z z8z z19z z20z z21z z22z z23z z24z z25z z26z z27z z28z z29z z30z z31z z32z z33z z34z z35z z36z z37z z38z z39z z40z z41z z42z z43z z44z z45z z46z z47z z48z z49z z50z z51z z52z : Value) (ms : List Nat) (Q0 : Exit → Act → World → Prop) (W : World) (HX : Hid (Q0 (.exit 0) ⟨#[z0z, z1z, .pointer (some ⟨RX, 0, none⟩), .slice (some ⟨NW, 0, none⟩) R R, z4z, z5z, z6z, z7z, z8z, z9z, z10z, z11z, z12z, z13z, z14z, z15z, .slice ca N cap, .int .i64 N, .int .i64 (N : Int), .bool false, z20z, z21z, z22z, z23z, z24z, z25z, z26z, z27z, z28z, z29z, z30z, z31z, z32z, z33z, z34z, z35z, z36z, z37z, z38z, z39z, z40z, z41z, z42z, z43z, z44z, z45z, z46z, z47z, z48z, z49z, z50z, z51z, z52z, z53z, z54z], ms.map mkD⟩ W)) (K : Act → World → Prop) :
  Code.wp prog tcLoop (Exit.then K Q0) ⟨#[z0z, z1z, .pointer (some ⟨RX, 0, none⟩), .slice (some ⟨NW, 0, none⟩) R R, z4z, z5z, z6z, z7z, z8z, z9z, z10z, z11z, z12z, z13z, z14z, z15z, .slice ca N cap, .int .i64 N, .int .i64 (N : Int), z19z, z20z, z21z, z22z, z23z, z24z, z25z, z26z, z27z, z28z, z29z, z30z, z31z, z32z, z33z, z34z, z35z, z36z, z37z, z38z, z39z, z40z, z41z, z42z, z43z, z44z, z45z, z46z, z47z, z48z, z49z, z50z, z51z, z52z, z53z, z54z], ms.map mkD⟩ W := by
 conv => arg 2; whnf
 go_wp2;exact HX.out
theorem tc_loop (w : World) (RX NR NW R N cap cb co : Nat) (ca : Option Addr) (code : List Ins) (z0z z1z z9z z10z z11z z12z z13z z14z z15z z53z z54z : Value) (z4z z5z z6z z7z z8z z19z z20z z21z z22z z23z z24z z25z z26z z27z z28z z29z z30z z31z z32z z33z z34z z35z z36z z37z z38z z39z z40z z41z z42z z43z z44z z45z z46z z47z z48z z49z z50z z51z z52z : Value) (Q0 : Exit → Act → World → Prop) (W : World) (hn : N ≤ 100000) (HCL : Hid (code.length = N)) (HCA : Hid (0 < N → ca = some ⟨cb, co, none⟩)) (HIN : Hid (∀ (i : Nat) x, code[i]? = some x → InsAt w cb (co + i * 9) x)) (HSH : Hid (ShTab w)) (HUS : Hid (∀ x ∈ code, ∀ y ∈ usX x, 0 ≤ y ∧ y < R)) (HWS : Hid (∀ x ∈ code, ∀ y ∈ wrX x, 0 ≤ y ∧ y < R)) (HLU : Hid (∀ i, i ≤ N → (esG usX code i).length ≤ 1000000000000)) (HLW : Hid (∀ i, i ≤ N → (esG wrX code i).length ≤ 1000000000000)) (HB3 : Hid (B3 w RX NR NW)) (HL : Hid (LTc w RX NR NW R N cap cb co ca code 0 [] W))
  (HX : Hid (∀ (ms : List Nat) (z4z z5z z6z z7z z8z z19z z20z z21z z22z z23z z24z z25z z26z z27z z28z z29z z30z z31z z32z z33z z34z z35z z36z z37z z38z z39z z40z z41z z42z z43z z44z z45z z46z z47z z48z z49z z50z z51z z52z : Value) (W' : World), LTc w RX NR NW R N cap cb co ca code N ms W' → Q0 (.exit 0) ⟨#[z0z, z1z, .pointer (some ⟨RX, 0, none⟩), .slice (some ⟨NW, 0, none⟩) R R, z4z, z5z, z6z, z7z, z8z, z9z, z10z, z11z, z12z, z13z, z14z, z15z, .slice ca N cap, .int .i64 N, .int .i64 (N : Int), z19z, z20z, z21z, z22z, z23z, z24z, z25z, z26z, z27z, z28z, z29z, z30z, z31z, z32z, z33z, z34z, z35z, z36z, z37z, z38z, z39z, z40z, z41z, z42z, z43z, z44z, z45z, z46z, z47z, z48z, z49z, z50z, z51z, z52z, z53z, z54z], ms.map mkD⟩ W')) :
  Code.wp prog (Code.loop tcLoop) Q0 ⟨#[z0z, z1z, .pointer (some ⟨RX, 0, none⟩), .slice (some ⟨NW, 0, none⟩) R R, z4z, z5z, z6z, z7z, z8z, z9z, z10z, z11z, z12z, z13z, z14z, z15z, .slice ca N cap, .int .i64 N, .int .i64 0, z19z, z20z, z21z, z22z, z23z, z24z, z25z, z26z, z27z, z28z, z29z, z30z, z31z, z32z, z33z, z34z, z35z, z36z, z37z, z38z, z39z, z40z, z41z, z42z, z43z, z44z, z45z, z46z, z47z, z48z, z49z, z50z, z51z, z52z, z53z, z54z], []⟩ W := by
 refine wp_loop (ITc w RX NR NW R N cap cb co ca code z0z z1z z9z z10z z11z z12z z13z z14z z15z z53z z54z) (muTc N) ⟨0, [], z4z, z5z, z6z, z7z, z8z, z19z, z20z, z21z, z22z, z23z, z24z, z25z, z26z, z27z, z28z, z29z, z30z, z31z, z32z, z33z, z34z, z35z, z36z, z37z, z38z, z39z, z40z, z41z, z42z, z43z, z44z, z45z, z46z, z47z, z48z, z49z, z50z, z51z, z52z, by omega, HL.out, rfl⟩ ?_;rintro a W2 ⟨i, ms, u4, u5, u6, u7, u8, u19, u20, u21, u22, u23, u24, u25, u26, u27, u28, u29, u30, u31, u32, u33, u34, u35, u36, u37, u38, u39, u40, u41, u42, u43, u44, u45, u46, u47, u48, u49, u50, u51, u52, hi, hL, rfl⟩
 by_cases hin : i < N
 ·exact tc_step w RX NR NW R N cap cb co ca code z0z z1z z9z z10z z11z z12z z13z z14z z15z z53z z54z u4 u5 u6 u7 u8 u19 u20 u21 u22 u23 u24 u25 u26 u27 u28 u29 u30 u31 u32 u33 u34 u35 u36 u37 u38 u39 u40 u41 u42 u43 u44 u45 u46 u47 u48 u49 u50 u51 u52 i ms Q0 W2 hn HCL HCA HIN HSH HUS HWS HLU HLW HB3 hL hin
 ·obtain rfl : i = N := by omega
  exact tc_out w RX NR NW R i cap cb co ca code z0z z1z z9z z10z z11z z12z z13z z14z z15z z53z z54z u4 u5 u6 u7 u8 u19 u20 u21 u22 u23 u24 u25 u26 u27 u28 u29 u30 u31 u32 u33 u34 u35 u36 u37 u38 u39 u40 u41 u42 u43 u44 u45 u46 u47 u48 u49 u50 u51 u52 ms Q0 W2 (HX.out ms u4 u5 u6 u7 u8 (.bool false) u20 u21 u22 u23 u24 u25 u26 u27 u28 u29 u30 u31 u32 u33 u34 u35 u36 u37 u38 u39 u40 u41 u42 u43 u44 u45 u46 u47 u48 u49 u50 u51 u52 W2 hL) _
def retTc (R N : Nat) (code : List Ins) (w : World) : Ending → World → Prop := fun e W => ∃ NR NW rr rw, e = .returned (.tuple #[.slice (some ⟨NR, 0, none⟩) R R, .slice (some ⟨NW, 0, none⟩) R R]) ∧ NI w.heap.size NR R rr (gOf (esG usX code N)) W ∧ NI w.heap.size NW R rw (gOf (esG wrX code N)) W ∧ Below w.heap.size w W ∧ w.heap.size ≤ NR ∧ w.heap.size ≤ NW
theorem touches_walk (w : World) (fname : ByteArray) (pv : Value) (frm ent : Int) (R N cap cb co : Nat) (ca : Option Addr) (code : List Ins) (hpv : ∃ pa pn pc, pv = .slice pa pn pc) (hR : R ≤ 1000000) (hn : N ≤ 100000) (HCL : Hid (code.length = N)) (HCA : Hid (0 < N → ca = some ⟨cb, co, none⟩)) (HIN : Hid (∀ (i : Nat) x, code[i]? = some x → InsAt w cb (co + i * 9) x)) (HSH : Hid (ShTab w)) (HUS : Hid (∀ x ∈ code, ∀ y ∈ usX x, 0 ≤ y ∧ y < R)) (HWS : Hid (∀ x ∈ code, ∀ y ∈ wrX x, 0 ≤ y ∧ y < R)) (HLU : Hid (∀ i, i ≤ N → (esG usX code i).length ≤ 1000000000000)) (HLW : Hid (∀ i, i ≤ N → (esG wrX code i).length ≤ 1000000000000)) :
  Calls prog 38 #[.agg #[.string fname, pv, .int .i64 (R : Int), .int .i64 frm, .int .i64 ent, .slice ca N cap]] w (retTc R N code w) := by
 obtain ⟨pa, pn, pc, rfl⟩ : ∃ pa pn pc, pv = .slice pa pn pc := hpv;refine callsIn_wide.1 (callsIn_of_wp_marks (n := 3) func38 rfl trivial ?_);simp only [ntmps38, List.size_toArray, List.length_cons, List.length_nil, Nat.reduceAdd, Nat.reduceSub, Array.replicate_succ, Array.replicate_zero, List.push_toArray, List.append_toArray, List.nil_append, List.cons_append];refine wpIn_wide.2 ?_
 go_upto_region 1 with fail
 have hfz : ((w.alloc (.cells #[.string fname, .slice pa pn pc, .int .i64 (R : Int), .int .i64 frm, .int .i64 ent, .slice ca N cap] 25)).alloc (.cells #[.slice none 0 0] 28)).frozen? ⟨w.heap.size + 1, 0, none⟩ = false := frozen_new _ _ _ _ (World.size_alloc _ _);refine wp_calm ?_;refine tc_r1 w.heap.size (w.heap.size + 1) R _ _ _ _ _ _ _ _ _ _ _ _ _ _ _ _ _ _ _ _ _ _ _ _ _ _ _ _ _ _ _ _ _ _ _ _ _ _ _ _ _ _ _ _ _ _ _ _ _ _ _ _ _  _ _ _ (fun c a dd v x h => by cases h.1) hR (by simp) (by simp) hfz (by simp) (hidF (by omega)) ?_;intro y9 y10 y11 y12 y13 y14 NR NW W hr1;refine ⟨rfl, ?_⟩;have hsz : ((w.alloc (.cells #[.string fname, .slice pa pn pc, .int .i64 (R : Int), .int .i64 frm, .int .i64 ent, .slice ca N cap] 25)).alloc (.cells #[.slice none 0 0] 28)).heap.size = w.heap.size + 2 := by simp
 have hbw : Below w.heap.size w ((w.alloc (.cells #[.string fname, .slice pa pn pc, .int .i64 (R : Int), .int .i64 frm, .int .i64 ent, .slice ca N cap] 25)).alloc (.cells #[.slice none 0 0] 28)) := bel_alloc (bel_alloc (Below.refl _ _) _) _
 have c5 : W.cell? ⟨w.heap.size, 5, none⟩ = some (.slice ca N cap) := by
  refine cell_of (W := ((w.alloc (.cells #[.string fname, .slice pa pn pc, .int .i64 (R : Int), .int .i64 frm, .int .i64 ent, .slice ca N cap] 25)).alloc (.cells #[.slice none 0 0] 28))) (by simp) (fun h => hr1.block _ h (by omega))
 have hbW : Below w.heap.size w W := ⟨hr1.os.trans hbw.os, hr1.tape.trans hbw.tape, hr1.output.trans hbw.output, by rw [hr1.size, hsz]; omega, fun k hk => (hr1.block k (by omega) (by omega)).trans (hbw.block k hk)⟩;have hlr := hr1.lr;have hlw := hr1.lw;rw [hsz] at hlr hlw
 have HL0 : Hid (LTc w (w.heap.size + 1) NR NW R N cap cb co ca code 0 [] W) := by
  refine ⟨fun _ => .slice none 0 0, fun _ => .slice none 0 0, ⟨?_, ?_, ?_, ?_, ?_, hbW, hr1.rx, hr1.rz, ?_, ?_, ?_⟩, List.nodup_nil, fun d hd => by cases hd⟩
  ·exact NI.ext (NI.start _ _ _ _ hr1.cr) (fun i => by simp [gOf, esG])
  ·exact NI.ext (NI.start _ _ _ _ hr1.cw) (fun i => by simp [gOf, esG])
  ·rintro k ⟨j, _, e⟩; cases e
  ·rintro ⟨j, _, e⟩; cases e
  ·rintro ⟨j, _, e⟩; cases e
  ·rintro ⟨j, _, e⟩; cases e
  ·rintro ⟨j, _, e⟩; cases e
  ·rw [hr1.size, hsz]; omega
 have HB3 : Hid (B3 w (w.heap.size + 1) NR NW) := ⟨hr1.ne, by omega, by omega, by omega, by omega, by omega⟩;clear hr1 hfz hsz hbw hbW hlr hlw;go_wp2;refine tc_loop w (w.heap.size + 1) NR NW R N cap cb co ca code _ _ _ _ _ _ _ _ _ _ _ _ _ _ _ _ _ _ _ _ _ _ _ _ _ _ _ _ _ _ _ _ _ _ _ _ _ _ _ _ _ _ _ _ _ _ _ _ _ _  _ _ hn HCL HCA HIN HSH HUS HWS HLU HLW HB3 HL0 ?_;intro ms v4 v5 v6 v7 v8 v19 v20 v21 v22 v23 v24 v25 v26 v27 v28 v29 v30 v31 v32 v33 v34 v35 v36 v37 v38 v39 v40 v41 v42 v43 v44 v45 v46 v47 v48 v49 v50 v51 v52 W' hL;obtain ⟨rr, rw, ht2, hmk⟩ := hL;have HT := hidF ht2;have HM := hidF hmk;have hrx := ht2.rx;have hrz := ht2.rz;clear ht2 hmk;go_wp2;refine leaves_marks ms _ HM.out.1 ?_ ?_
 ·intro d hd
  obtain ⟨q1, q2⟩ := HM.out.2 d hd;rw [gset_otherF ?_]
  ·exact q1
  ·intro e
   rw [e] at q1;simp [World.cell?, q1] at hrx
 ·intro W6 h1 h2 h3 h4 h5
  have hd1 : w.heap.size + 1 ∉ ms := fun hd => by
   have q1 := (HM.out.2 _ hd).1;simp [World.cell?, q1] at hrx
  have c6 : W6.cell? ⟨w.heap.size + 1, 0, none⟩ = some (.slice (some ⟨NR, 0, none⟩) R R) := by
   rw [World.cell?_of_block (h1 _ hd1)];exact World.cell?_setCell_same _ _ _ hrx
  have hk : ∀ k, k ∉ ms → k ≠ w.heap.size + 1 → W6.heap[k]? = W'.heap[k]? := fun k q1 q2 => (h1 k q1).trans (gset_otherF q2);have ht := HT.out;have hb := ht.bel;have hs6 : W6.heap.size = W'.heap.size := by rw [h5, gsize_setF]
  have hni : ∀ {NB : Nat} {rv : Nat → Value} {g : Nat → List Nat}, NI w.heap.size NB R rv g W' → ¬ Ob R rv (w.heap.size + 1) → w.heap.size + 1 ≠ NB → NI w.heap.size NB R rv g W6 := fun h q1 q2 => h.blk (fun k hk2 => hk k (fun hd => by
   have hq := h.ndef (HM.out.2 k hd).1
   rcases hk2 with ⟨h0, e⟩ | ho
   ·exact hq.1 h0 e
   ·exact hq.2 ho) (fun e => by
   subst e
   rcases hk2 with ⟨h0, e⟩ | ho
   ·exact q2 e
   ·exact q1 ho))
  refine ⟨_, (by simp [results, results38, go_sem, c6]), NR, NW, rr, rw, rfl, hni ht.nr ht.x1 HB3.out.b, hni ht.nw ht.x2 HB3.out.c, ⟨h2.trans hb.os, h3.trans hb.tape, h4.trans hb.output, by rw [hs6]; exact hb.size, fun k hk3 => (hk k (fun hd => by have := (HM.out.2 _ hd).2.1; omega) (by omega)).trans (hb.block k hk3)⟩, HB3.out.d, HB3.out.e⟩
end Go.Proofs.YtfeglcpipcjaeaaGreatDoor
namespace Go.Proofs.YtfeglcpipcjaeaaGreatDoor
open Go.ChangeShapes Go.WideShapes Go.ChangeAt Go.RowKit Go.Proofs.Tryz
set_option linter.unusedSimpArgs false
set_option linter.unusedVariables false
set_option maxRecDepth 100000
set_option maxHeartbeats 8000000

theorem bk_out (w : World) (LX NB N cap cb co : Nat) (ca : Option Addr) (code : List Ins) (z0z z1z z2z z7z z8z z9z z31z : Value) (z4z z5z z6z z13z z14z z15z z16z z17z z18z z19z z20z z21z z22z z23z z24z z25z z26z z27z z28z z29z z30z : Value) (ms : List Nat) (Q0 : Exit → Act → World → Prop) (W : World) (HX : Hid (Q0 (.exit 0) ⟨#[z0z, z1z, z2z, .pointer (some ⟨LX, 0, none⟩), z4z, z5z, z6z, z7z, z8z, z9z, .slice ca N cap, .int .i64 N, .int .i64 (N : Int), .bool false, z14z, z15z, z16z, z17z, z18z, z19z, z20z, z21z, z22z, z23z, z24z, z25z, z26z, z27z, z28z, z29z, z30z, z31z], ms.map mkD⟩ W)) (K : Act → World → Prop) :
  Code.wp prog bkLoop (Exit.then K Q0) ⟨#[z0z, z1z, z2z, .pointer (some ⟨LX, 0, none⟩), z4z, z5z, z6z, z7z, z8z, z9z, .slice ca N cap, .int .i64 N, .int .i64 (N : Int), z13z, z14z, z15z, z16z, z17z, z18z, z19z, z20z, z21z, z22z, z23z, z24z, z25z, z26z, z27z, z28z, z29z, z30z, z31z], ms.map mkD⟩ W := by
 conv => arg 2; whnf
 go_wp2;exact HX.out
theorem bk_loop (w : World) (LX NB N cap cb co : Nat) (ca : Option Addr) (code : List Ins) (z0z z1z z2z z7z z8z z9z z31z : Value) (z4z z5z z6z z13z z14z z15z z16z z17z z18z z19z z20z z21z z22z z23z z24z z25z z26z z27z z28z z29z z30z : Value) (Q0 : Exit → Act → World → Prop) (W : World) (hn : N ≤ 100000) (HCL : Hid (code.length = N)) (HCA : Hid (0 < N → ca = some ⟨cb, co, none⟩)) (HIN : Hid (∀ (i : Nat) x, code[i]? = some x → InsAt w cb (co + i * 9) x)) (HSX : Hid (∀ x ∈ code, ∀ y ∈ sxF x, 0 ≤ y ∧ y < N)) (HNE : Hid (LX ≠ NB ∧ w.heap.size ≤ NB)) (HL : Hid (LBk w LX NB N cap cb co ca code 0 [] W))
  (HX : Hid (∀ (ms : List Nat) (z4z z5z z6z z13z z14z z15z z16z z17z z18z z19z z20z z21z z22z z23z z24z z25z z26z z27z z28z z29z z30z : Value) (W' : World), LBk w LX NB N cap cb co ca code N ms W' → Q0 (.exit 0) ⟨#[z0z, z1z, z2z, .pointer (some ⟨LX, 0, none⟩), z4z, z5z, z6z, z7z, z8z, z9z, .slice ca N cap, .int .i64 N, .int .i64 (N : Int), z13z, z14z, z15z, z16z, z17z, z18z, z19z, z20z, z21z, z22z, z23z, z24z, z25z, z26z, z27z, z28z, z29z, z30z, z31z], ms.map mkD⟩ W')) :
  Code.wp prog (Code.loop bkLoop) Q0 ⟨#[z0z, z1z, z2z, .pointer (some ⟨LX, 0, none⟩), z4z, z5z, z6z, z7z, z8z, z9z, .slice ca N cap, .int .i64 N, .int .i64 0, z13z, z14z, z15z, z16z, z17z, z18z, z19z, z20z, z21z, z22z, z23z, z24z, z25z, z26z, z27z, z28z, z29z, z30z, z31z], []⟩ W := by
 refine wp_loop (IBk w LX NB N cap cb co ca code z0z z1z z2z z7z z8z z9z z31z) (muBk N) ⟨0, [], z4z, z5z, z6z, z13z, z14z, z15z, z16z, z17z, z18z, z19z, z20z, z21z, z22z, z23z, z24z, z25z, z26z, z27z, z28z, z29z, z30z, by omega, HL.out, rfl⟩ ?_;rintro a W2 ⟨i, ms, u4, u5, u6, u13, u14, u15, u16, u17, u18, u19, u20, u21, u22, u23, u24, u25, u26, u27, u28, u29, u30, hi, hL, rfl⟩
 by_cases hin : i < N
 ·exact bk_step w LX NB N cap cb co ca code z0z z1z z2z z7z z8z z9z z31z u4 u5 u6 u13 u14 u15 u16 u17 u18 u19 u20 u21 u22 u23 u24 u25 u26 u27 u28 u29 u30 i ms Q0 W2 hn HCL HCA HIN HSX HNE hL hin
 ·obtain rfl : i = N := by omega
  exact bk_out w LX NB i cap cb co ca code z0z z1z z2z z7z z8z z9z z31z u4 u5 u6 u13 u14 u15 u16 u17 u18 u19 u20 u21 u22 u23 u24 u25 u26 u27 u28 u29 u30 ms Q0 W2 (HX.out ms u4 u5 u6 (.bool false) u14 u15 u16 u17 u18 u19 u20 u21 u22 u23 u24 u25 u26 u27 u28 u29 u30 W2 hL) _
def retG (N : Nat) (g : Nat → List Nat) (w : World) : Ending → World → Prop := fun e W => ∃ NB rv, e = .returned (.slice (some ⟨NB, 0, none⟩) N N) ∧ NI w.heap.size NB N rv g W ∧ Below w.heap.size w W ∧ w.heap.size ≤ NB
theorem backward_walk (w : World) (N cap cb co : Nat) (ca : Option Addr) (code : List Ins) (hn : N ≤ 100000) (HCL : Hid (code.length = N)) (HCA : Hid (0 < N → ca = some ⟨cb, co, none⟩)) (HIN : Hid (∀ (i : Nat) x, code[i]? = some x → InsAt w cb (co + i * 9) x)) (HSX : Hid (∀ x ∈ code, ∀ y ∈ sxF x, 0 ≤ y ∧ y < N)) :
  Calls prog 40 #[.slice ca N cap] w (retG N (gOf (esT code N)) w) := by
 refine callsIn_wide.1 (callsIn_of_wp_marks (n := 3) func40 rfl trivial ?_);simp only [ntmps40, List.size_toArray, List.length_cons, List.length_nil, Nat.reduceAdd, Nat.reduceSub, Array.replicate_succ, Array.replicate_zero, List.push_toArray, List.append_toArray, List.nil_append, List.cons_append];refine wpIn_wide.2 ?_;have mk1 := mk_rows N (by omega)
 have hL0 : LBk w (w.heap.size + 1) w.heap.size N cap cb co ca code 0 [] ((w.alloc (.cells (madeCells #[.slice none 0 0] N) 22)).alloc (.cells #[.slice (some ⟨w.heap.size, 0, none⟩) N N] 28)) := by
  refine ⟨fun _ => .slice none 0 0, ?_, bel_alloc (bel_alloc (Below.refl _ _) _) _, cell_new2 _ _ _ _ (World.size_alloc _ _), fun k _ => by simp [Value.ownBlock], List.nodup_nil, fun d hd => by cases hd⟩;refine NI.ext (NI.start _ _ _ _ (fun i hi => ?_)) (fun i => by simp [gOf, esT]);have := made_at w (.slice none 0 0) N 22 i hi;exact ⟨keep_alloc this.1 _, keep_frozen (bel_alloc (Below.refl _ _) _) this.1 this.2⟩
 have HL0 := hidF hL0;clear hL0;go_wp2;refine bk_loop w (w.heap.size + 1) w.heap.size N cap cb co ca code _ _ _ _ _ _ _ _ _ _ _ _ _ _ _ _ _ _ _ _ _ _ _ _ _ _ _ _  _ _ hn HCL HCA HIN HSX ⟨by omega, Nat.le_refl _⟩ HL0 ?_;intro ms v4 v5 v6 v13 v14 v15 v16 v17 v18 v19 v20 v21 v22 v23 v24 v25 v26 v27 v28 v29 v30 W' hL;obtain ⟨rv, hni, hbw, hlx, hfl, hms, hdf⟩ := hL;have HNI := hidF hni;have HBW := hidF hbw;have HMS := hidF hms;have HDF := hidF hdf;clear hni hbw hfl hms hdf;go_wp2;refine leaves_marks ms W' HMS.out (fun d hd => (HDF.out d hd).1) ?_;intro W6 h1 h2 h3 h4 h5;have hfb := HBW.out;refine ⟨_, (by simp [results, results40, go_sem]), w.heap.size, rv, rfl, HNI.out.blk (fun k hk => h1 k (fun hd => ?_)), ⟨h2.trans hfb.os, h3.trans hfb.tape, h4.trans hfb.output, by rw [h5]; exact hfb.size, fun k hk => (h1 k (fun hd => by have := (HDF.out _ hd).2; omega)).trans (hfb.block k hk)⟩, Nat.le_refl _⟩;have q1 := (HDF.out k hd).1
 rcases hk with ⟨h0, rfl⟩ | ⟨j, hj, e⟩
 ·have hc := (HNI.out.cell 0 h0).1
  simp [World.cell?, q1] at hc
 ·rcases (HNI.out.own j hj).2 with ⟨h1, _⟩ | ⟨g, cap, cur, h1, h2, h3, h4⟩
  ·rw [h1] at e; cases e
  ·rw [h1] at e
   have hg : g = k := by simpa [Value.ownBlock] using e
   rw [hg, q1] at h3
   cases h3
end Go.Proofs.YtfeglcpipcjaeaaGreatDoor
namespace Go.Proofs.YtfeglcpipcjaeaaGreatDoor
open Go.ChangeShapes Go.WideShapes Go.ChangeAt Go.RowKit Go.Proofs.Tryz
set_option linter.unusedSimpArgs false
set_option linter.unusedVariables false
set_option maxRecDepth 100000
set_option maxHeartbeats 8000000

theorem NI.base {B B' NB n : Nat} {rv : Nat → Value} {g : Nat → List Nat} {W : World} (h : NI B NB n rv g W) (hb : B' ≤ B) : NI B' NB n rv g W :=
 ⟨h.cell, fun i hi => by
  refine ⟨(h.own i hi).1, ?_⟩
  rcases (h.own i hi).2 with z | ⟨b, cap, cur, h1, h2, h3⟩
  ·exact .inl z
  ·exact .inr ⟨b, cap, cur, h1, Nat.le_trans hb h2, h3⟩, h.ne, h.dis⟩
structure CodeOk (R N : Nat) (code : List Ins) : Prop where
 len : code.length = N
 us : ∀ x ∈ code, ∀ y ∈ usX x, 0 ≤ y ∧ y < R
 wr : ∀ x ∈ code, ∀ y ∈ wrX x, 0 ≤ y ∧ y < R
 sx : ∀ x ∈ code, ∀ y ∈ sxF x, 0 ≤ y ∧ y < N
 lu : ∀ i, i ≤ N → (esG usX code i).length ≤ 1000000000000
theorem wrX_length (x : Ins) : (wrX x).length ≤ 1 := by unfold wrX; split <;> simp
theorem esW_length (code : List Ins) : ∀ i, (esG wrX code i).length ≤ i
 | 0 => by simp [esG]
 | i + 1 => by
  have h1 := esW_length code i
  have h2 : (edN i (((code[i]?).map wrX).getD [])).length ≤ 1 := by
   unfold edN;rw [List.length_map]
   cases code[i]? with
   | none => simp
   | some x => simpa using wrX_length x
  unfold esG;rw [List.length_append]
  omega
theorem world_lv {W3 : World} {NP N : Nat} : ∀ k, k < W3.heap.size → ((((W3.alloc (.cells (madeCells #[.bool false] N) 4)).alloc (.cells #[.slice (some ⟨NP, 0, none⟩) N N, .slice (some ⟨W3.heap.size, 0, none⟩) N N] 101)).alloc (.cells (madeCells #[.slice none 0 0] N) 22)).alloc (.cells #[.slice (some ⟨W3.heap.size + 2, 0, none⟩) N N] 28)).heap[k]? = W3.heap[k]? := fun k hk => by
 rw [alloc_old (by simp; omega), alloc_old (by simp; omega), alloc_old (by simp; omega), alloc_old hk]
theorem live_walk (w : World) (fname : ByteArray) (pv : Value) (frm ent : Int) (R N cap cb co : Nat) (ca : Option Addr) (code : List Ins) (hpv : ∃ pa pn pc, pv = .slice pa pn pc) (hR : R ≤ 1000000) (hn : N ≤ 100000) (HOK : Hid (CodeOk R N code)) (HCA : Hid (0 < N → ca = some ⟨cb, co, none⟩)) (HIN : Hid (∀ (i : Nat) x, code[i]? = some x → InsAt w cb (co + i * 9) x)) (HSH : Hid (ShTab w)) :
  Calls prog 25 #[.agg #[.string fname, pv, .int .i64 (R : Int), .int .i64 frm, .int .i64 ent, .slice ca N cap]] w (retG N (lvL usX wrX sxF code R) w) := by
 obtain ⟨pa, pn, pc, rfl⟩ := hpv;have HLW : Hid (∀ i, i ≤ N → (esG wrX code i).length ≤ 1000000000000) := fun i hi => by have := esW_length code i; omega
 refine callsIn_wide.1 (callsIn_of_wp_marks (n := 3) func25 rfl trivial ?_);simp only [ntmps25, List.size_toArray, List.length_cons, List.length_nil, Nat.reduceAdd, Nat.reduceSub, Array.replicate_succ, Array.replicate_zero, List.push_toArray, List.append_toArray, List.nil_append, List.cons_append];refine wpIn_wide.2 ?_;have mk1 := mk_rows N (by omega);obtain ⟨W1, hW1⟩ : ∃ W1, w.alloc (.cells #[.string fname, .slice pa pn pc, .int .i64 (R : Int), .int .i64 frm, .int .i64 ent, .slice ca N cap] 25) = W1 := ⟨_, rfl⟩;have hb1 : Below w.heap.size w W1 := by rw [← hW1]; exact bel_alloc (Below.refl _ _) _
 have hs1 : W1.heap.size = w.heap.size + 1 := by rw [← hW1]; exact World.size_alloc _ _
 have d5 : W1.cell? ⟨w.heap.size, 5, none⟩ = some (.slice ca N cap) := by rw [← hW1]; simp
 have d0 : W1.cell? ⟨w.heap.size, 0, none⟩ = some (.string fname) := by rw [← hW1]; simp
 have d1 : W1.cell? ⟨w.heap.size, 1, none⟩ = some (.slice pa pn pc) := by rw [← hW1]; simp
 have d2 : W1.cell? ⟨w.heap.size, 2, none⟩ = some (.int .i64 (R : Int)) := by rw [← hW1]; simp
 have d3 : W1.cell? ⟨w.heap.size, 3, none⟩ = some (.int .i64 frm) := by rw [← hW1]; simp
 have d4 : W1.cell? ⟨w.heap.size, 4, none⟩ = some (.int .i64 ent) := by rw [← hW1]; simp
 have HB1 := hidF hb1;clear hb1
 go_upto_region 2 with (go_at_call 38; refine (touches_walk W1 fname _ frm ent R N cap cb co ca code ⟨_, _, _, rfl⟩ hR hn HOK.out.len HCA (fun i x hx => (HIN.out i x hx).keep HB1.out) (HSH.out.keep HB1.out) HOK.out.us HOK.out.wr HOK.out.lu HLW).mono ?_; rintro e W2 ⟨NR, NW, rr, rw, rfl, niR, niW, hb2, lr, lw⟩)
 clear hW1;have hB2 : Below w.heap.size w W2 := bel_trans HB1.out hb2;have e5 := keep_cell hb2 d5;have e2 := keep_cell hb2 d2;have hs2 := hb2.size;have HR2 := hidF (And.intro niR (And.intro niW hB2));clear niR niW hb2 hB2 d0 d1 d2 d3 d4 d5 HB1
 go_upto_region 3 with (first | (go_at_call 40; refine (backward_walk W2 N cap cb co ca code hn HOK.out.len HCA (fun i x hx => (HIN.out i x hx).keep HR2.out.2.2) HOK.out.sx).mono ?_; rintro e W3 ⟨NP, rp, rfl, niP, hb3, lp⟩) | (go_at_call 39; refine (newSearch_any NP N N (by omega) W3).mono ?_; rintro e W4 ⟨rfl, rfl⟩))
 have hB3 : Below w.heap.size w W3 := bel_trans HR2.out.2.2 hb3;have f5 := keep_cell hb3 e5;have f2 := keep_cell hb3 e2;have hs3 := hb3.size;have HU : Hid (∀ r, (gOf (esG usX code N) r).length ≤ 1000000000000) := fun r => Nat.le_trans (gOf_length _ _) (HOK.out.lu N (Nat.le_refl _));have HW : Hid (∀ r, (gOf (esG wrX code N) r).length ≤ 1000000000000) := fun r => Nat.le_trans (gOf_length _ _) (HLW.out N (Nat.le_refl _));have hro1 := (HR2.out.1.of hb3).ro (fun i _ => HU.out i);have hro2 := (HR2.out.2.1.of hb3).ro (fun i _ => HW.out i);have hro3 := niP.ro (fun i _ => Nat.le_trans (gOf_length _ _) (by have := esT_length code N; omega));rw [show esT code N = esG sxF code N from esT_esG code N] at hro3
 have HF : Hid (LvF ((((W3.alloc (.cells (madeCells #[.bool false] N) 4)).alloc (.cells #[.slice (some ⟨NP, 0, none⟩) N N, .slice (some ⟨W3.heap.size, 0, none⟩) N N] 101)).alloc (.cells (madeCells #[.slice none 0 0] N) 22)).alloc (.cells #[.slice (some ⟨W3.heap.size + 2, 0, none⟩) N N] 28)) (W3.heap.size + 1) NP W3.heap.size (W3.heap.size + 3) (W3.heap.size + 2) NR NW N R code rr rw rp) := by
  refine ⟨?_, ?_, cell_new2 _ _ _ _ (by simp), hro1.of world_lv, hro2.of world_lv, hro3.of world_lv, ⟨by omega, by omega, by omega, by omega, by omega⟩, by simp⟩
  ·exact keep_alloc (keep_alloc (by simp) _) _
  ·exact keep_alloc (keep_alloc (by simp) _) _
 have HL0 : Hid (LLv ((((W3.alloc (.cells (madeCells #[.bool false] N) 4)).alloc (.cells #[.slice (some ⟨NP, 0, none⟩) N N, .slice (some ⟨W3.heap.size, 0, none⟩) N N] 101)).alloc (.cells (madeCells #[.slice none 0 0] N) 22)).alloc (.cells #[.slice (some ⟨W3.heap.size + 2, 0, none⟩) N N] 28)) (W3.heap.size + 1) NP W3.heap.size (W3.heap.size + 3) (W3.heap.size + 2) NR NW N R code rr rw rp 0 [] ((((W3.alloc (.cells (madeCells #[.bool false] N) 4)).alloc (.cells #[.slice (some ⟨NP, 0, none⟩) N N, .slice (some ⟨W3.heap.size, 0, none⟩) N N] 101)).alloc (.cells (madeCells #[.slice none 0 0] N) 22)).alloc (.cells #[.slice (some ⟨W3.heap.size + 2, 0, none⟩) N N] 28))) := by
  refine ⟨fun _ => .slice none 0 0, fun _ => false, NI.ext (NI.start _ _ _ _ (fun i hi => ?_)) (fun i => by simp [lvL]), fun i hi => ?_, ⟨rfl, rfl, rfl, Nat.le_refl _, fun _ _ _ _ => rfl⟩, List.nodup_nil, fun d hd => by cases hd⟩
  ·have := made_at ((W3.alloc (.cells (madeCells #[.bool false] N) 4)).alloc (.cells #[.slice (some ⟨NP, 0, none⟩) N N, .slice (some ⟨W3.heap.size, 0, none⟩) N N] 101)) (.slice none 0 0) N 22 i hi
   simp only [World.size_alloc] at this;exact ⟨keep_alloc this.1 _, keep_frozen (bel_alloc (Below.refl _ _) _) this.1 this.2⟩
  ·have := made_at W3 (.bool false) N 4 i hi
   exact ⟨keep_alloc (keep_alloc (keep_alloc this.1 _) _) _, keep_frozen (bel_alloc (bel_alloc (bel_alloc (Below.refl _ _) _) _) _) this.1 this.2⟩
 have HB3 := hidF hB3;have hw3 : w.heap.size < W3.heap.size := block_lt_of_cell f5;clear hro1 hro2 hro3 niP hb3 hB3 e5 e2 lp HR2;have g2 : ((((W3.alloc (.cells (madeCells #[.bool false] N) 4)).alloc (.cells #[.slice (some ⟨NP, 0, none⟩) N N, .slice (some ⟨W3.heap.size, 0, none⟩) N N] 101)).alloc (.cells (madeCells #[.slice none 0 0] N) 22)).alloc (.cells #[.slice (some ⟨W3.heap.size + 2, 0, none⟩) N N] 28)).cell? ⟨w.heap.size, 2, none⟩ = some (.int .i64 (R : Int)) := keep_alloc (keep_alloc (keep_alloc (keep_alloc f2 _) _) _) _
 go_upto_region 4 with fail
 refine gwp_namedF (fun W => W = ((((W3.alloc (.cells (madeCells #[.bool false] N) 4)).alloc (.cells #[.slice (some ⟨NP, 0, none⟩) N N, .slice (some ⟨W3.heap.size, 0, none⟩) N N] 101)).alloc (.cells (madeCells #[.slice none 0 0] N) 22)).alloc (.cells #[.slice (some ⟨W3.heap.size + 2, 0, none⟩) N N] 28))) (by rfl) ?_;intro W0 hW0;rw [← hW0] at HF HL0 g2;have hb0 : Below w.heap.size w W0 := by rw [hW0]; exact bel_trans HB3.out (bel_alloc (bel_alloc (bel_alloc (bel_alloc (Below.refl _ _) _) _) _) _)
 have hs0 : W0.heap.size = W3.heap.size + 4 := by rw [hW0]; simp
 have HB0 := hidF hb0;clear hb0 hW0 HB3 f5 f2;go_wp2;refine lv_loop W0 (W3.heap.size + 1) NP W3.heap.size (W3.heap.size + 3) (W3.heap.size + 2) NR NW N R code rr rw rp _ _ _ _ _ _ _ _ _ _ _ _ _ _ _ _ _ _ _ _ _ _ _ _ _ _ _ _ _ _ _ _ _ _ _ _ _ _ _ _ _ _ _ _ _ _ _ _ _ _ _ _ _ _  _ _ hn hR HF HOK.out.len HU HW ⟨fun x hx y hy => (HOK.out.us x hx y hy).1, fun x hx y hy => (HOK.out.wr x hx y hy).1, fun x hx y hy => (HOK.out.sx x hx y hy).1⟩ HOK.out.sx HL0 ?_;intro ms v7 v8 v25 v26 v27 v28 v29 v30 v31 v32 v33 v34 v35 v36 v37 v38 v39 v40 v41 v42 v43 v44 v45 v46 v47 v48 v49 v50 v51 v52 v53 v54 v55 v56 v57 v58 W' hL;obtain ⟨rv, m, hni, hmt, hag, hmk⟩ := hL;have hlx : W'.cell? ⟨W3.heap.size + 3, 0, none⟩ = some (.slice (some ⟨W3.heap.size + 2, 0, none⟩) N N) := cell_of HF.out.lx (fun h => hag.block _ h HF.out.a.2.2.1 HF.out.a.2.2.2.1);have HNI := hidF hni;have HAG := hidF hag;have HMK := hidF hmk;clear hni hmt hag hmk g2;go_wp2;refine leaves_marks ms W' HMK.out.1 (fun d hd => (HMK.out.2 d hd).1) ?_;intro W6 h1 h2 h3 h4 h5;have hb := HB0.out;have ha := HAG.out;refine ⟨_, (by simp [results, results25, go_sem]), W3.heap.size + 2, rv, rfl, ?_, ⟨h2.trans (ha.os.trans hb.os), h3.trans (ha.tape.trans hb.tape), h4.trans (ha.output.trans hb.output), by rw [h5]; exact Nat.le_trans hb.size ha.size, fun k hk => (h1 k (fun hd => by have := (HMK.out.2 _ hd).2; omega)).trans ((ha.block k (by omega) (by omega) (by omega)).trans (hb.block k hk))⟩, by omega⟩
 have hni : NI W0.heap.size (W3.heap.size + 2) N rv (lvL usX wrX sxF code R) W6 := HNI.out.blk (fun k hk => h1 k (fun hd => by
  have hq := HNI.out.ndef (HMK.out.2 k hd).1
  rcases hk with ⟨h0, e⟩ | ho
  ·exact hq.1 h0 e
  ·exact hq.2 ho))
 exact hni.base (by omega)
end Go.Proofs.YtfeglcpipcjaeaaGreatDoor
