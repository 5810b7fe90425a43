/- Package flow: the greatest first, each as far as edges lead: the loop's round. -/
import Derived.Test.YtiigfggebpmlnaaGreatDoorFlRound
namespace Go.Proofs.YtiigfggebpmlnaaGreatDoor
open Go.ChangeShapes Go.WideShapes Go.ChangeAt Go.RowKit
set_option linter.unusedSimpArgs false
set_option linter.unusedVariables false

noncomputable def svLoop3 : Code := (((Tryz.f15.body.map loopsOf).getD [])[2]?).getD .skip
/-- What lies still while the search goes on. -/
structure Fx (w : World) (SB NB FB LX LB MB XB n sb so sc : Nat) (st : List Int) (es : List (Nat × Nat)) (rv : Nat → Value) (od : List Nat) (W : World) : Prop where
  bel : Below w.heap.size w W
  cS : W.cell? ⟨SB, 0, none⟩ = some (.slice (some ⟨sb, so, none⟩) n sc)
  cst : ∀ (i : Nat) (x : Int), st[i]? = some x → W.cell? ⟨sb, so + i, none⟩ = some (.int .i64 x)
  cod : ∀ (i x : Nat), od[i]? = some x → W.cell? ⟨FB, i, none⟩ = some (.int .i64 x)
  cL : W.cell? ⟨LX, 0, none⟩ = some (.slice (some ⟨LB, 0, none⟩) n n)
  x0 : W.cell? ⟨XB, 0, none⟩ = some (.slice (some ⟨NB, 0, none⟩) n n)
  x1 : W.cell? ⟨XB, 1, none⟩ = some (.slice (some ⟨MB, 0, none⟩) n n)
  rows : ∀ i, i < n → W.cell? ⟨NB, i, none⟩ = some (rv i) ∧ IL W (rv i) (up (gOf es i))
/-- What changes lies apart. -/
structure Ap (w : World) (SB NB FB LX LB MB XB n sb : Nat) (rv : Nat → Value) : Prop where
  m : MB ≠ SB ∧ MB ≠ sb ∧ MB ≠ FB ∧ MB ≠ LX ∧ MB ≠ XB ∧ MB ≠ NB
  l : LB ≠ SB ∧ LB ≠ sb ∧ LB ≠ FB ∧ LB ≠ LX ∧ LB ≠ XB ∧ LB ≠ NB ∧ LB ≠ MB
  r : ∀ i, i < n → ∀ b o s k c, rv i = .slice (some ⟨b, o, s⟩) k c → b ≠ MB ∧ b ≠ LB
  lo : w.heap.size ≤ MB ∧ w.heap.size ≤ LB
theorem cell_of {W W' : World} {b o : Nat} {v : Value} (h : W.cell? ⟨b, o, none⟩ = some v) (hk : b < W.heap.size → W'.heap[b]? = W.heap[b]?) : W'.cell? ⟨b, o, none⟩ = some v := by
  rw [World.cell?_of_block (w := W) (hk (block_lt_of_cell h))]; exact h
theorem IL.of2 {w w' : World} {v : Value} {l : List Int} (h : IL w v l) (hk : ∀ b o s n c, v = .slice (some ⟨b, o, s⟩) n c → b < w.heap.size → w'.heap[b]? = w.heap[b]?) : IL w' v l := by
  obtain ⟨a, cap, hv, h1, h0, h2⟩ := h
  refine ⟨a, cap, hv, h1, h0, fun hl => ?_⟩
  obtain ⟨b, off, rfl, hc⟩ := h2 hl
  exact ⟨b, off, rfl, fun i x hx => cell_of (hc i x hx) (hk b off none _ _ hv)⟩
theorem Fx.of {w : World} {SB NB FB LX LB MB XB n sb so sc : Nat} {st : List Int} {es : List (Nat × Nat)} {rv : Nat → Value} {od : List Nat} {W W' : World} (h : Fx w SB NB FB LX LB MB XB n sb so sc st es rv od W) (ap : Ap w SB NB FB LX LB MB XB n sb rv) (hs : W.heap.size ≤ W'.heap.size) (h1 : W'.os = W.os) (h2 : W'.tape = W.tape) (h3 : W'.output = W.output)
    (hk : ∀ k, k ≠ MB → k ≠ LB → k < W.heap.size → W'.heap[k]? = W.heap[k]?) : Fx w SB NB FB LX LB MB XB n sb so sc st es rv od W' where
  bel := ⟨h1.trans h.bel.os, h2.trans h.bel.tape, h3.trans h.bel.output, Nat.le_trans h.bel.size hs, fun k hk2 => (hk k (by have := ap.lo; omega) (by have := ap.lo; omega) (by have := h.bel.size; omega)).trans (h.bel.block k hk2)⟩
  cS := cell_of h.cS (hk SB (Ne.symm ap.m.1) (Ne.symm ap.l.1))
  cst := fun i x hx => cell_of (h.cst i x hx) (hk sb (Ne.symm ap.m.2.1) (Ne.symm ap.l.2.1))
  cod := fun i x hx => cell_of (h.cod i x hx) (hk FB (Ne.symm ap.m.2.2.1) (Ne.symm ap.l.2.2.1))
  cL := cell_of h.cL (hk LX (Ne.symm ap.m.2.2.2.1) (Ne.symm ap.l.2.2.2.1))
  x0 := cell_of h.x0 (hk XB (Ne.symm ap.m.2.2.2.2.1) (Ne.symm ap.l.2.2.2.2.1))
  x1 := cell_of h.x1 (hk XB (Ne.symm ap.m.2.2.2.2.1) (Ne.symm ap.l.2.2.2.2.1))
  rows := fun i hi => ⟨cell_of (h.rows i hi).1 (hk NB (Ne.symm ap.m.2.2.2.2.2) (Ne.symm ap.l.2.2.2.2.2.1)), (h.rows i hi).2.of2 (fun b o s k c e => hk b (ap.r i hi b o s k c e).1 (ap.r i hi b o s k c e).2)⟩
/-- The numbers so far. -/
def LAt (W : World) (LB n : Nat) (x : Nat → Int) : Prop := ∀ i, i < n → W.cell? ⟨LB, i, none⟩ = some (.int .i64 (x i)) ∧ W.frozen? ⟨LB, i, none⟩ = false
theorem LAt.of {W W' : World} {LB n : Nat} {x : Nat → Int} (h : LAt W LB n x) (hk : LB < W.heap.size → W'.heap[LB]? = W.heap[LB]?) : LAt W' LB n x := fun i hi => by
  have hl := hk (block_lt_of_cell (h i hi).1)
  exact ⟨by rw [World.cell?_of_block (w := W) hl]; exact (h i hi).1, by rw [World.frozen?_of_block (w := W) hl]; exact (h i hi).2⟩
def fS (st : List Int) (i : Nat) : Int := st.getD i 0
/-- Between two rounds. -/
def L3 (w : World) (SB NB FB LX LB MB XB n sb so sc : Nat) (st : List Int) (es : List (Nat × Nat)) (rv : Nat → Value) (od : List Nat) (i : Nat) (ms : List Nat) (W : World) : Prop := ∃ m x, Fx w SB NB FB LX LB MB XB n sb so sc st es rv od W ∧ MetAt W MB n m ∧ LAt W LB n x ∧ PV n es (fS st) m x (od.drop i) ∧ ms.Nodup ∧ ∀ d ∈ ms, W.heap[d]? = some (.deferred (some [])) ∧ d ≠ MB ∧ d ≠ LB ∧ w.heap.size ≤ d
set_option maxRecDepth 100000 in
def I3 (w : World) (SB NB FB LX LB MB XB n sb so sc : Nat) (st : List Int) (es : List (Nat × Nat)) (rv : Nat → Value) (od : List Nat) (z0z z1z z2z z4z z5z z6z z7z z8z z9z z12z z15z z16z z17z z18z z19z z20z z21z z22z z23z z24z z25z z26z z27z z28z z29z z30z z31z z32z z33z z34z z35z z36z z37z z38z z39z z40z z41z z42z z43z z44z z45z z46z z47z z48z z49z z50z z51z z52z z53z z54z z55z z56z z57z z58z z78z : Value) (a : Act) (W : World) : Prop := ∃ (i : Nat) (ms : List Nat) (z13z z14z z62z z63z z64z z65z z66z z67z z68z z69z z70z z71z z72z z73z z74z z75z z76z z77z : Value), i ≤ n ∧ L3 w SB NB FB LX LB MB XB n sb so sc st es rv od i ms W ∧ a = ⟨#[z0z, z1z, z2z, .pointer (some ⟨SB, 0, none⟩), z4z, z5z, z6z, z7z, z8z, z9z, .pointer (some ⟨LX, 0, none⟩), .pointer (some ⟨XB, 0, none⟩), z12z, z13z, z14z, z15z, z16z, z17z, z18z, z19z, z20z, z21z, z22z, z23z, z24z, z25z, z26z, z27z, z28z, z29z, z30z, z31z, z32z, z33z, z34z, z35z, z36z, z37z, z38z, z39z, z40z, z41z, z42z, z43z, z44z, z45z, z46z, z47z, z48z, z49z, z50z, z51z, z52z, z53z, z54z, z55z, z56z, z57z, z58z, .slice (some ⟨FB, 0, none⟩) n n, .int .i64 n, .int .i64 (i : Int), z62z, z63z, z64z, z65z, z66z, z67z, z68z, z69z, z70z, z71z, z72z, z73z, z74z, z75z, z76z, z77z, z78z], ms.map mkD⟩
def mu3 (n : Nat) (a : Act) (_ : World) : Nat := n - (intOf (a.tmps.getD 61 undef)).toNat
/-- While the search yields. -/
structure Jr (W3 : World) (MB LB n : Nat) (rc : Loop) (x : Nat → Int) (v : Int) (o : List Nat) (W : World) : Prop where
  os : W.os = W3.os
  tape : W.tape = W3.tape
  output : W.output = W3.output
  size : W3.heap.size + 2 ≤ W.heap.size
  block : ∀ k, k < W3.heap.size → k ≠ MB → k ≠ LB → W.heap[k]? = W3.heap[k]?
  df : W.heap[W3.heap.size]? = some (.deferred (some []))
  lp : W.heap[W3.heap.size + 1]? = some (.loop rc)
  la : LAt W LB n (setX x v o)
/-- What a round lays ahead of the search. -/
structure X4 (W : World) (XB r : Nat) (W3 : World) : Prop where
  os : W3.os = W.os
  tape : W3.tape = W.tape
  output : W3.output = W.output
  size : W3.heap.size = W.heap.size + 4
  block : ∀ k, k < W.heap.size → W3.heap[k]? = W.heap[k]?
  c0 : W3.cell? ⟨W.heap.size, 0, none⟩ = some (.int .i64 r)
  c1 : W3.cell? ⟨W.heap.size + 1, 0, none⟩ = some (.int .i64 r)
  c2 : W3.cell? ⟨W.heap.size + 2, 0, none⟩ = some (.pointer (some ⟨XB, 0, none⟩))
  c3 : W3.cell? ⟨W.heap.size + 3, 0, none⟩ = some (.slice (some ⟨W.heap.size + 1, 0, none⟩) 1 1)
theorem cell_new2 (w : World) (x : Value) (e : TypeId) (k : Nat) (hk : w.heap.size = k) (h : x.oneCell' = true := by rfl) : (w.alloc (.cells #[x] e)).cell? ⟨k, 0, none⟩ = some x := by subst hk; exact cell_new w x e h
theorem x4_made (W : World) (XB r : Nat) : X4 W XB r ((((W.alloc (.cells #[.int .i64 r] 3)).alloc (.cells #[.int .i64 r] 3)).alloc (.cells #[.pointer (some ⟨XB, 0, none⟩)] 66)).alloc (.cells #[.slice (some ⟨W.heap.size + 1, 0, none⟩) 1 1] 23)) where
  os := rfl
  tape := rfl
  output := rfl
  size := by simp
  block := fun k hk => by
    rw [Below.heap_alloc _ _ k (by simp; omega), Below.heap_alloc _ _ k (by simp; omega), Below.heap_alloc _ _ k (by simp; omega), Below.heap_alloc _ _ k (by omega)]
  c0 := keep_alloc (keep_alloc (keep_alloc (cell_new2 W _ _ _ rfl) _) _) _
  c1 := keep_alloc (keep_alloc (cell_new2 _ _ _ _ (by simp)) _) _
  c2 := keep_alloc (cell_new2 _ _ _ _ (by simp)) _
  c3 := cell_new2 _ _ _ _ (by simp)
theorem Jr.enter {W3 : World} {MB LB n : Nat} {rc : Loop} {x : Nat → Int} {v : Int} (hla : LAt W3 LB n x) : Jr W3 MB LB n rc x v [] (loopW W3 rc) where
  os := rfl
  tape := rfl
  output := rfl
  size := by simp [loopW]
  block := fun k hk _ _ => by unfold loopW; rw [Below.heap_alloc _ _ k (by simp; omega), Below.heap_alloc _ _ k hk]
  df := by unfold loopW; rw [Below.heap_alloc _ _ _ (by simp)]; show (W3.heap.push _)[W3.heap.size]? = _; simp
  lp := by
    unfold loopW
    show ((W3.alloc (.deferred (some []))).heap.push _)[W3.heap.size + 1]? = _
    have : (W3.alloc (.deferred (some []))).heap.size = W3.heap.size + 1 := World.size_alloc _ _
    rw [← this]
    exact Array.getElem?_push_size
  la := by
    have e : setX x v [] = x := by funext i; unfold setX; simp
    rw [e]
    refine hla.of (fun hlt => ?_)
    unfold loopW
    rw [Below.heap_alloc _ _ _ (by simp; omega), Below.heap_alloc _ _ _ hlt]
theorem Jr.mv {W3 W W' : World} {MB LB n : Nat} {rc : Loop} {x : Nat → Int} {v : Int} {o : List Nat} (h : Jr W3 MB LB n rc x v o W) (hv : Mv (W3.heap.size + 2) MB W W') (hl : LB < W3.heap.size) (hne : LB ≠ MB) (hm : MB < W3.heap.size) : Jr W3 MB LB n rc x v o W' where
  os := hv.os.trans h.os
  tape := hv.tape.trans h.tape
  output := hv.output.trans h.output
  size := Nat.le_trans h.size hv.size
  block := fun k hk h1 h2 => (hv.block k (by omega) h1).trans (h.block k hk h1 h2)
  df := (hv.block _ (by omega) (by omega)).trans h.df
  lp := (hv.block _ (by omega) (by omega)).trans h.lp
  la := h.la.of (fun _ => hv.block LB (by omega) hne)
set_option maxRecDepth 100000 in
set_option maxHeartbeats 8000000 in
theorem l3_round (w : World) (SB NB FB LX LB MB XB n sb so sc : Nat) (st : List Int) (es : List (Nat × Nat)) (rv : Nat → Value) (od : List Nat) (z0z z1z z2z z4z z5z z6z z7z z8z z9z z12z z15z z16z z17z z18z z19z z20z z21z z22z z23z z24z z25z z26z z27z z28z z29z z30z z31z z32z z33z z34z z35z z36z z37z z38z z39z z40z z41z z42z z43z z44z z45z z46z z47z z48z z49z z50z z51z z52z z53z z54z z55z z56z z57z z58z z78z : Value) (z13z z14z z62z z63z z64z z65z z66z z67z z68z z69z z70z z71z z72z z73z z74z z75z z76z z77z : Value) (i : Nat) (ms : List Nat) (Q0 : Exit → Act → World → Prop) (W : World) (hn : n ≤ 1000000) (HES : Hid (∀ e ∈ es, e.1 < n ∧ e.2 < n)) (HEL : Hid (es.length ≤ 1000000)) (HST : Hid (st.length = n)) (HOD : Hid (od.length = n ∧ (∀ x ∈ od, x < n) ∧ ∀ (i j x y : Nat), i < j → od[i]? = some x → od[j]? = some y → fS st y ≤ fS st x)) (HAP : Hid (Ap w SB NB FB LX LB MB XB n sb rv)) (HL3 : Hid (L3 w SB NB FB LX LB MB XB n sb so sc st es rv od i ms W)) (hin : i < n) :
    Code.wp Tryz.prog svLoop3 (Exit.then (fun a' w' => I3 w SB NB FB LX LB MB XB n sb so sc st es rv od z0z z1z z2z z4z z5z z6z z7z z8z z9z z12z z15z z16z z17z z18z z19z z20z z21z z22z z23z z24z z25z z26z z27z z28z z29z z30z z31z z32z z33z z34z z35z z36z z37z z38z z39z z40z z41z z42z z43z z44z z45z z46z z47z z48z z49z z50z z51z z52z z53z z54z z55z z56z z57z z58z z78z a' w' ∧ mu3 n a' w' < mu3 n ⟨#[z0z, z1z, z2z, .pointer (some ⟨SB, 0, none⟩), z4z, z5z, z6z, z7z, z8z, z9z, .pointer (some ⟨LX, 0, none⟩), .pointer (some ⟨XB, 0, none⟩), z12z, z13z, z14z, z15z, z16z, z17z, z18z, z19z, z20z, z21z, z22z, z23z, z24z, z25z, z26z, z27z, z28z, z29z, z30z, z31z, z32z, z33z, z34z, z35z, z36z, z37z, z38z, z39z, z40z, z41z, z42z, z43z, z44z, z45z, z46z, z47z, z48z, z49z, z50z, z51z, z52z, z53z, z54z, z55z, z56z, z57z, z58z, .slice (some ⟨FB, 0, none⟩) n n, .int .i64 n, .int .i64 (i : Int), z62z, z63z, z64z, z65z, z66z, z67z, z68z, z69z, z70z, z71z, z72z, z73z, z74z, z75z, z76z, z77z, z78z], ms.map mkD⟩ W) Q0) ⟨#[z0z, z1z, z2z, .pointer (some ⟨SB, 0, none⟩), z4z, z5z, z6z, z7z, z8z, z9z, .pointer (some ⟨LX, 0, none⟩), .pointer (some ⟨XB, 0, none⟩), z12z, z13z, z14z, z15z, z16z, z17z, z18z, z19z, z20z, z21z, z22z, z23z, z24z, z25z, z26z, z27z, z28z, z29z, z30z, z31z, z32z, z33z, z34z, z35z, z36z, z37z, z38z, z39z, z40z, z41z, z42z, z43z, z44z, z45z, z46z, z47z, z48z, z49z, z50z, z51z, z52z, z53z, z54z, z55z, z56z, z57z, z58z, .slice (some ⟨FB, 0, none⟩) n n, .int .i64 n, .int .i64 (i : Int), z62z, z63z, z64z, z65z, z66z, z67z, z68z, z69z, z70z, z71z, z72z, z73z, z74z, z75z, z76z, z77z, z78z], ms.map mkD⟩ W := by
  obtain ⟨m, x, hfx, hmet, hla, hpv, hms, hdf⟩ := HL3.out
  obtain ⟨hol, hox, hoo⟩ := HOD.out
  have hget := List.getElem?_eq_getElem (l := od) (show i < od.length by omega)
  generalize od[i]'(by omega) = r at hget
  have hrn : r < n := hox r (List.mem_of_getElem? hget)
  have cod := hfx.cod i r hget
  have HFX := hid hfx
  have HMT := hid hmet
  have HLA := hid hla
  have HPV := hid hpv
  have HMS := hid hms
  have HDF := hid hdf
  have HGET := hid hget
  have j0 : (0 : Int) ≤ i := by omega
  have j1 : (i : Int) < n := by omega
  clear hfx hmet hla hpv hms hdf hget hol hox hoo
  conv => arg 2; whnf
  go_wp2_with (go_at_call 27; refine (from_any XB _ _ _ _).mono ?_; rintro e w3 ⟨rfl, rfl⟩)
  refine gwp_named (X4 W XB r) (x4_made W XB r) ?_
  intro W3 hx4
  have HX4 := hid hx4
  have fxw : Fx w SB NB FB LX LB MB XB n sb so sc st es rv od W3 := HFX.out.of HAP.out (by have := hx4.size; omega) hx4.os hx4.tape hx4.output (fun k _ _ hk => hx4.block k hk)
  have HFX3 := hid fxw
  have hlb : LB < W.heap.size := block_lt_of_cell (HLA.out 0 (by omega)).1
  have hmb : MB < W.heap.size := block_lt_of_cell (HMT.out 0 (by omega)).1
  have HLA3 : Hid (LAt W3 LB n x) := HLA.out.of (fun h => hx4.block LB h)
  have HMT3 : Hid (MetAt W3 MB n m) := HMT.out.of (hx4.block MB hmb)
  have hsz3 := hx4.size
  have hvr : fS st r = fS st r := rfl
  obtain ⟨v, hv⟩ : ∃ v, v = fS st r := ⟨_, rfl⟩
  have HV : Hid (st[r]? = some v) := by
    show _ = _
    rw [hv]
    unfold fS
    rw [List.getD_eq_getElem?_getD, List.getElem?_eq_getElem (by rw [HST.out]; exact hrn)]
    rfl
  have HVE := hid hv
  clear hv fxw hx4 cod
  refine (wpIn_wide (n := 3)).1 ?_
  refine range_outer (F := Fence.wide) rfl (by omega) (gf := 44) (lb := #[.pointer (some ⟨W.heap.size + 3, 0, none⟩), .pointer (some ⟨W.heap.size + 2, 0, none⟩)]) (by simp [Act.eval]) trivial (enters_of Tryz.func44 (by kernel_rfl) rfl) ?_
  intro fn _
  refine callsIn_wide.2 ?_
  generalize hrc : loopRec fn _ _ _ _ _ = rc
  have HRC := hid hrc
  have hlw : (loopW W3 rc).heap.size = W3.heap.size + 2 := by simp [loopW]
  refine (from1_any (W3.heap.size + 1) (W.heap.size + 3) (W.heap.size + 2) XB NB MB n n n (W3.heap.size + 2) (some ⟨W.heap.size + 1, 0, none⟩) 1 1 [r] (gOf es) rv m (loopW W3 rc) (Jr W3 MB LB n rc x v) rfl (by omega) hn ?_ ?_ (hid (by omega)) (hid hlw) (Jr.enter HLA3.out) ?_ ?_ ?_ ?_).mono ?_
  · exact fun k hk => ⟨Nat.le_trans (gOf_length es k) HEL.out, fun t ht => (HES.out _ (mem_gOf.1 ht)).2⟩
  · intro s hs
    have : s = r := by simpa using hs
    rw [this]; exact hrn
  · refine HMT3.out.of ?_
    unfold loopW
    rw [Below.heap_alloc _ _ _ (by simp; omega), Below.heap_alloc _ _ _ (by omega)]
  · intro o W' hJ
    have hk : ∀ k, k < W3.heap.size → k ≠ MB → k ≠ LB → W'.heap[k]? = W3.heap[k]? := hJ.block
    have ap := HAP.out
    exact {
      c1 := cell_of HX4.out.c3 (fun h => hk _ h (by omega) (by omega))
      il := ⟨_, _, rfl, by simp [up], (fun e => by cases e), fun _ => ⟨W.heap.size + 1, 0, rfl, fun i y hy => by
        match i, hy with
        | 0, hy =>
          have : y = (r : Int) := by simpa [up] using hy.symm
          rw [this]
          exact cell_of HX4.out.c1 (fun h => hk _ h (by omega) (by omega))
        | i + 1, hy => simp [up] at hy⟩⟩
      c2 := cell_of HX4.out.c2 (fun h => hk _ h (by omega) (by omega))
      x0 := cell_of HFX3.out.x0 (fun h => hk _ h (Ne.symm ap.m.2.2.2.2.1) (Ne.symm ap.l.2.2.2.2.1))
      x1 := cell_of HFX3.out.x1 (fun h => hk _ h (Ne.symm ap.m.2.2.2.2.1) (Ne.symm ap.l.2.2.2.2.1))
      rows := fun i hi => ⟨cell_of (HFX3.out.rows i hi).1 (fun h => hk _ h (Ne.symm ap.m.2.2.2.2.2) (Ne.symm ap.l.2.2.2.2.2.1)), (HFX3.out.rows i hi).2.of2 (fun b o s k c e h => hk b h (ap.r i hi b o s k c e).1 (ap.r i hi b o s k c e).2)⟩ }
  · exact fun o W1 W2 h hv => h.mv hv (by omega) HAP.out.l.2.2.2.2.2.2 (by omega)
  · intro o y W' hJ hy
    have ap := HAP.out
    have hk := hJ.block
    have hla := hJ.la y hy
    have hlp := hJ.lp
    rw [← HRC.out] at hlp
    refine sv_round (W3.heap.size + 1) SB LX W.heap.size LB sb so sc n r y _ v fn _ _ _ _ _ _ _ _ _ _ _ _ _ _ _ _ _ _ _ _ _ _ _ _ _ _ _ _ _ _ _ _ _ _ _ _ _ _ _ _ _ _ _ _ _ _ _ _ _ _ _ _ _ _ _ _ _ _ _ _ _ _ _ _ _ _ _ _ _ _ _ _ _ _ _ _  W' _ hlp (cell_of HFX3.out.cL (fun h => hk _ h (Ne.symm ap.m.2.2.2.1) (Ne.symm ap.l.2.2.2.1))) (cell_of HFX3.out.cS (fun h => hk _ h (Ne.symm ap.m.1) (Ne.symm ap.l.1))) (cell_of HX4.out.c0 (fun h => hk _ h (by omega) (by omega))) (cell_of (HFX3.out.cst r v HV.out) (fun h => hk _ h (Ne.symm ap.m.2.1) (Ne.symm ap.l.2.1))) _ hla.1 hla.2 (by omega) (by omega) (by omega) (by omega) ⟨Ne.symm ap.l.2.2.2.1, Ne.symm ap.l.1, by omega, Ne.symm ap.l.2.1⟩ ?_
    intro W2 h1 h2 h3 h4 h5 h6 h7 h8
    replace h4 : W2.heap[W3.heap.size + 1]? = some (.loop rc) := by rw [← HRC.out]; exact h4
    refine ⟨rfl, ⟨h6.trans hJ.os, h7.trans hJ.tape, h8.trans hJ.output, by rw [h5]; exact hJ.size, fun k hk1 hk2 hk3 => (h1 k (by omega) hk3).trans (hJ.block k hk1 hk2 hk3), (h1 _ (by omega) (by omega)).trans hJ.df, h4, fun i hi => ?_⟩, by rw [h5]; exact Nat.le_refl _, fun k hk1 hk2 => h1 k (by rcases hk1 with e | e <;> omega) (by have := ap.l.2.2.2.2.2.2; rcases hk1 with e | e <;> omega)⟩
    refine ⟨?_, h3 i (hJ.la i hi).2⟩
    rw [h2 i _ (hJ.la i hi).1, setX_snoc]
    split <;> rfl
  · rintro e W5 ⟨rfl, o, m', hJ, hm', hsr, hsz⟩
    refine ⟨⟨_, rfl⟩, rc, hJ.lp, by rw [← HRC.out]; simp [loopRec], .inl ⟨by rw [← HRC.out]; rfl, ?_⟩⟩
    refine gq_named (L3 w SB NB FB LX LB MB XB n sb so sc st es rv od (i + 1) (W3.heap.size :: ms)) ?_ ?_
    · have ap := HAP.out
      have hx4 := HX4.out
      have p1 : ∀ o' k, k ≠ W3.heap.size + 1 → (W5.putObj (W3.heap.size + 1) o').heap[k]? = W5.heap[k]? := fun _ k hk => put_other hk
      have hdrop : od.drop i = r :: od.drop (i + 1) := by
        have hlt : i < od.length := by rw [HOD.out.1]; exact hin
        rw [List.drop_eq_getElem_cons hlt]
        have := HGET.out
        rw [List.getElem?_eq_getElem hlt] at this
        injection this with this
        rw [this]
      have hpv := HPV.out
      rw [hdrop] at hpv
      have hpv2 := hpv.step (fun q hq => by
        obtain ⟨j, hj⟩ := List.getElem?_of_mem hq
        rw [List.getElem?_drop] at hj
        exact HOD.out.2.2 i (i + 1 + j) r q (by omega) HGET.out hj) hrn HES.out hsr
      refine ⟨m', setX x v o, HFX3.out.of ap (by rw [World.putObj_size]; have := hJ.size; omega) hJ.os hJ.tape hJ.output (fun k h1 h2 h3 => (p1 _ k (by omega)).trans (hJ.block k h3 h1 h2)), hm'.of (p1 _ MB (by omega)), hJ.la.of (fun _ => p1 _ LB (by omega)), by rw [HVE.out]; exact hpv2, ?_, ?_⟩
      · refine List.nodup_cons.2 ⟨fun hd => ?_, HMS.out⟩
        have := (HDF.out _ hd).1
        have := (Array.getElem?_eq_some_iff.1 this).1
        omega
      · intro d hd
        rcases List.mem_cons.1 hd with rfl | hd
        · exact ⟨(p1 _ _ (by omega)).trans hJ.df, by omega, by omega, by have := HFX3.out.bel.size; omega⟩
        · obtain ⟨q1, q2, q3, q4⟩ := HDF.out d hd
          have hlt := (Array.getElem?_eq_some_iff.1 q1).1
          exact ⟨(p1 _ d (by omega)).trans ((hJ.block d (by omega) q2 q3).trans ((hx4.block d hlt).trans q1)), q2, q3, q4⟩
    intro W7 hL7
    have HL7 := hid hL7
    clear hL7 hJ hm' hsr hsz
    dsimp only
    go_wp2
    have e1 : ((i : Int) + 1) = ((i + 1 : Nat) : Int) := by omega
    rw [e1]
    rw [hsz3] at HL7
    refine ⟨⟨i + 1, (W.heap.size + 4) :: ms, _, _, _, _, _, _, _, _, _, _, _, _, _, _, _, _, _, _, by omega, HL7.out, rfl⟩, ?_⟩
    unfold mu3
    simp [intOf]
    omega
set_option maxRecDepth 100000 in
set_option maxHeartbeats 4000000 in
theorem l3_out (w : World) (SB NB FB LX LB MB XB n sb so sc : Nat) (st : List Int) (es : List (Nat × Nat)) (rv : Nat → Value) (od : List Nat) (z0z z1z z2z z4z z5z z6z z7z z8z z9z z12z z15z z16z z17z z18z z19z z20z z21z z22z z23z z24z z25z z26z z27z z28z z29z z30z z31z z32z z33z z34z z35z z36z z37z z38z z39z z40z z41z z42z z43z z44z z45z z46z z47z z48z z49z z50z z51z z52z z53z z54z z55z z56z z57z z58z z78z : Value) (z13z z14z z62z z63z z64z z65z z66z z67z z68z z69z z70z z71z z72z z73z z74z z75z z76z z77z : Value) (ms : List Nat) (Q0 : Exit → Act → World → Prop) (W : World) (HX : Hid (Q0 (.exit 4) ⟨#[z0z, z1z, z2z, .pointer (some ⟨SB, 0, none⟩), z4z, z5z, z6z, z7z, z8z, z9z, .pointer (some ⟨LX, 0, none⟩), .pointer (some ⟨XB, 0, none⟩), z12z, z13z, z14z, z15z, z16z, z17z, z18z, z19z, z20z, z21z, z22z, z23z, z24z, z25z, z26z, z27z, z28z, z29z, z30z, z31z, z32z, z33z, z34z, z35z, z36z, z37z, z38z, z39z, z40z, z41z, z42z, z43z, z44z, z45z, z46z, z47z, z48z, z49z, z50z, z51z, z52z, z53z, z54z, z55z, z56z, z57z, z58z, .slice (some ⟨FB, 0, none⟩) n n, .int .i64 n, .int .i64 (n : Int), .bool false, z63z, z64z, z65z, z66z, z67z, z68z, z69z, z70z, z71z, z72z, z73z, z74z, z75z, z76z, z77z, z78z], ms.map mkD⟩ W)) (K : Act → World → Prop) :
    Code.wp Tryz.prog svLoop3 (Exit.then K Q0) ⟨#[z0z, z1z, z2z, .pointer (some ⟨SB, 0, none⟩), z4z, z5z, z6z, z7z, z8z, z9z, .pointer (some ⟨LX, 0, none⟩), .pointer (some ⟨XB, 0, none⟩), z12z, z13z, z14z, z15z, z16z, z17z, z18z, z19z, z20z, z21z, z22z, z23z, z24z, z25z, z26z, z27z, z28z, z29z, z30z, z31z, z32z, z33z, z34z, z35z, z36z, z37z, z38z, z39z, z40z, z41z, z42z, z43z, z44z, z45z, z46z, z47z, z48z, z49z, z50z, z51z, z52z, z53z, z54z, z55z, z56z, z57z, z58z, .slice (some ⟨FB, 0, none⟩) n n, .int .i64 n, .int .i64 (n : Int), z62z, z63z, z64z, z65z, z66z, z67z, z68z, z69z, z70z, z71z, z72z, z73z, z74z, z75z, z76z, z77z, z78z], ms.map mkD⟩ W := by
  conv => arg 2; whnf
  go_wp2
  exact HX.out
set_option maxRecDepth 100000 in
set_option maxHeartbeats 4000000 in
theorem l3_loop (w : World) (SB NB FB LX LB MB XB n sb so sc : Nat) (st : List Int) (es : List (Nat × Nat)) (rv : Nat → Value) (od : List Nat) (z0z z1z z2z z4z z5z z6z z7z z8z z9z z12z z15z z16z z17z z18z z19z z20z z21z z22z z23z z24z z25z z26z z27z z28z z29z z30z z31z z32z z33z z34z z35z z36z z37z z38z z39z z40z z41z z42z z43z z44z z45z z46z z47z z48z z49z z50z z51z z52z z53z z54z z55z z56z z57z z58z z78z : Value) (z13z z14z z62z z63z z64z z65z z66z z67z z68z z69z z70z z71z z72z z73z z74z z75z z76z z77z : Value) (Q0 : Exit → Act → World → Prop) (W : World) (hn : n ≤ 1000000) (HES : Hid (∀ e ∈ es, e.1 < n ∧ e.2 < n)) (HEL : Hid (es.length ≤ 1000000)) (HST : Hid (st.length = n)) (HOD : Hid (od.length = n ∧ (∀ x ∈ od, x < n) ∧ ∀ (i j x y : Nat), i < j → od[i]? = some x → od[j]? = some y → fS st y ≤ fS st x)) (HAP : Hid (Ap w SB NB FB LX LB MB XB n sb rv)) (HL3 : Hid (L3 w SB NB FB LX LB MB XB n sb so sc st es rv od 0 [] W))
    (HX : Hid (∀ (ms : List Nat) (z13z z14z z62z z63z z64z z65z z66z z67z z68z z69z z70z z71z z72z z73z z74z z75z z76z z77z : Value) (W' : World), L3 w SB NB FB LX LB MB XB n sb so sc st es rv od n ms W' → Q0 (.exit 4) ⟨#[z0z, z1z, z2z, .pointer (some ⟨SB, 0, none⟩), z4z, z5z, z6z, z7z, z8z, z9z, .pointer (some ⟨LX, 0, none⟩), .pointer (some ⟨XB, 0, none⟩), z12z, z13z, z14z, z15z, z16z, z17z, z18z, z19z, z20z, z21z, z22z, z23z, z24z, z25z, z26z, z27z, z28z, z29z, z30z, z31z, z32z, z33z, z34z, z35z, z36z, z37z, z38z, z39z, z40z, z41z, z42z, z43z, z44z, z45z, z46z, z47z, z48z, z49z, z50z, z51z, z52z, z53z, z54z, z55z, z56z, z57z, z58z, .slice (some ⟨FB, 0, none⟩) n n, .int .i64 n, .int .i64 (n : Int), z62z, z63z, z64z, z65z, z66z, z67z, z68z, z69z, z70z, z71z, z72z, z73z, z74z, z75z, z76z, z77z, z78z], ms.map mkD⟩ W')) :
    Code.wp Tryz.prog (Code.loop svLoop3) Q0 ⟨#[z0z, z1z, z2z, .pointer (some ⟨SB, 0, none⟩), z4z, z5z, z6z, z7z, z8z, z9z, .pointer (some ⟨LX, 0, none⟩), .pointer (some ⟨XB, 0, none⟩), z12z, z13z, z14z, z15z, z16z, z17z, z18z, z19z, z20z, z21z, z22z, z23z, z24z, z25z, z26z, z27z, z28z, z29z, z30z, z31z, z32z, z33z, z34z, z35z, z36z, z37z, z38z, z39z, z40z, z41z, z42z, z43z, z44z, z45z, z46z, z47z, z48z, z49z, z50z, z51z, z52z, z53z, z54z, z55z, z56z, z57z, z58z, .slice (some ⟨FB, 0, none⟩) n n, .int .i64 n, .int .i64 0, z62z, z63z, z64z, z65z, z66z, z67z, z68z, z69z, z70z, z71z, z72z, z73z, z74z, z75z, z76z, z77z, z78z], []⟩ W := by
  refine wp_loop (I3 w SB NB FB LX LB MB XB n sb so sc st es rv od z0z z1z z2z z4z z5z z6z z7z z8z z9z z12z z15z z16z z17z z18z z19z z20z z21z z22z z23z z24z z25z z26z z27z z28z z29z z30z z31z z32z z33z z34z z35z z36z z37z z38z z39z z40z z41z z42z z43z z44z z45z z46z z47z z48z z49z z50z z51z z52z z53z z54z z55z z56z z57z z58z z78z) (mu3 n) ⟨0, [], z13z, z14z, z62z, z63z, z64z, z65z, z66z, z67z, z68z, z69z, z70z, z71z, z72z, z73z, z74z, z75z, z76z, z77z, by omega, HL3.out, rfl⟩ ?_
  rintro a W2 ⟨i, ms, u13, u14, u62, u63, u64, u65, u66, u67, u68, u69, u70, u71, u72, u73, u74, u75, u76, u77, hi, hL, rfl⟩
  by_cases hin : i < n
  · exact l3_round w SB NB FB LX LB MB XB n sb so sc st es rv od z0z z1z z2z z4z z5z z6z z7z z8z z9z z12z z15z z16z z17z z18z z19z z20z z21z z22z z23z z24z z25z z26z z27z z28z z29z z30z z31z z32z z33z z34z z35z z36z z37z z38z z39z z40z z41z z42z z43z z44z z45z z46z z47z z48z z49z z50z z51z z52z z53z z54z z55z z56z z57z z58z z78z u13 u14 u62 u63 u64 u65 u66 u67 u68 u69 u70 u71 u72 u73 u74 u75 u76 u77 i ms Q0 W2 hn HES HEL HST HOD HAP hL hin
  · obtain rfl : i = n := by omega
    exact l3_out w SB NB FB LX LB MB XB i sb so sc st es rv od z0z z1z z2z z4z z5z z6z z7z z8z z9z z12z z15z z16z z17z z18z z19z z20z z21z z22z z23z z24z z25z z26z z27z z28z z29z z30z z31z z32z z33z z34z z35z z36z z37z z38z z39z z40z z41z z42z z43z z44z z45z z46z z47z z48z z49z z50z z51z z52z z53z z54z z55z z56z z57z z58z z78z u13 u14 u62 u63 u64 u65 u66 u67 u68 u69 u70 u71 u72 u73 u74 u75 u76 u77 ms Q0 W2 (HX.out ms u13 u14 (.bool false) u63 u64 u65 u66 u67 u68 u69 u70 u71 u72 u73 u74 u75 u76 u77 W2 hL) _
end Go.Proofs.YtiigfggebpmlnaaGreatDoor

