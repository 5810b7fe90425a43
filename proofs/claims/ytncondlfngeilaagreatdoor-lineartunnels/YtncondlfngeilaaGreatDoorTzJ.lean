import Derived.Test.YtncondlfngeilaaGreatDoorGTakes3
import Derived.Test.YtncondlfngeilaaGreatDoorTzE
import Derived.Test.YtncondlfngeilaaGreatDoorTzA
import Derived.Test.YtncondlfngeilaaGreatDoorTzI
import Derived.Test.YtncondlfngeilaaGreatDoorTnT
namespace Go.Proofs.YtncondlfngeilaaGreatDoor
open Go.ChangeShapes Go.WideShapes Go.ChangeAt Go.RowKit Go.Proofs.Tryz
set_option linter.unusedSimpArgs false
set_option linter.unusedVariables false

structure TX (w W0 : World) (B1 : Nat) (r : Loop) (W : World) : Prop where
 bel : Below w.heap.size w W
 res : W.cell? ⟨B1, 0, none⟩ = some (.bool false)
 rest : ∀ k, k < W0.heap.size → k ≠ B1 → W.heap[k]? = W0.heap[k]?
 dfr : W.heap[W0.heap.size]? = some (.deferred (some []))
 lp : W.heap[W0.heap.size + 1]? = some (.loop { r with state := .done, pending := some .ret })
theorem all_snoc {f : Int → Bool} {pre : List Int} {y : Int} (h : pre.all f = true) (hy : f y = true) : (pre ++ [y]).all f = true := by
 rw [List.all_append, h]; simp [hy]
theorem all_mid {f : Int → Bool} {l pre rest : List Int} {y : Int} (e : l = pre ++ y :: rest) (hy : f y = false) : l.all f = false := by
 rw [e, List.all_append]; simp [hy]
theorem tk_run0 (w W0 : World) (r : Loop) (B1 sb ib : Nat) (x : Sp) (a b : Int) (v : Value) (l : List Int) (bnd : Int) (hus : UsBox W0 sb ib x a b v l)
  (HRD : ∀ y W, TJ W0 r W → YieldAt Fence.wide 0 prog (W0.heap.size + 1) #[.int .i64 y] W (yieldEnd (fun W' => TJ W0 r W' ∧ inB bnd y = true) (fun W' => TX w W0 B1 r W' ∧ inB bnd y = false))) :
  Calls prog 108 #[.func (.yield (W0.heap.size + 1)) #[] #[], .pointer (some ⟨sb, 0, none⟩), .pointer (some ⟨ib, 0, none⟩)] (loopW W0 r) fun e W => e = .returned (.tuple #[]) ∧ ((TJ W0 r W ∧ (usP x a b l).all (inB bnd) = true) ∨ (TX w W0 B1 r W ∧ (usP x a b l).all (inB bnd) = false)) := by
 obtain ⟨h0, h1, h2, h3, h4, h5⟩ := hus;obtain ⟨va, vc, vb, vo, rfl, hl, _, _⟩ := h5.parts;refine uses1_any (W0.heap.size + 1) sb ib x a b va l.length vc l (loopW W0 r) (fun pre W => TJ W0 r W ∧ pre.all (inB bnd) = true) (fun W => TX w W0 B1 r W ∧ (usP x a b l).all (inB bnd) = false) rfl hl ⟨TJ.enter W0 r, rfl⟩ (fun pre W hJ => UsBox.keep ⟨h0, h1, h2, h3, h4, h5⟩ hJ.1.bel) ?_;intro pre y rest W e hJ;obtain ⟨fn, tm, asg, bo, hy, hR⟩ := HRD y W hJ.1;refine ⟨fn, tm, asg, bo, hy, hR.mono ?_⟩;rintro e2 W' ⟨bb, rfl, ht, hf⟩;exact ⟨bb, rfl, fun hb => ⟨(ht hb).1, all_snoc hJ.2 (ht hb).2⟩, fun hb => ⟨(hf hb).1, all_mid e (hf hb).2⟩⟩
theorem tk_run1 (w W0 : World) (r : Loop) (B1 ib : Nat) (op s t bnd : Int) (hsu : SuBox W0 ib op s t)
  (HRD : ∀ y W, TJ W0 r W → YieldAt Fence.wide 0 prog (W0.heap.size + 1) #[.int .i64 y] W (yieldEnd (fun W' => TJ W0 r W' ∧ inB bnd y = true) (fun W' => TX w W0 B1 r W' ∧ inB bnd y = false))) :
  Calls prog 104 #[.func (.yield (W0.heap.size + 1)) #[] #[], .pointer (some ⟨ib, 0, none⟩)] (loopW W0 r) fun e W => e = .returned (.tuple #[]) ∧ ((TJ W0 r W ∧ (succsF op s t).all (inB bnd) = true) ∨ (TX w W0 B1 r W ∧ (succsF op s t).all (inB bnd) = false)) := by
 refine succs1_any (W0.heap.size + 1) ib op s t (loopW W0 r) (fun pre W => TJ W0 r W ∧ pre.all (inB bnd) = true) (fun W => TX w W0 B1 r W ∧ (succsF op s t).all (inB bnd) = false) ⟨TJ.enter W0 r, rfl⟩ (fun pre W hJ => hsu.keep hJ.1.bel) ?_;intro pre y rest W e hJ;obtain ⟨fn, tm, asg, bo, hy, hR⟩ := HRD y W hJ.1;refine ⟨fn, tm, asg, bo, hy, hR.mono ?_⟩;rintro e2 W' ⟨bb, rfl, ht, hf⟩;exact ⟨bb, rfl, fun hb => ⟨(ht hb).1, all_snoc hJ.2 (ht hb).2⟩, fun hb => ⟨(hf hb).1, all_mid e (hf hb).2⟩⟩
theorem TJ.again {W0 W W' : World} {r : Loop} (h : TJ W0 r W) (h1 : ∀ k, k ≠ W0.heap.size + 1 → W'.heap[k]? = W.heap[k]?) (h2 : W'.heap[W0.heap.size + 1]? = some (.loop r)) (h3 : W'.heap.size = W.heap.size) (h4 : W'.os = W.os) (h5 : W'.tape = W.tape) (h6 : W'.output = W.output) : TJ W0 r W' :=
 ⟨⟨h4.trans h.bel.os, h5.trans h.bel.tape, h6.trans h.bel.output, by rw [h3]; exact h.bel.size, fun k hk => (h1 k (by omega)).trans (h.bel.block k hk)⟩, (h1 _ (by omega)).trans h.dfr, h2⟩
theorem TJ.leave {w W0 W W' : World} {r : Loop} {B1 : Nat} (h : TJ W0 r W) (hw : Below w.heap.size w W0) (hB : w.heap.size ≤ B1) (hB2 : B1 < W0.heap.size) (h1 : ∀ k, k ≠ W0.heap.size + 1 → k ≠ B1 → W'.heap[k]? = W.heap[k]?) (hc : W'.cell? ⟨B1, 0, none⟩ = some (.bool false)) (h2 : W'.heap[W0.heap.size + 1]? = some (.loop { r with state := .done, pending := some .ret })) (h3 : W'.heap.size = W.heap.size) (h4 : W'.os = W.os) (h5 : W'.tape = W.tape) (h6 : W'.output = W.output) : TX w W0 B1 r W' :=
 ⟨⟨h4.trans (h.bel.os.trans hw.os), h5.trans (h.bel.tape.trans hw.tape), h6.trans (h.bel.output.trans hw.output), by rw [h3]; exact Nat.le_trans hw.size h.bel.size, fun k hk => (h1 k (by have := hw.size; omega) (by omega)).trans ((h.bel.block k (by have := hw.size; omega)).trans (hw.block k hk))⟩, hc, fun k hk hk1 => (h1 k (by omega) hk1).trans (h.bel.block k hk), (h1 _ (by omega) (by omega)).trans h.dfr, h2⟩
end Go.Proofs.YtncondlfngeilaaGreatDoor
namespace Go.Proofs.YtncondlfngeilaaGreatDoor
open Go.ChangeShapes Go.WideShapes Go.ChangeAt Go.RowKit
set_option linter.unusedSimpArgs false
set_option linter.unusedVariables false

def glackS (x : Sp) (a b : Int) (l : List Int) : Bool := lackB x.a a || lackB x.b b || (x.args && l.contains (-1))
def gnameB (x : Sp) : Bool := x.name.data.toList.isEmpty
def glastB (x : Sp) (op sub d k regs frame : Int) : Bool := targetB x.d d regs && mayB x.sub sub && (op != 9 || withinB k frame)
def takesF (regs frame n : Int) (i : Ins) : Bool :=
 !gnameB (shOf i.op) && (!glackS (shOf i.op) i.a i.b i.args && ((usP (shOf i.op) i.a i.b (if (shOf i.op).args = true then i.args else [])).all (inB regs) && ((succsF i.op i.s i.t).all (inB n) && glastB (shOf i.op) i.op i.sub i.d i.k regs frame)))
theorem filter_none {l : List Int} (h : l.contains (-1) = false) : l.filter (· != -1) = l := by
 rw [List.filter_eq_self];intro x hx
 have : x ≠ -1 := fun e => by
  subst e;rw [← List.contains_iff_mem, h] at hx
  cases hx
 simpa using this
theorem inB_neg {m : Int} : inB m (-1) = false := by simp [inB]
theorem all_neg {m : Int} {l : List Int} (h : l.contains (-1) = true) : l.all (inB m) = false := by
 rw [List.contains_iff_mem] at h;exact List.all_eq_false.2 ⟨-1, h, by simp [inB_neg]⟩
theorem takes_right (regs frame n : Int) (i : Ins) (h0 : 0 ≤ regs) : takesF regs frame n i = rightF regs frame n i := by
 obtain ⟨op, sub, a, b, d, k, args, s, t⟩ := i
 by_cases h10 : op = 10
 ·subst h10
  cases hc : args.contains (-1) with
  | true =>
   have e1 : takesF regs frame n ⟨10, sub, a, b, d, k, args, s, t⟩ = false := by
    have : (glackS (shOf 10) a b args) = true := by
     show (lackB 0 a || lackB 0 b || (true && args.contains (-1))) = true
     rw [hc];simp
    rw [takesF];simp only [this, Bool.not_true, Bool.false_and, Bool.and_false]
   have e2 : rightF regs frame n ⟨10, sub, a, b, d, k, args, s, t⟩ = false := by
    rw [rightF, rightL]
    have : (usesF 10 a b args).all (inB regs) = false := by
     have hu : usesF 10 a b args = args := by simp [usesF, useA, useB]
     rw [hu];exact all_neg hc
    simp only [this, Bool.false_and, Bool.and_false]
   rw [e1, e2]
  | false =>
   have hf := filter_none hc
   have hu : usP (shOf 10) a b (if (shOf 10).args = true then args else []) = args := by
    show (if readB 0 a = true then [a] else []) ++ ((if readB 0 b = true then [b] else []) ++ args.filter (· != -1)) = args
    rw [hf];simp [readB]
   have hl : glackS (shOf 10) a b args = false := by
    show (lackB 0 a || lackB 0 b || (true && args.contains (-1))) = false
    rw [hc];simp [lackB]
   have hu2 : usesF 10 a b args = args := by simp [usesF, useA, useB]
   rw [takesF, rightF, rightL];simp only [hu, hl, hu2];rw [Bool.eq_iff_iff];simp [shOf, spTab, gnameB, targetB, mayB, subOk, needA, needB, needD, writesF, wrOps, succsF, inB, glastB, lackL]
   constructor
   ·rintro ⟨h1, h2, h3⟩
    refine ⟨by omega, h1, by omega, h2⟩
   ·rintro ⟨h1, h2, h3, h4⟩
    exact ⟨h2, h4, by omega⟩
 rcases op_cases op with rfl | rfl | rfl | rfl | rfl | rfl | rfl | rfl | rfl | rfl | rfl | rfl | rfl | rfl | ho
 case inr.inr.inr.inr.inr.inr.inr.inr.inr.inr.inr.inr.inr.inr =>
  have e1 : gnameB (shOf op) = true := by
   by_cases h : op = 0
   ·subst h; rfl
   ·rw [shOf_none (by omega)]; rfl
  have e2 : subOk op sub k frame = false := by
   unfold subOk;rw [if_neg (by omega), if_neg (by omega), if_neg (by omega), if_neg (by omega), if_neg (by omega)];simp
   omega
  rw [takesF, rightF, rightL];simp only [e1, e2, Bool.not_true, Bool.false_and, Bool.and_false]
 all_goals first
  | exact absurd rfl h10
  | (by_cases ha : a = -1 <;> by_cases hb : b = -1 <;> (rw [Bool.eq_iff_iff]; simp [takesF, rightF, rightL, lackL, shOf, spTab, gnameB, glackS, usP, usesF, useA, useB, readB, lackB, targetB, mayB, subOk, needA, needB, needD, writesF, wrOps, succsF, inB, glastB, withinB, ha, hb]; try omega))
end Go.Proofs.YtncondlfngeilaaGreatDoor
namespace Go.Proofs.YtncondlfngeilaaGreatDoor
open Go.ChangeShapes Go.WideShapes Go.ChangeAt Go.RowKit Go.Proofs.Tryz
set_option linter.unusedSimpArgs false
set_option linter.unusedVariables false
set_option maxRecDepth 100000
set_option maxHeartbeats 20000000

theorem wp_calmG {P : Program} {c : Code} {K : Act → World → Prop} {QQ : Exit → Act → World → Prop} {a : Act} {w : World} (h : Code.wp P c (Exit.then K (fun _ _ _ => False)) a w) : Code.wp P c (Exit.then K QQ) a w :=
 Go.wp_mono h (fun e a w hq => by cases e <;> first | exact hq | exact hq.elim)
def Giv (ib io fb fo : Nat) (op sub a b d k : Int) (va : Option Addr) (vn vc : Nat) (s t regs frame : Int) (ca : Option Addr) (n cap : Nat) (W : World) : Prop := W.cell? ⟨ib, io, none⟩ = some (.int .i64 op) ∧ W.cell? ⟨ib, io + 1, none⟩ = some (.int .i64 sub) ∧ W.cell? ⟨ib, io + 2, none⟩ = some (.int .i64 a) ∧ W.cell? ⟨ib, io + 3, none⟩ = some (.int .i64 b) ∧ W.cell? ⟨ib, io + 4, none⟩ = some (.int .i64 d) ∧ W.cell? ⟨ib, io + 5, none⟩ = some (.int .i64 k) ∧ W.cell? ⟨ib, io + 6, none⟩ = some (.slice va vn vc) ∧ W.cell? ⟨ib, io + 7, none⟩ = some (.int .i64 s) ∧ W.cell? ⟨ib, io + 8, none⟩ = some (.int .i64 t) ∧ W.cell? ⟨fb, fo + 2, none⟩ = some (.int .i64 regs) ∧ W.cell? ⟨fb, fo + 3, none⟩ = some (.int .i64 frame) ∧ W.cell? ⟨fb, fo + 5, none⟩ = some (.slice ca n cap)
theorem Giv.keep {ib io fb fo : Nat} {op sub a b d k : Int} {va : Option Addr} {vn vc : Nat} {s t regs frame : Int} {ca : Option Addr} {n cap : Nat} {W W' : World} (h : Giv ib io fb fo op sub a b d k va vn vc s t regs frame ca n cap W) (hb : Below W.heap.size W W') : Giv ib io fb fo op sub a b d k va vn vc s t regs frame ca n cap W' := by
 obtain ⟨e0, e1, e2, e3, e4, e5, e6, e7, e8, f2, f3, f5⟩ := h;exact ⟨keep_cell hb e0, keep_cell hb e1, keep_cell hb e2, keep_cell hb e3, keep_cell hb e4, keep_cell hb e5, keep_cell hb e6, keep_cell hb e7, keep_cell hb e8, keep_cell hb f2, keep_cell hb f3, keep_cell hb f5⟩
theorem takes_walk (fb fo ib io : Nat) (regs frame : Int) (n cap : Nat) (ca : Option Addr) (op sub a b d k : Int) (va : Option Addr) (vn vc : Nat) (s t : Int) (args : List Int) (x : Sp) (r : Bool) (w : World)
  (HX : Hid (shOf op = x)) (HT : Hid (ShTab w)) (HG : Hid (Giv ib io fb fo op sub a b d k va vn vc s t regs frame ca n cap w)) (HV : Hid (IL w (.slice va vn vc) args)) (r0 : 0 ≤ regs) (r1 : regs ≤ 5000) (hn : (n : Int) ≤ 9223372036854775807)
  (HE : Hid (r = (!gnameB x && (!glackS x a b args && ((usP x a b (if x.args = true then args else [])).all (inB regs) && ((succsF op s t).all (inB n) && glastB x op sub d k regs frame)))))) :
  Calls prog 57 #[.pointer (some ⟨fb, fo, none⟩), .pointer (some ⟨ib, io, none⟩)] w (retP (.bool r) w) := by
 refine callsIn_wide.1 (callsIn_of_wp_marks (n := 3) func57 rfl trivial ?_);simp only [ntmps57, List.size_toArray, List.length_cons, List.length_nil, Nat.reduceAdd, Nat.reduceSub, Array.replicate_succ, Array.replicate_zero, List.push_toArray, List.append_toArray, List.nil_append, List.cons_append];refine wpIn_wide.2 ?_;obtain ⟨e0, e1, e2, e3, e4, e5, e6, e7, e8, f2, f3, f5⟩ := HG.out;have il : ib < w.heap.size := block_lt_of_cell e0;have fl : fb < w.heap.size := block_lt_of_cell f2
 go_upto_region 2 with (go_at_call 95; refine (shapeOf_any op _ (HT.out.keep (by repeat (first | with_reducible exact Below.refl _ _ | with_reducible refine bel_alloc ?_ _ | with_reducible refine bel_set ?_ (by first | exact Nat.le_refl _ | (simp; done) | (simp; omega)) _ | with_reducible refine Below.drew ?_ | refine bel_trans ?_ (by assumption))))).mono ?_; rintro e w1 ⟨rfl, hb1⟩; rw [HX.out]; simp only [spV]; have HB1 : Hid (Below w.heap.size w w1) := hid (bel_trans (by repeat (first | with_reducible exact Below.refl _ _ | with_reducible refine bel_alloc ?_ _ | with_reducible refine bel_set ?_ (by first | exact Nat.le_refl _ | (simp; done) | (simp; omega)) _ | with_reducible refine Below.drew ?_ | refine bel_trans ?_ (by assumption))) hb1); have b0 := keep_cell hb1 (p := ⟨w.heap.size, 0, none⟩) (v := .pointer (some ⟨fb, fo, none⟩)) (by simp); have b1 := keep_cell hb1 (p := ⟨w.heap.size + 1, 0, none⟩) (v := .bool false) (by simp); have z1 := keep_frozen hb1 (p := ⟨w.heap.size + 1, 0, none⟩) (v := .bool false) (by simp) (by simp); have hs1 : w.heap.size + 2 ≤ w1.heap.size := (by have := hb1.size; simp at this; omega); clear hb1)
 refine gwp_named (fun W => Below w.heap.size w W ∧ W.cell? ⟨w.heap.size, 0, none⟩ = some (.pointer (some ⟨fb, fo, none⟩)) ∧ W.cell? ⟨w.heap.size + 1, 0, none⟩ = some (.bool false) ∧ W.frozen? ⟨w.heap.size + 1, 0, none⟩ = false ∧ W.cell? ⟨w1.heap.size, 0, none⟩ = some (.string x.name) ∧ W.cell? ⟨w1.heap.size, 1, none⟩ = some (.int .i64 x.sub) ∧ W.cell? ⟨w1.heap.size, 2, none⟩ = some (.int .i64 x.a) ∧ W.cell? ⟨w1.heap.size, 3, none⟩ = some (.int .i64 x.b) ∧ W.cell? ⟨w1.heap.size, 4, none⟩ = some (.int .i64 x.d) ∧ W.cell? ⟨w1.heap.size, 5, none⟩ = some (.bool x.k) ∧ W.cell? ⟨w1.heap.size, 6, none⟩ = some (.bool x.args) ∧ W.cell? ⟨w1.heap.size, 7, none⟩ = some (.bool x.s) ∧ W.cell? ⟨w1.heap.size, 8, none⟩ = some (.bool x.t)) ⟨bel_alloc HB1.out _, keep_alloc b0 _, keep_alloc b1 _, keep_frozen (bel_alloc (Below.refl _ _) _) b1 z1, by simp, by simp, by simp, by simp, by simp, by simp, by simp, by simp, by simp⟩ ?_
 generalize w1.heap.size = B2 at *
 clear b0 b1 z1 HB1 w1 e0 e1 e2 e3 e4 e5 e6 e7 e8 f2 f3 f5;rintro W ⟨hbW, b0, b1, z1, s0, s1, s2, s3, s4, s5, s6, s7, s8⟩;have HBW := hid hbW;obtain ⟨e0, e1, e2, e3, e4, e5, e6, e7, e8, f2, f3, f5⟩ := HG.out.keep hbW;have HVW := hid (HV.out.keep hbW);have HTW := hid (HT.out.keep hbW);have sz : w.heap.size ≤ W.heap.size := hbW.size;clear hbW
 cases hnm : gnameB x with
 | true =>
  have er : r = false := by rw [HE.out, hnm]; rfl
  subst er
  have en : x.name = ⟨#[]⟩ := by
   have : x.name.data.toList = [] := List.isEmpty_iff.1 hnm
   cases hx : x.name with
   | mk dta =>
    rw [hx] at this;simp at this;rw [this]
  rw [en] at s0;go_wp2;exact ⟨_, (by simp [results, results57, go_sem, b1, z1]), rfl, HBW.out.setCell (Nat.le_succ _) _⟩
 | false =>
  have q1 : x.name.toList.isEmpty = false := by rw [ByteArray.toList_eq]; exact hnm
  have HLK : Hid (∀ W', Below W.heap.size W W' → Calls prog 96 #[spV x, .pointer (some ⟨ib, io, none⟩)] W' (retP (.bool (lackS x a b args)) W')) := fun W' hW' => lacksRegister_any x ib io a b va vn vc args W' (keep_cell hW' e2) (keep_cell hW' e3) (keep_cell hW' e6) (HVW.out.keep hW')
  cases hlk : lackS x a b args with
  | true =>
   rw [hlk] at HLK;have er : r = false := by rw [HE.out, hnm]; simp only [glackS]; rw [show (lackB x.a a || lackB x.b b || (x.args && args.contains (-1))) = true from hlk]; rfl
   subst er
   go_wp2_with (go_at_call 96; refine (HLK.out _ (Below.refl _ _)).mono ?_; rintro e w2 ⟨rfl, hb2⟩; replace z1 := keep_frozen hb2 b1 z1; replace b1 := keep_cell hb2 b1; have HB2 := hid (bel_trans HBW.out hb2); clear hb2)
   exact ⟨_, (by simp [results, results57, go_sem, b1, z1]), rfl, HB2.out.setCell (Nat.le_succ _) _⟩
  | false =>
   rw [hlk] at HLK
   have HE1 : Hid (r = ((usP x a b (if x.args = true then args else [])).all (inB regs) && ((succsF op s t).all (inB n) && glastB x op sub d k regs frame))) := by
    show _ = _
    rw [HE.out, hnm]; simp only [glackS]; rw [show (lackB x.a a || lackB x.b b || (x.args && args.contains (-1))) = false from hlk]; rfl
   clear HE hlk hnm
   go_wp2_with (first | (go_at_call 96; refine (HLK.out _ (Below.refl _ _)).mono ?_; rintro e w2 ⟨rfl, hb2⟩; replace z1 := keep_frozen hb2 b1 z1; replace b0 := keep_cell hb2 b0; replace b1 := keep_cell hb2 b1; replace e0 := keep_cell hb2 e0; replace e1 := keep_cell hb2 e1; replace e2 := keep_cell hb2 e2; replace e3 := keep_cell hb2 e3; replace e4 := keep_cell hb2 e4; replace e5 := keep_cell hb2 e5; replace e6 := keep_cell hb2 e6; replace e7 := keep_cell hb2 e7; replace e8 := keep_cell hb2 e8; replace f2 := keep_cell hb2 f2; replace f3 := keep_cell hb2 f3; replace f5 := keep_cell hb2 f5; replace s1 := keep_cell hb2 s1; replace s4 := keep_cell hb2 s4; have HB2 := hid (bel_trans HBW.out hb2); have HT2 := hid (HTW.out.keep hb2); have HV2 := hid (HVW.out.keep hb2); clear hb2) | (go_at_call 73; refine (uses_made op sub a b d k va vn vc s t args x _ HX HT2 HV2).mono ?_; rintro e w3 ⟨sb, ib2, v3, rfl, hus, hb3⟩; have HUS := hid hus; have HTK : Hid (TK w fb fo B2 x w3) := hid (TK.keep ⟨HB2.out, b0, b1, z1, s1, s4, hs1⟩ hb3); have HG3 := hid (Giv.keep ⟨e0, e1, e2, e3, e4, e5, e6, e7, e8, f2, f3, f5⟩ hb3); clear hus hb3))
   have HTK0 := HTK;have HG0 := HG3;have HB1L0 : Hid (w.heap.size + 1 < w3.heap.size) := block_lt_of_cell HTK.out.b1;clear b0 b1 z1 s1 s4 e0 e1 e2 e3 e4 e5 e6 e7 e8 f2 f3 f5;refine (wpIn_wide (n := 3)).1 ?_;refine range_outer (F := Fence.wide) rfl (by omega) (gf := 108) (lb := #[.pointer (some ⟨sb, 0, none⟩), .pointer (some ⟨ib2, 0, none⟩)]) (by simp [Act.eval]) trivial (enters_of func108 (by kernel_rfl) rfl) ?_;intro fn _;refine callsIn_wide.2 ?_
   refine (tk_run0 w w3 _ (w.heap.size + 1) sb ib2 x a b v3 (if x.args = true then args else []) regs HUS.out (fun y W hW => by
    have k := hW.bel;have kTK := HTK0.out.keep k;obtain ⟨ge0, ge1, ge2, ge3, ge4, ge5, ge6, ge7, ge8, gf2, gf3, gf5⟩ := HG0.out.keep k;refine tk_round0 (w3.heap.size + 1) w.heap.size (w.heap.size + 1) fb fo _ _ regs y _ _ _ _ _ _ _ _ _ _ _ _ _ _ _ _ _ _ _ _ _ _ _ _ _ _ _ _ _ _ _ _ _ _ _ _ _ _ _ _ _ _ _ _ _ _ _ _ _ _ _ _ _ _ _ _ _ _ _ _ _ _ _ _ _ _ _ _ _ _ _ _ W _ hW.lp kTK.b0 kTK.b1 kTK.z1 gf2 (by omega) (by omega) ?_ ?_
    ·intro hin W' h1 h2 h3 h4 h5 h6
     exact ⟨true, rfl, (fun _ => ⟨hW.again h1 h2 h3 h4 h5 h6, hin⟩), (fun h => by cases h)⟩
    ·intro hin W' h1 hc h2 h3 h4 h5 h6
     exact ⟨false, rfl, (fun h => by cases h), (fun _ => ⟨hW.leave HTK0.out.bel (Nat.le_succ _) HB1L0.out h1 hc h2 h3 h4 h5 h6, hin⟩)⟩)).mono ?_
   rintro e W2 ⟨rfl, ⟨hJ, hall⟩ | ⟨hX, hall⟩⟩
   ·refine ⟨⟨_, rfl⟩, _, hJ.lp, by simp [loopRec], .inl ⟨rfl, ?_⟩⟩
    have HE2 : Hid (r = ((succsF op s t).all (inB n) && glastB x op sub d k regs frame)) := by show _ = _; rw [HE1.out, hall]; rfl
    refine gq_named (fun W => TK w fb fo B2 x W ∧ Giv ib io fb fo op sub a b d k va vn vc s t regs frame ca n cap W ∧ W.heap[w3.heap.size]? = some (.deferred (some [])) ∧ w3.heap.size + 1 < W.heap.size) ?_ ?_
    ·have hb4 : ∀ o, Below w3.heap.size w3 (W2.putObj (w3.heap.size + 1) o) := fun o => hJ.bel.trans (bel_put (Nat.le_succ _))
     exact ⟨HTK0.out.keep (hb4 _), HG0.out.keep (hb4 _), (put_other (show w3.heap.size ≠ w3.heap.size + 1 by omega)).trans hJ.dfr, by rw [World.putObj_size]; exact (zge hJ.lp).1⟩
    rintro W4 ⟨k1, k2, k3, k4⟩;have HTK4 := hid k1;have HG4 := hid k2;have HD4 := hid k3;obtain ⟨e0, e1, e2, e3, e4, e5, e6, e7, e8, f2, f3, f5⟩ := k2;clear k1 k3 hJ hall HE1 HUS HTK HG3
    go_wp2_with (go_at_call 65; refine (succs_made op sub a b d k va vn vc s t _).mono ?_; rintro e w5 ⟨ib3, rfl, hsu, hb5⟩; have HSU := hid hsu; have HTK1 := hid (HTK4.out.keep hb5); have HG1 := hid (HG4.out.keep hb5); have HD5 : Hid (w5.heap[w3.heap.size]? = some (.deferred (some []))) := hid ((hb5.block _ (by omega)).trans HD4.out); have hs5 : w3.heap.size + 1 < w5.heap.size := Nat.lt_of_lt_of_le k4 hb5.size; clear hsu hb5)
    have HB1L1 : Hid (w.heap.size + 1 < w5.heap.size) := block_lt_of_cell HTK1.out.b1;clear e0 e1 e2 e3 e4 e5 e6 e7 e8 f2 f3 f5;refine (wpIn_wide (n := 3)).1 ?_;refine range_outer (F := Fence.wide) rfl (by omega) (gf := 104) (lb := #[.pointer (some ⟨ib3, 0, none⟩)]) (by simp [Act.eval]) trivial (enters_of func104 (by kernel_rfl) rfl) ?_;intro fn2 _;refine callsIn_wide.2 ?_
    refine (tk_run1 w w5 _ (w.heap.size + 1) ib3 op s t n HSU.out (fun y W hW => by
     have k := hW.bel;have kTK := HTK1.out.keep k;obtain ⟨ge0, ge1, ge2, ge3, ge4, ge5, ge6, ge7, ge8, gf2, gf3, gf5⟩ := HG1.out.keep k;refine tk_round1 (w5.heap.size + 1) w.heap.size (w.heap.size + 1) fb fo _ _ n cap ca y _ _ _ _ _ _ _ _ _ _ _ _ _ _ _ _ _ _ _ _ _ _ _ _ _ _ _ _ _ _ _ _ _ _ _ _ _ _ _ _ _ _ _ _ _ _ _ _ _ _ _ _ _ _ _ _ _ _ _ _ _ _ _ _ _ _ _ _ _ _ _ _ W _ hW.lp kTK.b0 kTK.b1 kTK.z1 gf5 hn ?_ ?_
     ·intro hin W' h1 h2 h3 h4 h5 h6
      exact ⟨true, rfl, (fun _ => ⟨hW.again h1 h2 h3 h4 h5 h6, hin⟩), (fun h => by cases h)⟩
     ·intro hin W' h1 hc h2 h3 h4 h5 h6
      exact ⟨false, rfl, (fun h => by cases h), (fun _ => ⟨hW.leave HTK1.out.bel (Nat.le_succ _) HB1L1.out h1 hc h2 h3 h4 h5 h6, hin⟩)⟩)).mono ?_
    rintro e W6 ⟨rfl, ⟨hJ, hall⟩ | ⟨hX, hall⟩⟩
    ·refine ⟨⟨_, rfl⟩, _, hJ.lp, by simp [loopRec], .inl ⟨rfl, ?_⟩⟩
     have er : r = glastB x op sub d k regs frame := by rw [HE2.out, hall]; rfl
     have HER := hid er;refine gq_named (fun W => TK w fb fo B2 x W ∧ Giv ib io fb fo op sub a b d k va vn vc s t regs frame ca n cap W ∧ W.heap[w3.heap.size]? = some (.deferred (some [])) ∧ W.heap[w5.heap.size]? = some (.deferred (some []))) ?_ ?_
     ·have hb7 : ∀ o, Below w5.heap.size w5 (W6.putObj (w5.heap.size + 1) o) := fun o => hJ.bel.trans (bel_put (Nat.le_succ _))
      exact ⟨HTK1.out.keep (hb7 _), HG1.out.keep (hb7 _), ((hb7 _).block _ (by omega)).trans HD5.out, (put_other (show w5.heap.size ≠ w5.heap.size + 1 by omega)).trans hJ.dfr⟩
     rintro W7 ⟨k1, k2, k3, k4⟩;have HTK7 := hid k1;have HD7 := hid k3;have HD8 := hid k4;obtain ⟨e0, e1, e2, e3, e4, e5, e6, e7, e8, f2, f3, f5⟩ := k2;clear k1 k3 k4 hJ hall er HE2
     go_upto_region 12 with fail
     refine wp_calmG ?_;refine tk_r12 ib io fb fo w.heap.size (w.heap.size + 1) B2 x.d x.sub op sub d k regs frame _ _ _ _ _ _ _ _ _ _ _ _ _ _ _ _ _ _ _ _ _ _ _ _ _ _ _ _ _ _ _ _ _ _ _ _ _ _ _ _ _ _ _ _ _ _ _ _ _ _ _ _ _ _ _ _ _ _ _ _ _ _ _ _ _ _ _ _ _ _ _ _ (fun _ _ _ => False) W7 (fun _ _ _ _ _ h => h) HTK7.out.b0 HTK7.out.s4 HTK7.out.s1 e0 e1 e4 e5 f3 f2 HTK7.out.b1 HTK7.out.z1 (by omega) (by have := HTK7.out.n2; omega) (by omega) (by omega) (by omega) (by omega) r HER.out ?_;intro y39 y40 y41 y42 y43 y44 y45 y46 y47 y48 y49 y50 y51 y52 y53 y54 y55 y56 y57 y58 y59 y60 y61 y62 y63 y64 y65 y66 y67 y68 y69 y70 y71 y72 y73;have HB7 := hid HTK7.out.bel;have hlt : w.heap.size + 1 < w5.heap.size := HB1L1.out;have hlt3 : w.heap.size + 1 < w3.heap.size := HB1L0.out;have hh5 : w5.heap.size ≠ w.heap.size + 1 := by omega
     have hh3 : w3.heap.size ≠ w.heap.size + 1 := by omega
     have h35 : w3.heap.size ≠ w5.heap.size := by omega
     have c7 : (W7.setCell ⟨w.heap.size + 1, 0, none⟩ (.bool r)).drew.cell? ⟨w.heap.size + 1, 0, none⟩ = some (.bool r) := by
      have b1 := HTK7.out.b1;go_simp
     obtain ⟨WF, hWF⟩ : ∃ W, (W7.setCell ⟨w.heap.size + 1, 0, none⟩ (.bool r)).drew = W := ⟨_, rfl⟩;have HF1 : Hid (WF.heap[w5.heap.size]? = some (.deferred (some []))) := by show _ = _; rw [← hWF]; exact (gset_other hh5).trans HD8.out
     have HF2 : Hid (WF.heap[w3.heap.size]? = some (.deferred (some []))) := by show _ = _; rw [← hWF]; exact (gset_other hh3).trans HD7.out
     have HF3 : Hid (WF.cell? ⟨w.heap.size + 1, 0, none⟩ = some (.bool r)) := by show _ = _; rw [← hWF]; exact c7
     clear c7;have HF4 : Hid (Below w.heap.size w WF) := by show Below _ _ _; rw [← hWF]; exact Below.drew (HB7.out.setCell (Nat.le_succ _) _)
     rw [hWF];clear hWF e0 e1 e2 e3 e4 e5 e6 e7 e8 f2 f3 f5;dsimp only;go_wp2;have d2 : (WF.putObj w5.heap.size (.deferred none)).heap[w3.heap.size]? = some (.deferred (some [])) := (put_other h35).trans HF2.out;have cB1 : ((WF.putObj w5.heap.size (.deferred none)).putObj w3.heap.size (.deferred none)).cell? ⟨w.heap.size + 1, 0, none⟩ = some (.bool r) := (World.cell?_of_block (put_other (Ne.symm hh3))).trans ((World.cell?_of_block (put_other (Ne.symm hh5))).trans HF3.out);refine ⟨by simp, .inl ⟨_, _, rfl, run_takeDeferred HF1.out, ?_⟩⟩;refine ⟨by simp, .inl ⟨_, _, rfl, run_takeDeferred d2, ?_⟩⟩;exact ⟨_, (by simp [results, results57, go_sem, cB1]), rfl, (HF4.out.trans (bel_put (show w.heap.size ≤ w5.heap.size by omega))).trans (bel_put (show w.heap.size ≤ w3.heap.size by omega))⟩
    ·have er : r = false := by rw [HE2.out, hall]; rfl
     refine ⟨⟨_, rfl⟩, _, hX.lp, by simp, .inr ⟨_, rfl, ?_⟩⟩;subst er;refine wpIn_wide.2 ?_;have hlt : w.heap.size + 1 < w5.heap.size := HB1L1.out;have hlt3 : w.heap.size + 1 < w3.heap.size := HB1L0.out;refine gwp_named (fun W => Below w.heap.size w W ∧ W.cell? ⟨w.heap.size + 1, 0, none⟩ = some (.bool false) ∧ W.heap[w5.heap.size]? = some (.deferred (some [])) ∧ W.heap[w3.heap.size]? = some (.deferred (some []))) ⟨hX.bel.trans (bel_put (show w.heap.size ≤ w5.heap.size + 1 by omega)), (World.cell?_of_block (put_other (show w.heap.size + 1 ≠ w5.heap.size + 1 by omega))).trans hX.res, (put_other (show w5.heap.size ≠ w5.heap.size + 1 by omega)).trans hX.dfr, (put_other (show w3.heap.size ≠ w5.heap.size + 1 by omega)).trans ((hX.rest _ (by omega) (by omega)).trans HD5.out)⟩ ?_;rintro W7 ⟨hb3, hc3, hd3, hd4⟩;have H3 := hid hb3;have H4 := hid hc3;have H5 := hid hd3;have H6 := hid hd4;clear hb3 hc3 hd3 hd4;go_wp2;have d2 : (W7.putObj w5.heap.size (.deferred none)).heap[w3.heap.size]? = some (.deferred (some [])) := (put_other (show w3.heap.size ≠ w5.heap.size by omega)).trans H6.out;have cB1 : ((W7.putObj w5.heap.size (.deferred none)).putObj w3.heap.size (.deferred none)).cell? ⟨w.heap.size + 1, 0, none⟩ = some (.bool false) := (World.cell?_of_block (put_other (show w.heap.size + 1 ≠ w3.heap.size by omega))).trans ((World.cell?_of_block (put_other (show w.heap.size + 1 ≠ w5.heap.size by omega))).trans H4.out);refine ⟨by simp, .inl ⟨_, _, rfl, run_takeDeferred H5.out, ?_⟩⟩;refine ⟨by simp, .inl ⟨_, _, rfl, run_takeDeferred d2, ?_⟩⟩;exact ⟨_, (by simp [results, results57, go_sem, cB1]), rfl, (H3.out.trans (bel_put (show w.heap.size ≤ w5.heap.size by omega))).trans (bel_put (show w.heap.size ≤ w3.heap.size by omega))⟩
   ·have er : r = false := by rw [HE1.out, hall]; rfl
    refine ⟨⟨_, rfl⟩, _, hX.lp, by simp, .inr ⟨_, rfl, ?_⟩⟩;subst er;refine wpIn_wide.2 ?_;have hlt : w.heap.size + 1 < w3.heap.size := HB1L0.out;refine gwp_named (fun W => Below w.heap.size w W ∧ W.cell? ⟨w.heap.size + 1, 0, none⟩ = some (.bool false) ∧ W.heap[w3.heap.size]? = some (.deferred (some []))) ⟨hX.bel.trans (bel_put (show w.heap.size ≤ w3.heap.size + 1 by omega)), (World.cell?_of_block (put_other (show w.heap.size + 1 ≠ w3.heap.size + 1 by omega))).trans hX.res, (put_other (show w3.heap.size ≠ w3.heap.size + 1 by omega)).trans hX.dfr⟩ ?_;rintro W3 ⟨hb3, hc3, hd3⟩;have H3 := hid hb3;have H4 := hid hc3;have H5 := hid hd3;clear hb3 hc3 hd3;go_wp2;have hlt : w.heap.size + 1 < w3.heap.size := HB1L0.out;have cB1 : (W3.putObj w3.heap.size (.deferred none)).cell? ⟨w.heap.size + 1, 0, none⟩ = some (.bool false) := (World.cell?_of_block (put_other (show w.heap.size + 1 ≠ w3.heap.size by omega))).trans H4.out;refine ⟨by simp, .inl ⟨_, _, rfl, run_takeDeferred H5.out, ?_⟩⟩;exact ⟨_, (by simp [results, results57, go_sem, cB1]), rfl, H3.out.trans (bel_put (show w.heap.size ≤ w3.heap.size by omega))⟩
theorem takes_any {w : World} {fb fo ib io : Nat} {f : Fn} {i : Ins} (hf : FnAt w fb fo f) (hi : InsAt w ib io i) (ht : ShTab w) (r0 : 0 ≤ f.regs) (r1 : f.regs ≤ 5000) :
  Calls prog 57 #[.pointer (some ⟨fb, fo, none⟩), .pointer (some ⟨ib, io, none⟩)] w (retP (.bool (rightF f.regs f.frame f.code.length i)) w) := by
 obtain ⟨pv, cv, _, hc, _, _, _, f2, f3, _, f5⟩ := hf;obtain ⟨ca, cap, rfl, hl, _, _⟩ := hc;obtain ⟨v, hv, e0, e1, e2, e3, e4, e5, e6, e7, e8⟩ := hi;obtain ⟨va, vc, rfl, hvl⟩ := len_parts hv;rw [← takes_right _ _ _ _ r0];obtain ⟨op, sub, a, b, d, k, args, s, t⟩ := i;exact takes_walk fb fo ib io f.regs f.frame f.code.length cap ca op sub a b d k va args.length vc s t args _ _ w rfl ht ⟨e0, e1, e2, e3, e4, e5, e6, e7, e8, f2, f3, f5⟩ hv r0 r1 (by omega) rfl
end Go.Proofs.YtncondlfngeilaaGreatDoor
namespace Go.Proofs.YtncondlfngeilaaGreatDoor
open Go.ChangeShapes Go.WideShapes Go.ChangeAt Go.RowKit Go.Proofs.Tryz
set_option linter.unusedSimpArgs false
set_option linter.unusedVariables false
set_option maxRecDepth 100000
set_option maxHeartbeats 4000000


def MarksAt (w : World) (B n : Nat) (l : List Int) : Prop := ∀ j, j < n → w.cell? ⟨B, j, none⟩ = some (.bool (l.contains (j : Int))) ∧ w.frozen? ⟨B, j, none⟩ = false
def falses (n : Nat) : Array Value := madeCells #[.bool false] n
theorem falses_size (n : Nat) : (falses n).size = n := size_madeCells _ _
theorem falses_get (n j : Nat) (h : j < n) : (falses n)[j]? = some (.bool false) := by
 rw [Array.getElem?_eq_getElem (by rw [falses_size]; exact h)];simp [falses, madeCells, Nat.mod_one]
theorem infoBool : (prog.info? 4).map (fun i => (i.zero, i.size, i.bytes)) = some (some (.bool false), 1, 1) := by kernel_rfl
theorem make_marks (n : Nat) (hn : n ≤ 5000) (w : World) : (Instr.makeSlice 142 (.int .i64 n) (.int .i64 n)).run prog w = .ok (.slice (some ⟨w.heap.size, 0, none⟩) n n) (w.alloc (.cells (falses n) 4)) := by
 obtain ⟨i0, hi, hz0, hz1, hz2⟩ := info_parts infoBool;have := run_make (P := prog) w 142 4 i0 (.bool false) underlying142 hi hz0 .i64 .i64 n n (by omega) (by omega) (by rw [hz2]; omega) (by omega);rw [this, hz1];simp [falses, Value.cells]
theorem marks_start (w : World) (n : Nat) : MarksAt (w.alloc (.cells (falses n) 4 (0, 0))) w.heap.size n [] := fun j hj => by
 have h : (w.alloc (.cells (falses n) 4 (0, 0))).heap[w.heap.size]? = some (.cells (falses n) 4 (0, 0)) := by
  show (w.heap.push _)[w.heap.size]? = _
  simp
 constructor
 ·unfold World.cell?
  rw [h];simpa using falses_get n j hj
 ·unfold World.frozen?
  rw [h];simp
theorem marks_step {w : World} {B n m i : Nat} {l : List Int} (h : MarksAt w B n (l.take i)) (hm : m < n) (hget : l[i]? = some (m : Int)) : MarksAt (w.setCell ⟨B, m, none⟩ (.bool true)) B n (l.take (i + 1)) := fun j hj => by
 obtain ⟨h1, h2⟩ := h j hj;obtain ⟨g1, g2⟩ := h m hm;have e : l.take (i + 1) = l.take i ++ [(m : Int)] := by rw [List.take_add_one, hget]; rfl
 rw [e]
 constructor
 ·by_cases hjm : j = m
  ·subst hjm
   rw [show ((l.take i ++ [(j : Int)]).contains (j : Int)) = true by simp];go_simp
  ·rw [show ((l.take i ++ [(m : Int)]).contains (j : Int)) = (l.take i).contains (j : Int) by
    rw [Bool.eq_iff_iff];simp only [List.contains_iff_mem, List.mem_append, List.mem_singleton];exact ⟨fun h => h.elim id fun h => absurd (Int.ofNat_inj.1 h) hjm, Or.inl⟩]
   rw [World.cell?_setCell_other _ _ _ _ (by simp [hjm])];exact h1
 ·simp only [World.frozen?_setCell]; exact h2
theorem hasParams_walk (fb fo : Nat) (pa : Option Addr) (np pcap pb po n : Nat) (params : List Int) (r : Bool) (w : World) (c1 : w.cell? ⟨fb, fo + 1, none⟩ = some (.slice pa np pcap)) (c2 : w.cell? ⟨fb, fo + 2, none⟩ = some (.int .i64 n)) (hn : n ≤ 5000) (hp : np * 8 ≤ 140737488355328) (HN : Hid (np = params.length)) (HA : Hid (0 < np → pa = some ⟨pb, po, none⟩)) (HC : Hid (∀ (i : Nat) x, params[i]? = some x → w.cell? ⟨pb, po + i, none⟩ = some (.int .i64 x)))
  (HP1 : Hid (∀ (i : Nat) x, params[i]? = some x → inB n x = false → r = false))
  (HP2 : Hid (∀ (i j : Nat) x, i < j → params[i]? = some x → params[j]? = some x → r = false))
  (HP3 : Hid ((∀ (i : Nat) x, i < np → params[i]? = some x → inB n x = true) → (∀ (i j : Nat) x y, i < j → j < np → params[i]? = some x → params[j]? = some y → x ≠ y) → r = true)) :
  Calls prog 56 #[.pointer (some ⟨fb, fo, none⟩)] w (retP (.bool r) w) := by
 have hnm : (np : Int) ≤ 9223372036854775807 := by omega
 have mk := make_marks n hn;have fl : fb < w.heap.size := block_lt_of_cell c1
 go_enter func56, ntmps56
 go_wp2
 go_loopw [16] (fun vv wz => ∃ i : Nat, i ≤ np ∧ vv = .int .i64 i ∧ Hid (∀ (j : Nat) x, j < i → params[j]? = some x → inB n x = true) ∧ Hid (∀ (k j : Nat) x y, k < j → j < i → params[k]? = some x → params[j]? = some y → x ≠ y) ∧ Hid (MarksAt wz w.heap.size n (params.take i)) ∧ Hid (Below w.heap.size w wz)) (fun vv _ => np - (intOf vv).toNat)
 case atStart => exact ⟨0, by omega, rfl, fun j x hj => by omega, fun k j x y h1 h2 => by omega, marks_start w n, bel_alloc (Below.refl _ _) _⟩
 case round =>
  obtain ⟨i, hi, rfl, HI, HJ, HM, HBz⟩ := hrel
  rename World => wz
  by_cases hin : i < np
  ·obtain rfl := HA.out (by omega)
   have j0 : (0 : Int) ≤ i := by omega
   have j1 : (i : Int) < np := by omega
   have hget := List.getElem?_eq_getElem (l := params) (show i < params.length by rw [← HN.out]; exact hin)
   generalize params[i]'(by rw [← HN.out]; exact hin) = y at hget
   have cx := keep_cell HBz.out (HC.out i y hget);have HG := hid hget;have HW : Hid (Calls prog 94 #[.pointer (some ⟨fb, fo, none⟩), .int .i64 y] wz fun e w' => e = .returned (.bool (inB n y)) ∧ w' = wz) := hasRegister_any fb fo n y wz (keep_cell HBz.out c2) (by omega) (by omega);clear hget
   cases hq : inB n y with
   | false =>
    rw [hq] at HW;have er := HP1.out i y HG.out hq;subst er
    go_wp2_with (go_at_call 94; refine HW.out.mono ?_; rintro e w1 ⟨rfl, hw⟩; replace hw := hw.symm; subst hw)
    go_ret;exact ⟨rfl, HBz.out⟩
   | true =>
    rw [hq] at HW;have hr : 0 ≤ y ∧ y < n := by simp [inB] at hq; omega
    obtain ⟨m, rfl⟩ : ∃ m : Nat, y = m := ⟨y.toNat, by omega⟩;have m0 : (0 : Int) ≤ m := by omega
    have m1 : (m : Int) < n := by omega
    have HI2 := hid (all_step HG.out hq HI.out);obtain ⟨g1, g2⟩ := HM.out m (by omega)
    cases hs : (params.take i).contains (m : Int) with
    | true =>
     rw [hs] at g1
     have er : r = false := by
      rw [List.contains_iff_mem] at hs;obtain ⟨k, hk⟩ := List.getElem?_of_mem hs;have hki : k < i := by have := (List.getElem?_eq_some_iff.1 hk).1; simp at this; omega
      rw [List.getElem?_take, if_pos hki] at hk;exact HP2.out k i m hki hk HG.out
     subst er;clear hs hq hr
     go_wp2_with (go_at_call 94; refine HW.out.mono ?_; rintro e w1 ⟨rfl, hw⟩; replace hw := hw.symm; subst hw)
     go_ret;exact ⟨rfl, HBz.out⟩
    | false =>
     rw [hs] at g1
     have HJ2 : Hid (∀ (a j : Nat) x y, a < j → j < i + 1 → params[a]? = some x → params[j]? = some y → x ≠ y) := fun a j x' y' h1 h2 h3 h4 => by
      by_cases e : j = i
      ·subst e; rw [HG.out] at h4; cases h4
       intro e2; subst e2;have : (m : Int) ∈ params.take j := List.mem_of_getElem? (i := a) (by rw [List.getElem?_take, if_pos h1]; exact h3);rw [← List.contains_iff_mem, hs] at this
       cases this
      ·exact HJ.out a j x' y' h1 (by omega) h3 h4
     have HM2 := hid (marks_step HM.out (by omega) HG.out);clear hs hq hr
     go_wp2_with (go_at_call 94; refine HW.out.mono ?_; rintro e w1 ⟨rfl, hw⟩; replace hw := hw.symm; subst hw)
     go_roundw
     case rel => exact ⟨i + 1, by omega, by simp, HI2, HJ2, HM2, hid (bel_set HBz.out (by simp) _)⟩
     case measure => simp [intOf]; omega
  ·obtain rfl : np = i := by omega
   have er : r = true := HP3.out HI.out HJ.out;subst er;go_wp2;go_ret;exact ⟨rfl, HBz.out⟩
theorem hasParams_any {w : World} {fb fo : Nat} {pv : Value} {params : List Int} {regs : Int} (c1 : w.cell? ⟨fb, fo + 1, none⟩ = some pv) (c2 : w.cell? ⟨fb, fo + 2, none⟩ = some (.int .i64 regs)) (h : IL w pv params) (h0 : 0 ≤ regs) (h1 : regs ≤ 5000) :
  Calls prog 56 #[.pointer (some ⟨fb, fo, none⟩)] w (retP (.bool (parF regs params)) w) := by
 obtain ⟨pa, pcap, pb, po, rfl, hl, ha, hc⟩ := h.parts;obtain ⟨n, rfl⟩ : ∃ n : Nat, regs = n := ⟨regs.toNat, by omega⟩;refine hasParams_walk fb fo pa _ pcap pb po n params _ w c1 c2 (by omega) hl rfl ha hc (fun i x h1 h2 => ?_) (fun i j x h0 h1 h2 => ?_) (fun h1 h2 => ?_)
 ·rw [parF, all_bad h1 h2]; rfl
 ·rw [parF, Bool.and_eq_false_iff]
  right
  rw [decide_eq_false_iff_not];intro hnd;exact nodup_get.1 hnd i j x x h0 h1 h2 rfl
 ·rw [parF, all_good rfl h1, Bool.true_and, decide_eq_true_eq]
  exact nodup_get.2 fun i j x y h3 h4 h5 => h2 i j x y h3 (List.getElem?_eq_some_iff.1 h5).1 h4 h5
end Go.Proofs.YtncondlfngeilaaGreatDoor
namespace Go.Proofs.YtncondlfngeilaaGreatDoor
open Go.ChangeShapes Go.WideShapes Go.ChangeAt Go.RowKit Go.Proofs.Tryz
set_option linter.unusedSimpArgs false
set_option linter.unusedVariables false
set_option maxRecDepth 100000
set_option maxHeartbeats 8000000


theorem insstep {f : Ins → Bool} {l : List Ins} {i : Nat} {x : Ins} (hget : l[i]? = some x) (hf : f x = true) (h : ∀ (j : Nat) y, j < i → l[j]? = some y → f y = true) : ∀ (j : Nat) y, j < i + 1 → l[j]? = some y → f y = true := fun j y hj hy => by
 by_cases e : j = i
 ·subst e; rw [hget] at hy; cases hy; exact hf
 ·exact h j y (by omega) hy

theorem head_eq (regs frame entry n : Int) : (sizesB regs frame n && inB n entry) = !headL regs frame entry n := by
 unfold sizesB inB headL withinB;rw [Bool.eq_iff_iff];simp
 omega
theorem isRight_walk (fb fo : Nat) (ca : Option Addr) (n cap cb co : Nat) (entry : Int) (code : List Ins) (sz nd pr r : Bool) (cf : Ins → Bool) (w : World) (f4 : w.cell? ⟨fb, fo + 4, none⟩ = some (.int .i64 entry)) (f5 : w.cell? ⟨fb, fo + 5, none⟩ = some (.slice ca n cap)) (hn : n * 88 ≤ 140737488355328) (HN : Hid (n = code.length)) (HA : Hid (0 < n → ca = some ⟨cb, co, none⟩))
  (HSZ : Hid (∀ W : World, W = w → Calls prog 54 #[.pointer (some ⟨fb, fo, none⟩)] W fun e w' => e = .returned (.bool sz) ∧ w' = W))
  (HND : Hid (∀ W : World, W = w → Calls prog 55 #[.pointer (some ⟨fb, fo, none⟩), .int .i64 entry] W fun e w' => e = .returned (.bool nd) ∧ w' = W))
  (HPR : Hid (sz = true → Calls prog 56 #[.pointer (some ⟨fb, fo, none⟩)] w (retP (.bool pr) w)))
  (HTK : Hid (sz = true → ∀ W (i : Nat) x, Below w.heap.size w W → code[i]? = some x → Calls prog 57 #[.pointer (some ⟨fb, fo, none⟩), .pointer (some ⟨cb, co + i * 9, none⟩)] W (retP (.bool (cf x)) W)))
  (HE : Hid (r = ((sz && nd) && (pr && code.all cf)))) :
  Calls prog 30 #[.pointer (some ⟨fb, fo, none⟩)] w (retP (.bool r) w) := by
 have hnm : (n : Int) ≤ 9223372036854775807 := by omega
 cases sz with
 | false =>
  have er : r = false := by rw [HE.out]; rfl
  subst er
  go_enter func30, ntmps30
  go_wp2_with (go_at_call 54; refine (HSZ.out _ rfl).mono ?_; rintro e w1 ⟨rfl, hw⟩; subst hw)
  go_ret;exact ⟨rfl, Below.refl _ _⟩
 | true =>
  replace HPR := hid (HPR.out rfl);replace HTK := hid (HTK.out rfl)
  cases nd with
  | false =>
   have er : r = false := by rw [HE.out]; rfl
   subst er
   go_enter func30, ntmps30
   go_wp2_with (first | (go_at_call 54; refine (HSZ.out _ rfl).mono ?_; rintro e w1 ⟨rfl, hw⟩; subst hw) | (go_at_call 55; refine (HND.out _ rfl).mono ?_; rintro e w1 ⟨rfl, hw⟩; subst hw))
   go_ret;exact ⟨rfl, Below.refl _ _⟩
  | true =>
   cases pr with
   | false =>
    have er : r = false := by rw [HE.out]; rfl
    subst er
    go_enter func30, ntmps30
    go_wp2_with (first | (go_at_call 54; refine (HSZ.out _ rfl).mono ?_; rintro e w1 ⟨rfl, hw⟩; subst hw) | (go_at_call 55; refine (HND.out _ rfl).mono ?_; rintro e w1 ⟨rfl, hw⟩; subst hw) | (go_at_call 56; refine HPR.out.mono ?_; rintro e w2 ⟨rfl, hb2⟩; have HB2 := hid hb2; clear hb2))
    go_ret;exact ⟨rfl, HB2.out⟩
   | true =>
    have HE2 : Hid (r = code.all cf) := by show _ = _; rw [HE.out]; rfl
    have HB : Hid (∀ (i : Nat) x, code[i]? = some x → cf x = false → r = false) := fun i x h1 h2 => by rw [HE2.out]; exact List.all_eq_false.2 ⟨x, List.mem_of_getElem? h1, by simp [h2]⟩
    clear HE
    go_enter func30, ntmps30
    go_wp2_with (first | (go_at_call 54; refine (HSZ.out _ rfl).mono ?_; rintro e w1 ⟨rfl, hw⟩; subst hw) | (go_at_call 55; refine (HND.out _ rfl).mono ?_; rintro e w1 ⟨rfl, hw⟩; subst hw) | (go_at_call 56; refine HPR.out.mono ?_; rintro e w2 ⟨rfl, hb2⟩; have HB2 := hid hb2; replace f5 := keep_cell hb2 f5; clear hb2))
    go_loopw [26] (fun vv wz => ∃ i : Nat, i ≤ n ∧ vv = .int .i64 i ∧ Hid (∀ (j : Nat) x, j < i → code[j]? = some x → cf x = true) ∧ Hid (Below w2.heap.size w2 wz)) (fun vv _ => n - (intOf vv).toNat)
    case atStart => exact ⟨0, by omega, rfl, fun j x hj => by omega, Below.refl _ _⟩
    case round =>
     obtain ⟨i, hi, rfl, HI, HBz⟩ := hrel
     rename World => wz
     have g5 := keep_cell HBz.out f5
     by_cases hin : i < n
     ·obtain rfl := HA.out (by omega)
      have j0 : (0 : Int) ≤ i := by omega
      have j1 : (i : Int) < n := by omega
      have hget := List.getElem?_eq_getElem (l := code) (show i < code.length by rw [← HN.out]; exact hin)
      generalize code[i]'(by rw [← HN.out]; exact hin) = x at hget
      have HG := hid hget;have HT1 := hid (HTK.out wz i x (bel_trans HB2.out HBz.out) hget);clear hget
      cases hq : cf x with
      | false =>
       rw [hq] at HT1;have er := HB.out i x HG.out hq;subst er
       go_wp2_with (go_at_call 57; refine HT1.out.mono ?_; rintro e w3 ⟨rfl, hb3⟩; have HB3 := hid (bel_trans (bel_trans HB2.out HBz.out) hb3); clear hb3)
       go_ret;exact ⟨rfl, HB3.out⟩
      | true =>
       rw [hq] at HT1;have HI2 := hid (insstep HG.out hq HI.out)
       go_wp2_with (go_at_call 57; refine HT1.out.mono ?_; rintro e w3 ⟨rfl, hb3⟩; have HB3 := hid (bel_trans HBz.out hb3); clear hb3)
       go_roundw
       case rel => exact ⟨i + 1, by omega, by simp, HI2, HB3⟩
       case measure => simp [intOf]; omega
     ·obtain rfl : n = i := by omega
      have er : r = true := by
       rw [HE2.out];refine List.all_eq_true.2 fun x hx => ?_;obtain ⟨j, hj⟩ := List.getElem?_of_mem hx;exact HI.out j x (by rw [HN.out]; exact (List.getElem?_eq_some_iff.1 hj).1) hj
      subst er;go_wp2;go_ret;exact ⟨rfl, bel_trans HB2.out HBz.out⟩
theorem isRight_any {w : World} {fb fo : Nat} {f : Fn} (hf : FnAt w fb fo f) (ht : ShTab w) : Calls prog 30 #[.pointer (some ⟨fb, fo, none⟩)] w (retP (.bool (RightF f)) w) := by
 have hf' := hf;obtain ⟨pv, cv, hp, hc, _, _, f1, f2, f3, f4, f5⟩ := hf;obtain ⟨ca, cap, cb, co, rfl, hl, ha, hcc⟩ := hc.parts
 have hb : ∀ h : sizesB f.regs f.frame f.code.length = true, 0 ≤ f.regs ∧ f.regs ≤ 5000 := fun h => by
  unfold sizesB withinB at h;simp at h
  omega
 refine isRight_walk fb fo ca f.code.length cap cb co f.entry f.code _ _ (parF f.regs f.params) _ (rightF f.regs f.frame f.code.length) w f4 f5 hl rfl ha (fun W hW => by subst hW; exact hasSizes_any fb fo _ cap ca f.regs f.frame _ f2 f3 f5) (fun W hW => by subst hW; exact hasNode_any fb fo _ cap ca f.entry _ f5 (by omega)) (fun h => hasParams_any f1 f2 hp (hb h).1 (hb h).2) (fun h W i x hW hx => takes_any (hf'.keep hW) ((hcc i x hx).keep hW) (ht.keep hW) (hb h).1 (hb h).2) ?_
 show RightF f = _
 rw [head_eq]
 rfl

end Go.Proofs.YtncondlfngeilaaGreatDoor
namespace Go.Proofs.YtncondlfngeilaaGreatDoor
open Go.ChangeShapes Go.WideShapes Go.ChangeAt Go.RowKit Go.Proofs.Tryz
set_option linter.unusedSimpArgs false
set_option linter.unusedVariables false
set_option maxHeartbeats 2000000

theorem right_parts {f : Fn} (h : RightF f = true) : 0 ≤ f.regs ∧ f.regs ≤ 5000 ∧ f.code.length ≤ 5000 ∧ ∀ x ∈ f.code, rightF f.regs f.frame f.code.length x = true := by
 unfold RightF at h;rw [Bool.and_eq_true, Bool.and_eq_true] at h;obtain ⟨h1, h2, h3⟩ := h;have h1' : headL f.regs f.frame f.entry f.code.length = false := by simpa using h1
 unfold headL at h1';simp at h1';exact ⟨by omega, by omega, by omega, List.all_eq_true.1 h3⟩
theorem fn_at {w : World} {f : Fn} {pa ca : Option Addr} {pc cap : Nat} (hp : IL w (.slice pa f.params.length pc) f.params) (hc : CodeAt w (.slice ca f.code.length cap) f.code) (hn : f.name.size ≤ 140737488355328) :
  FnAt (w.alloc (.cells #[.string f.name, .slice pa f.params.length pc, .int .i64 f.regs, .int .i64 f.frame, .int .i64 f.entry, .slice ca f.code.length cap] 25)) w.heap.size 0 f := by
 have hb : Below w.heap.size w (w.alloc (.cells #[.string f.name, .slice pa f.params.length pc, .int .i64 f.regs, .int .i64 f.frame, .int .i64 f.entry, .slice ca f.code.length cap] 25)) := bel_alloc (Below.refl _ _) _;exact ⟨_, _, hp.keep hb, hc.keep hb, hn, by simp, by simp, by simp, by simp, by simp, by simp⟩
theorem pright_any {w : World} {v : Value} {f : Fn} (hf : FnV w v f) (ht : ShTab w) : Calls prog 16 #[v] w (retP (.bool (RightF f)) w) := by
 obtain ⟨pv, cv, rfl, hp, hc, hn⟩ := hf;obtain ⟨pa, pc, rfl, _⟩ := hp.partsF;obtain ⟨ca, cap, _, _, rfl, _⟩ := hc.parts;have HA := hidF (isRight_any (fn_at hp hc hn) (ht.keep (bel_alloc (Below.refl _ _) _)))
 generalize RightF f = r at *
 go_enter func16, ntmps16
 go_wp2_with (go_at_call 30; refine HA.out.mono ?_; rintro e w1 ⟨rfl, hb1⟩)
 go_ret;exact ⟨rfl, bel_trans (bel_alloc (Below.refl _ _) _) hb1⟩
end Go.Proofs.YtncondlfngeilaaGreatDoor
namespace Go.Proofs.YtncondlfngeilaaGreatDoor
open Go.ChangeShapes Go.WideShapes Go.ChangeAt Go.RowKit Go.Proofs.Tryz
set_option linter.unusedSimpArgs false
set_option linter.unusedVariables false
set_option maxRecDepth 100000
set_option maxHeartbeats 8000000

theorem goal_walk (w : World) (fname : ByteArray) (pa : Option Addr) (pn pc : Nat) (regs frm ent : Int) (cb co n cap k : Nat) (code : List Ins) (hn : n ≤ 100000) (hk : k < n) (HN : Hid (code.length = n)) (HIN : Hid (∀ (i : Nat) x, code[i]? = some x → InsAt w cb (co + i * 9) x)) (HSX : Hid (∀ x ∈ code, x.op = 1 → 0 ≤ x.s ∧ x.s < n)) :
  Calls prog 9 #[.agg #[.string fname, .slice pa pn pc, .int .i64 regs, .int .i64 frm, .int .i64 ent, .slice (some ⟨cb, co, none⟩) n cap], .int .i64 (k : Int)] w (retP (.int .i64 (goalF code k : Int)) w) := by
 have hnm : (n : Int) ≤ 9223372036854775807 := by omega
 obtain ⟨r, hr⟩ : ∃ r, goalN code (n + 1) k = r := ⟨_, rfl⟩;have HG : Hid (goalF code k = r.getD k) := by show _ = _; unfold goalF; rw [HN.out, hr]
 have HR := hidF hr;clear hr
 go_enter func9, ntmps9
 go_upto_region 2 with fail
 refine gwp_namedF (fun W => Below w.heap.size w W ∧ W.heap[w.heap.size]? = some (.cells #[.string fname, .slice pa pn pc, .int .i64 regs, .int .i64 frm, .int .i64 ent, .slice (some ⟨cb, co, none⟩) n cap] 25 (0, 0))) ⟨bel_alloc (Below.refl _ _) _, xheap_new w _⟩ ?_;rintro W1 ⟨hb1, hFB⟩;have HB1 := hidF hb1;have f5 := xheap_cell (o := 5) hFB rfl;have HI1 : Hid (∀ (i : Nat) x, code[i]? = some x → InsAt W1 cb (co + i * 9) x) := fun i x hx => (HIN.out i x hx).keep HB1.out;clear hb1 hFB;go_wp2
 go_loopw [5, 6] (fun v5 v6 wz => wz = W1 ∧ ∃ i q : Nat, i ≤ n + 1 ∧ q < n ∧ v5 = .int .i64 (q : Int) ∧ v6 = .int .i64 (i : Int) ∧ Hid (goalN code (n + 1 - i) q = r)) (fun _ v6 _ => n + 1 - (intOf v6).toNat)
 case atStart => exact ⟨rfl, 0, k, by omega, hk, rfl, rfl, HR⟩
 case round =>
  obtain ⟨rfl, i, q, hi, hq, rfl, rfl, HQ⟩ := hrel
  by_cases hin : i < n + 1
  ·have j0 : (0 : Int) ≤ q := by omega
   have j1 : (q : Int) < n := by omega
   have c1 : decide ((i : Int) ≤ n) = true := by simp; omega
   have c2 : decide (i ≤ n) = true := by simp; omega
   have hget := List.getElem?_eq_getElem (l := code) (show q < code.length by rw [HN.out]; exact hq)
   generalize code[q]'(by rw [HN.out]; exact hq) = x at hget
   obtain ⟨v, _, e0, e1, e2, e3, e4, e5, e6, e7, e8⟩ := HI1.out q x hget
   have hst : goalN code (n + 1 - i) q = if x.op = 1 then goalN code (n - i) x.s.toNat else some q := by
    rw [show n + 1 - i = (n - i) + 1 by omega]
    show (match code[q]? with | some x => _ | none => _) = _
    rw [hget]
   have hsx := HSX.out x (List.mem_of_getElem? hget);clear e1 e2 e3 e4 e5 e6 e8 hget
   by_cases h1 : x.op = 1
   ·have q1 : (x.op != 1) = false := by rw [h1]; rfl
    have hs1 := hsx h1;obtain ⟨sn, hsn⟩ : ∃ sn : Nat, x.s = sn := ⟨x.s.toNat, by omega⟩;rw [if_pos h1, hsn, Int.toNat_natCast] at hst;rw [hsn] at e7
    have HQ2 : Hid (goalN code (n + 1 - (i + 1)) sn = r) := by
     show _ = _
     rw [show n + 1 - (i + 1) = n - i by omega, ← hst];exact HQ.out
    have hs2 : sn < n := by omega
    clear h1 hsx hs1 hst hsn HQ;go_wp2
    go_roundw
    case rel => exact ⟨trivial, i + 1, sn, by omega, hs2, rfl, by simp, HQ2⟩
    case measure => simp [intOf]; omega
   ·have q1 : (x.op != 1) = true := by simpa using h1
    rw [if_neg h1] at hst
    have HE : Hid (goalF code k = q) := by
     show _ = _
     rw [HG.out, ← HQ.out, hst]
     rfl
    clear h1 hsx hst HQ e7;go_wp2;go_ret;rw [HE.out];exact ⟨rfl, HB1.out⟩
  ·obtain rfl : i = n + 1 := by omega
   have c1 : decide (((n + 1 : Nat) : Int) ≤ n) = false := by simp; omega
   have c2 : decide (n + 1 ≤ n) = false := by simp
   have c3 : decide ((n : Int) + 1 ≤ n) = false := by simp; omega
   have HE : Hid (goalF code k = k) := by
    show _ = _
    rw [HG.out, ← HQ.out, Nat.sub_self]
    rfl
   clear HQ;go_wp2;go_ret;rw [HE.out];exact ⟨rfl, HB1.out⟩
theorem inB_iff {n x : Int} : inB n x = true ↔ 0 ≤ x ∧ x < n := by
 unfold inB;simp
theorem good_parts {f : Fn} (h : RightF f = true) : 0 < f.code.length ∧ f.code.length ≤ 5000 ∧ (0 ≤ f.entry ∧ f.entry < f.code.length) ∧ ∀ x ∈ f.code, (x.op ≠ 12 → 0 ≤ x.s ∧ x.s < f.code.length) ∧ (x.op = 11 → 0 ≤ x.t ∧ x.t < f.code.length) := by
 obtain ⟨h0, h5, h5n, hri⟩ := right_parts h;have h' := h;unfold RightF at h';rw [Bool.and_eq_true] at h';have h1 : headL f.regs f.frame f.entry f.code.length = false := by simpa using h'.1
 unfold headL at h1;simp at h1;refine ⟨by omega, by omega, by omega, fun x hx => ?_⟩;have q := hri x hx;rw [← takes_right _ _ _ _ h0] at q;unfold takesF at q;simp only [Bool.and_eq_true] at q;have hs := List.all_eq_true.1 q.2.2.2.1;unfold succsF at hs;refine ⟨fun h12 => ?_, fun h11 => ?_⟩
 ·rw [if_neg h12] at hs
  split at hs
  ·exact inB_iff.1 (hs x.s (by simp))
  ·exact inB_iff.1 (hs x.s (by simp))
 ·rw [if_neg (by omega), if_pos h11] at hs
  exact inB_iff.1 (hs x.t (by simp))
end Go.Proofs.YtncondlfngeilaaGreatDoor
