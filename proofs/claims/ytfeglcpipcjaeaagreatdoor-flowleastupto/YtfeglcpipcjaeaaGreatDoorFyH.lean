import Derived.Test.YtfeglcpipcjaeaaGreatDoorFyD
import Derived.Test.YtfeglcpipcjaeaaGreatDoorFyE
import Derived.Test.YtfeglcpipcjaeaaGreatDoorFyG
import Derived.Deep.Slices
import Derived.Deep.SlicePairs
import Derived.Deep.Strs
import Derived.OpenShut
import Derived.Test.YtfeglcpipcjaeaaGreatDoorGLeaf
import Derived.Test.YtfeglcpipcjaeaaGreatDoorEvRow
namespace Go.Proofs.YtfeglcpipcjaeaaGreatDoor
open Go.ChangeShapes Go.WideShapes Go.ChangeAt Go.RowKit Go.Proofs.Tryz
set_option linter.unusedSimpArgs false
set_option linter.unusedVariables false
set_option maxRecDepth 100000
set_option maxHeartbeats 4000000

theorem inB_iff {m x : Int} : inB m x = true ↔ 0 ≤ x ∧ x < m := by unfold inB; simp
theorem target_in {t d regs : Int} (h : targetB t d regs = true) (hr : readB t d = true) : 0 ≤ d ∧ d < regs := by
 unfold targetB at h;unfold readB at hr;simp at h hr
 rcases h with (e | e) | e
 ·exact absurd e hr.1
 ·exact absurd e.2 hr.2
 ·exact inB_iff.1 e
theorem us_eq {regs frame n : Int} {i : Ins} (h0 : 0 ≤ regs) (h : rightF regs frame n i = true) : usX i = usR i := by
 have ht := h;rw [← takes_right regs frame n i h0] at ht;obtain ⟨op, sub, a, b, d, k, args, s, t⟩ := i
 by_cases h10 : op = 10
 ·subst h10
  have hu2 : usesF 10 a b args = args := by simp [usesF, useA, useB]
  have hc : args.contains (-1) = false := by
   cases hc : args.contains (-1) with
   | false => rfl
   | true =>
    unfold rightF rightL at h;have : (usesF 10 a b args).all (inB regs) = false := by rw [hu2]; exact all_neg hc
    simp only [this, Bool.false_and, Bool.and_false] at h
    cases h
  show usP (shOf 10) a b (if (shOf 10).args = true then args else []) = usesF 10 a b args
  rw [hu2]
  show (if readB 0 a = true then [a] else []) ++ ((if readB 0 b = true then [b] else []) ++ args.filter (· != -1)) = args
  rw [filter_none hc];simp [readB]
 ·rcases op_cases op with rfl | rfl | rfl | rfl | rfl | rfl | rfl | rfl | rfl | rfl | rfl | rfl | rfl | rfl | ho
  case inr.inr.inr.inr.inr.inr.inr.inr.inr.inr.inr.inr.inr.inr =>
   have e1 : gnameB (shOf op) = true := by
    by_cases h : op = 0
    ·subst h; rfl
    ·rw [shOf_none (by omega)]; rfl
   unfold takesF at ht;simp [e1] at ht
  all_goals first
   | exact absurd rfl h10
   | (by_cases ha : a = -1 <;> by_cases hb : b = -1 <;> simp [usX, usR, shOf, spTab, usP, usesF, useA, useB, readB, ha, hb])
theorem wr_eq {regs frame n : Int} {i : Ins} (h0 : 0 ≤ regs) (h : rightF regs frame n i = true) : wrX i = wrR i := by
 have ht := h;rw [← takes_right regs frame n i h0] at ht;obtain ⟨op, sub, a, b, d, k, args, s, t⟩ := i
 rcases op_cases op with rfl | rfl | rfl | rfl | rfl | rfl | rfl | rfl | rfl | rfl | rfl | rfl | rfl | rfl | ho
 case inr.inr.inr.inr.inr.inr.inr.inr.inr.inr.inr.inr.inr.inr =>
  have e1 : gnameB (shOf op) = true := by
   by_cases h : op = 0
   ·subst h; rfl
   ·rw [shOf_none (by omega)]; rfl
  unfold takesF at ht;simp [e1] at ht
 all_goals (simp [takesF, glastB, shOf, spTab, targetB, withinB] at ht; simp [wrX, wrR, shOf, spTab, readB, writesF, wrOps])
 all_goals
  have hd : d = -1 ∨ 0 ≤ d := by first | exact .inr (inB_iff.1 ht.2.2.2.2.1).1 | exact .inr (inB_iff.1 ht.2.2.2.2.1.1).1 | exact ht.2.2.2.2.1.imp id (fun q => (inB_iff.1 q).1)
  rcases hd with e | e
  ·simp [e]
  ·rw [if_neg (by omega), if_pos e]
theorem right_parts {f : Fn} (h : RightF f = true) : 0 ≤ f.regs ∧ f.regs ≤ 5000 ∧ f.code.length ≤ 5000 ∧ ∀ x ∈ f.code, rightF f.regs f.frame f.code.length x = true := by
 unfold RightF at h;rw [Bool.and_eq_true, Bool.and_eq_true] at h;obtain ⟨h1, h2, h3⟩ := h;have h1' : headL f.regs f.frame f.entry f.code.length = false := by simpa using h1
 unfold headL at h1';simp at h1';exact ⟨by omega, by omega, by omega, List.all_eq_true.1 h3⟩
def sumU (code : List Ins) : Nat := (code.map fun x => x.args.length).sum
theorem usX_length (x : Ins) : (usX x).length ≤ x.args.length + 2 := by
 have hf : ∀ l : List Int, (l.filter (· != -1)).length ≤ l.length := fun l => List.length_filter_le _ _;have h1 : (if (shOf x.op).args = true then x.args else []).length ≤ x.args.length := by split <;> simp
 unfold usX usP;rw [List.length_append, List.length_append];have h2 := hf (if (shOf x.op).args = true then x.args else []);have h3 : (if readB (shOf x.op).a x.a = true then [x.a] else []).length ≤ 1 := by split <;> simp
 have h4 : (if readB (shOf x.op).b x.b = true then [x.b] else []).length ≤ 1 := by split <;> simp
 omega
theorem esU_length (code : List Ins) : ∀ i, i ≤ code.length → (esG usX code i).length ≤ sumU (code.take i) + 2 * i
 | 0, _ => by simp [esG]
 | i + 1, hi => by
  have h1 := esU_length code i (by omega);have hg := List.getElem?_eq_getElem (l := code) (show i < code.length by omega);rw [esG_succ hg, List.length_append];have h2 : (edN i (usX code[i])).length = (usX code[i]).length := by simp [edN]
  have h3 := usX_length code[i]
  have h4 : sumU (code.take (i + 1)) = sumU (code.take i) + code[i].args.length := by
   unfold sumU;rw [List.take_add_one, hg, List.map_append, List.sum_append]
   rfl
  omega
theorem sumU_take (code : List Ins) (i : Nat) : sumU (code.take i) ≤ sumU code := by
 have h : sumU (code.take i) + sumU (code.drop i) = sumU code := by
  unfold sumU;rw [← List.sum_append, ← List.map_append, List.take_append_drop]
 omega
theorem codeOk_of {f : Fn} (h : RightF f = true) (hu : sumU f.code ≤ 100000000) : CodeOk f.regs.toNat f.code.length f.code := by
 obtain ⟨h0, h1, h2, h3⟩ := right_parts h;have hr : ((f.regs.toNat : Nat) : Int) = f.regs := Int.toNat_of_nonneg h0
 have hp : ∀ x ∈ f.code, ((usesF x.op x.a x.b x.args).all (inB f.regs) = true) ∧ (sxF x).all (inB f.code.length) = true ∧ (∀ y ∈ wrR x, 0 ≤ y ∧ y < f.regs) := fun x hx => by
  have q := h3 x hx;have q2 := q;rw [← takes_right f.regs f.frame f.code.length x h0] at q2;unfold takesF at q2;simp only [Bool.and_eq_true] at q2;refine ⟨?_, q2.2.2.2.1, ?_⟩
  ·have : usX x = usR x := us_eq h0 q
   rw [show usesF x.op x.a x.b x.args = usX x from this.symm];exact q2.2.2.1
  ·rw [← wr_eq h0 q]
   intro y hy;unfold wrX at hy
   split at hy
   ·rename_i hrd
    have e : y = x.d := by simpa using hy
    subst e;have ht := q2.2.2.2.2;unfold glastB at ht;simp only [Bool.and_eq_true] at ht;exact target_in ht.1.1 hrd
   ·cases hy
 refine ⟨rfl, fun x hx y hy => ?_, fun x hx y hy => ?_, fun x hx y hy => ?_, fun i hi => ?_⟩
 ·rw [us_eq h0 (h3 x hx)] at hy
  rw [hr];exact inB_iff.1 (List.all_eq_true.1 (hp x hx).1 y hy)
 ·rw [wr_eq h0 (h3 x hx)] at hy
  rw [hr];exact (hp x hx).2.2 y hy
 ·exact inB_iff.1 (List.all_eq_true.1 (hp x hx).2.1 y hy)
 ·have := esU_length f.code i hi
  have := sumU_take f.code i
  omega
theorem few_walk (fname : ByteArray) (pa : Option Addr) (pn pc : Nat) (regs frm ent : Int) (ca : Option Addr) (N cap : Nat) (w : World) (q1 q2 : Bool) (h1 : decide ((N : Int) ≤ 50) = q1) (h2 : decide (regs ≤ 30) = q2) :
  Calls prog 8 #[.agg #[.string fname, .slice pa pn pc, .int .i64 regs, .int .i64 frm, .int .i64 ent, .slice ca N cap]] w (retP (.bool (q1 && q2)) w) := by
 cases q1 with
 | false =>
  go_enter func8, ntmps8
  go_wp2;go_ret;exact ⟨by simp, (by repeat (first | with_reducible exact Below.refl _ _ | with_reducible refine bel_alloc ?_ _ | with_reducible refine bel_set ?_ (by first | exact Nat.le_refl _ | (simp; done) | (simp; omega)) _ | with_reducible refine Below.drew ?_ | refine bel_trans ?_ (by assumption)))⟩
 | true =>
  go_enter func8, ntmps8
  go_wp2;go_ret;exact ⟨by simp [h2], (by repeat (first | with_reducible exact Below.refl _ _ | with_reducible refine bel_alloc ?_ _ | with_reducible refine bel_set ?_ (by first | exact Nat.le_refl _ | (simp; done) | (simp; omega)) _ | with_reducible refine Below.drew ?_ | refine bel_trans ?_ (by assumption)))⟩
theorem fn_at {w : World} {f : Fn} {pa ca : Option Addr} {pc cap : Nat} (hp : IL w (.slice pa f.params.length pc) f.params) (hc : CodeAt w (.slice ca f.code.length cap) f.code) (hn : f.name.size ≤ 140737488355328) :
  FnAt (w.alloc (.cells #[.string f.name, .slice pa f.params.length pc, .int .i64 f.regs, .int .i64 f.frame, .int .i64 f.entry, .slice ca f.code.length cap] 25)) w.heap.size 0 f := by
 have hb : Below w.heap.size w (w.alloc (.cells #[.string f.name, .slice pa f.params.length pc, .int .i64 f.regs, .int .i64 f.frame, .int .i64 f.entry, .slice ca f.code.length cap] 25)) := bel_alloc (Below.refl _ _) _;exact ⟨_, _, hp.keep hb, hc.keep hb, hn, by simp, by simp, by simp, by simp, by simp, by simp⟩
theorem pright_any {w : World} {v : Value} {f : Fn} (hf : FnV w v f) (ht : ShTab w) : Calls prog 24 #[v] w (retP (.bool (RightF f)) w) := by
 obtain ⟨pv, cv, rfl, hp, hc, hn⟩ := hf;obtain ⟨pa, pc, rfl, _⟩ := hp.partsF;obtain ⟨ca, cap, _, _, rfl, _⟩ := hc.parts;have HA := hidF (isRight_any (fn_at hp hc hn) (ht.keep (bel_alloc (Below.refl _ _) _)))
 generalize RightF f = r at *
 go_enter func24, ntmps24
 go_wp2_with (go_at_call 37; refine HA.out.mono ?_; rintro e w1 ⟨rfl, hb1⟩)
 go_ret;exact ⟨rfl, bel_trans (bel_alloc (Below.refl _ _) _) hb1⟩
def retL (f : Fn) (w : World) : Ending → World → Prop := fun e W => if RightF f = true then ∃ NB rv, e = .returned (.tuple #[.slice (some ⟨NB, 0, none⟩) f.code.length f.code.length, .int .i64 0]) ∧ NI w.heap.size NB f.code.length rv (lvL usX wrX sxF f.code f.regs.toNat) W ∧ Below w.heap.size w W
 else e = .returned (.tuple #[.slice none 0 0, .int .i64 1]) ∧ Below w.heap.size w W
theorem flive_any {w : World} {v : Value} {f : Fn} (hf : FnV w v f) (ht : ShTab w) (hu : sumU f.code ≤ 100000000) : Calls prog 9 #[v] w (retL f w) := by
 have hf' := hf;obtain ⟨pv, cv, rfl, hp, hc, hn⟩ := hf;obtain ⟨pa, pc, rfl, _⟩ := hp.partsF;obtain ⟨ca, cap, cb, co, rfl, h88, hca, hins⟩ := hc.parts;have HB1 : Hid (Below w.heap.size w (w.alloc (.cells #[.string f.name, .slice pa f.params.length pc, .int .i64 f.regs, .int .i64 f.frame, .int .i64 f.entry, .slice ca f.code.length cap] 25))) := bel_alloc (Below.refl _ _) _;have HFV := hidF (hf'.keep HB1.out);have HTT := hidF (ht.keep HB1.out)
 cases hr : RightF f with
 | false =>
  have HE : Hid (∀ W, Below w.heap.size w W → retL f w (.returned (.tuple #[.slice none 0 0, .int .i64 1])) W) := fun W hb => by unfold retL; rw [if_neg (by rw [hr]; simp)]; exact ⟨rfl, hb⟩
  have HPR := hidF (pright_any HFV.out HTT.out);rw [hr] at HPR
  go_enter func9, ntmps9
  go_wp2_with (go_at_call 24; refine HPR.out.mono ?_; rintro e w1 ⟨rfl, hb1⟩)
  have HB2 := hidF (bel_trans HB1.out hb1);exact bodyPost_ret (by simp [results, results9, go_sem]) rfl (HE.out _ HB2.out)
 | true =>
  have HE : Hid (∀ W NB rv, NI w.heap.size NB f.code.length rv (lvL usX wrX sxF f.code f.regs.toNat) W → Below w.heap.size w W → retL f w (.returned (.tuple #[.slice (some ⟨NB, 0, none⟩) f.code.length f.code.length, .int .i64 0])) W) := fun W NB rv h1 h2 => by unfold retL; rw [if_pos hr]; exact ⟨NB, rv, rfl, h1, h2⟩
  have HOK := hidF (codeOk_of hr hu);obtain ⟨h0, h1, h2, h3⟩ := right_parts hr;have hrg : f.regs = ((f.regs.toNat : Nat) : Int) := (Int.toNat_of_nonneg h0).symm;have HPR := hidF (pright_any HFV.out HTT.out);rw [hr] at HPR
  have HLV : Hid (∀ W, Below w.heap.size w W → Calls prog 25 #[.agg #[.string f.name, .slice pa f.params.length pc, .int .i64 f.regs, .int .i64 f.frame, .int .i64 f.entry, .slice ca f.code.length cap]] W (retG f.code.length (lvL usX wrX sxF f.code f.regs.toNat) W)) := fun W hb => by
   have h := live_walk W f.name (.slice pa f.params.length pc) f.frame f.entry f.regs.toNat f.code.length cap cb co ca f.code ⟨_, _, _, rfl⟩ (by omega) (by omega) HOK hca (fun i x hx => (hins i x hx).keep hb) (ht.keep hb);rw [← hrg] at h;exact h
  clear h0 h1 h2 h3 hrg HOK hins hca hf' hp hc ht
  go_enter func9, ntmps9
  go_upto_region 3 with (go_at_call 24; refine HPR.out.mono ?_; rintro e w1 ⟨rfl, hb1⟩)
  have HB2 := hidF (bel_trans HB1.out hb1);have d0 : w1.cell? ⟨w.heap.size, 0, none⟩ = some (.string f.name) := keep_cell hb1 (by simp);have d1 : w1.cell? ⟨w.heap.size, 1, none⟩ = some (.slice pa f.params.length pc) := keep_cell hb1 (by simp);have d2 : w1.cell? ⟨w.heap.size, 2, none⟩ = some (.int .i64 f.regs) := keep_cell hb1 (by simp);have d3 : w1.cell? ⟨w.heap.size, 3, none⟩ = some (.int .i64 f.frame) := keep_cell hb1 (by simp);have d4 : w1.cell? ⟨w.heap.size, 4, none⟩ = some (.int .i64 f.entry) := keep_cell hb1 (by simp);have d5 : w1.cell? ⟨w.heap.size, 5, none⟩ = some (.slice ca f.code.length cap) := keep_cell hb1 (by simp);clear hb1
  go_wp2_with (go_at_call 25; refine (HLV.out w1 HB2.out).mono ?_; rintro e w2 ⟨NB, rv, rfl, hni, hb2, hlo⟩)
  have HN := hidF (And.intro hni hb2);clear hni hb2;exact bodyPost_ret (by simp [results, results9, go_sem]) rfl (HE.out _ _ _ (HN.out.1.base HB2.out.size) (bel_trans HB2.out HN.out.2))
end Go.Proofs.YtfeglcpipcjaeaaGreatDoor
namespace Go.Proofs.YtfeglcpipcjaeaaGreatDoor
open Go.ChangeShapes Go.WideShapes Go.ChangeAt Go.RowKit Go.Proofs.Tryz
set_option linter.unusedSimpArgs false
set_option linter.unusedVariables false
set_option maxHeartbeats 2000000

structure Q1 (w1 : World) (LB N R i : Nat) (rb : Nat → Nat) (t : Nat → Nat → Bool) (W : World) : Prop where
 bel : Below w1.heap.size w1 W
 sz : W.heap.size = LB + 1 + i
 c : ∀ j, j < N → W.cell? ⟨LB, j, none⟩ = some (if j < i then .slice (some ⟨rb j, 0, none⟩) R R else .slice none 0 0) ∧ W.frozen? ⟨LB, j, none⟩ = false
 v : ∀ j, j < i → MetAt W (rb j) R (t j)
theorem Q1.next {w1 : World} {LB N R i : Nat} {rb : Nat → Nat} {t t' : Nat → Nat → Bool} {W : World} (h : Q1 w1 LB N R i rb t W) (hrb : ∀ j, rb j = LB + 1 + j) (hl : w1.heap.size = LB) (hi : i < N) (h1 : ∀ j r, j < i → t j r = t' j r) (h2 : ∀ r, t' i r = false) : Q1 w1 LB N R (i + 1) rb t' ((W.setCell ⟨LB, i, none⟩ (.slice (some ⟨W.heap.size, 0, none⟩) R R)).alloc (.cells (madeCells #[.bool false] R) 4)) := by
 have hri : rb i = W.heap.size := by rw [hrb, h.sz]
 obtain ⟨V, hV⟩ : ∃ V, W.setCell ⟨LB, i, none⟩ (.slice (some ⟨W.heap.size, 0, none⟩) R R) = V := ⟨_, rfl⟩;have hs : V.heap.size = W.heap.size := by rw [← hV]; exact gsize_setF _ _ _
 have hm := made_at V (.bool false) R 4;rw [hs] at hm;have hsz := h.sz;have hbo : ∀ k, k ≠ LB → V.heap[k]? = W.heap[k]? := fun k hk => by rw [← hV]; exact gset_otherF hk
 rw [hV];refine ⟨⟨by rw [show (V.alloc _).os = V.os from rfl, ← hV]; exact h.bel.os, by rw [show (V.alloc _).tape = V.tape from rfl, ← hV]; exact h.bel.tape, by rw [show (V.alloc _).output = V.output from rfl, ← hV]; exact h.bel.output, by rw [World.size_alloc, hs]; have := h.bel.size; omega, fun k hk => ?_⟩, by rw [World.size_alloc, hs, hsz]; omega, fun j hj => ?_, fun j hj => ?_⟩
 ·rw [Below.heap_alloc _ _ _ (by rw [hs]; have := h.bel.size; omega), hbo k (by omega)]
  exact h.bel.block k hk
 ·obtain ⟨q1, q2⟩ := h.c j hj
  have hc : V.cell? ⟨LB, j, none⟩ = some (if j < i + 1 then .slice (some ⟨rb j, 0, none⟩) R R else .slice none 0 0) := by
   rw [← hV]
   by_cases e : j = i
   ·subst e
    rw [World.cell?_setCell_same _ _ _ q1, if_pos (by omega), hri]
   ·rw [World.cell?_setCell_other _ _ _ _ (fun e2 => e (by cases e2; rfl)), q1]
    by_cases e2 : j < i
    ·rw [if_pos e2, if_pos (by omega)]
    ·rw [if_neg e2, if_neg (by omega)]
  have hf : V.frozen? ⟨LB, j, none⟩ = false := by rw [← hV, World.frozen?_setCell]; exact q2
  refine ⟨keep_alloc hc _, keep_frozen (bel_alloc (Below.refl _ _) _) hc hf⟩
 ·by_cases e : j = i
  ·subst e
   rw [hri];exact MetAt.ext hm (fun r _ => (h2 r).symm)
  ·refine MetAt.ext (((h.v j (by omega)).of (hbo _ (by rw [hrb]; omega))).of ?_) (fun r _ => h1 j r (by omega))
   exact Below.heap_alloc _ _ _ (by rw [hs, hrb, hsz]; omega)
theorem Q1.set {w1 : World} {LB N R i n r : Nat} {rb : Nat → Nat} {t t' : Nat → Nat → Bool} {W : World} (h : Q1 w1 LB N R i rb t W) (hrb : ∀ j, rb j = LB + 1 + j) (hl : w1.heap.size = LB) (hn : n < i) (hr : r < R) (ht : ∀ j q, t' j q = if j = n ∧ q = r then true else t j q) : Q1 w1 LB N R i rb t' (W.setCell ⟨rb n, r, none⟩ (.bool true)) := by
 have hnl : LB ≠ rb n := by rw [hrb]; omega
 refine ⟨⟨h.bel.os, h.bel.tape, h.bel.output, by rw [gsize_setF]; exact h.bel.size, fun k hk => (gset_otherF (by rw [hrb]; omega)).trans (h.bel.block k hk)⟩, by rw [gsize_setF]; exact h.sz, fun j hj => ⟨?_, by rw [World.frozen?_setCell]; exact (h.c j hj).2⟩, fun j hj => ?_⟩
 ·rw [World.cell?_setCell_other _ _ _ _ (fun e => by injection e with e; omega)]
  exact (h.c j hj).1
 ·by_cases e : j = n
  ·subst e
   exact (h.v j hj).setB (fun q => by rw [ht]; simp)
  ·exact MetAt.ext ((h.v j hj).of (gset_otherF (by rw [hrb, hrb]; omega))) (fun q _ => by rw [ht, if_neg (by simp [e])])
theorem Q1.ext {w1 : World} {LB N R i : Nat} {rb : Nat → Nat} {t t' : Nat → Nat → Bool} {W : World} (h : Q1 w1 LB N R i rb t W) (e : ∀ j r, j < i → t j r = t' j r) : Q1 w1 LB N R i rb t' W := ⟨h.bel, h.sz, h.c, fun j hj => MetAt.ext (h.v j hj) (fun r _ => e j r hj)⟩
theorem Q1.tb {w1 : World} {LB N R : Nat} {rb : Nat → Nat} {t : Nat → Nat → Bool} {W : World} (h : Q1 w1 LB N R N rb t W) (hrb : ∀ j, rb j = LB + 1 + j) (hl : w1.heap.size = LB) : TB w1.heap.size LB N R rb t W :=
 ⟨fun i hi => by rw [(h.c i hi).1, if_pos hi], fun i hi => h.v i hi, fun i hi => by rw [hrb]; omega, fun i j _ _ e => by rw [hrb, hrb]; omega, fun i hi => by rw [hrb, h.sz]; omega, by omega⟩
noncomputable def ttL (code : List Ins) (R j r : Nat) : Bool := (lvL usX wrX sxF code R j).contains r
noncomputable def tkL (code : List Ins) (R n k j r : Nat) : Bool := if j < n then ttL code R j r else if j = n then ((lvL usX wrX sxF code R n).take k).contains r else false
theorem tkL_lt {code : List Ins} {R n k j r : Nat} (h : j < n) : tkL code R n k j r = ttL code R j r := by unfold tkL; rw [if_pos h]
theorem tkL_zero (code : List Ins) (R n r : Nat) : tkL code R n 0 n r = false := by unfold tkL; rw [if_neg (by omega), if_pos rfl]; simp
theorem tkL_succ {code : List Ins} {R n k y : Nat} (hy : (lvL usX wrX sxF code R n)[k]? = some y) (j q : Nat) : tkL code R n (k + 1) j q = if j = n ∧ q = y then true else tkL code R n k j q := by
 unfold tkL
 by_cases h1 : j < n
 ·rw [if_pos h1, if_pos h1, if_neg (by omega)]
 ·rw [if_neg h1, if_neg h1]
  by_cases h2 : j = n
  ·subst h2
   rw [if_pos rfl, if_pos rfl, List.take_add_one, hy]
   by_cases h3 : q = y
   ·subst h3; simp
   ·have h4 : y ≠ q := Ne.symm h3
    simp [h3]
  ·rw [if_neg h2, if_neg h2, if_neg (by simp [h2])]
theorem tkL_full (code : List Ins) (R n j r : Nat) (hj : j < n + 1) : tkL code R n (lvL usX wrX sxF code R n).length j r = tkL code R (n + 1) 0 j r := by
 unfold tkL;rw [if_pos hj]
 by_cases h1 : j < n
 ·rw [if_pos h1]
 ·obtain rfl : j = n := by omega
  rw [if_neg h1, if_pos rfl, List.take_length]
  rfl
theorem mem_lvL {us wr sx : Ins → List Int} {code : List Ins} {R n r : Nat} : r ∈ lvL us wr sx code R n ↔ r < R ∧ LvP us wr sx code r n := by unfold lvL; simp
theorem ttL_iff {code : List Ins} {R n r : Nat} (hr : r < R) : ttL code R n r = true ↔ LvP usX wrX sxF code r n := by unfold ttL; simp [mem_lvL, hr]
theorem lvL_step0 {us wr sx : Ins → List Int} {code : List Ins} {i n : Nat} : (LvP us wr sx code i n → lvL us wr sx code (i + 1) n = lvL us wr sx code i n ++ [i]) ∧ (¬ LvP us wr sx code i n → lvL us wr sx code (i + 1) n = lvL us wr sx code i n) := by
 unfold lvL;rw [List.range_succ, List.filter_append]
 constructor <;> intro h <;> simp [h]
theorem lvL_rise {us wr sx : Ins → List Int} {code : List Ins} {n : Nat} : ∀ {R k x y : Nat}, (lvL us wr sx code R n)[k]? = some x → (lvL us wr sx code R n)[k + 1]? = some y → x < y
 | 0, k, x, y, h, _ => by simp [lvL] at h
 | R + 1, k, x, y, h1, h2 => by
  by_cases hp : LvP us wr sx code R n
  ·rw [lvL_step0.1 hp] at h1 h2
   have hl2 := (List.getElem?_eq_some_iff.1 h2).1;rw [List.length_append, List.length_singleton] at hl2;rw [List.getElem?_append_left (by omega)] at h1
   by_cases e : k + 1 < (lvL us wr sx code R n).length
   ·rw [List.getElem?_append_left e] at h2
    exact lvL_rise h1 h2
   ·rw [List.getElem?_append_right (by omega)] at h2
    have e2 : k + 1 - (lvL us wr sx code R n).length = 0 := by omega
    rw [e2] at h2;have hy : R = y := by simpa using h2
    have := (mem_lvL.1 (List.mem_of_getElem? h1)).1
    omega
  ·rw [lvL_step0.2 hp] at h1 h2
   exact lvL_rise h1 h2
theorem lv_fix {code : List Ins} {R N n r : Nat} {x : Ins} (hN : code.length = N) (hs : ∀ x ∈ code, ∀ y ∈ sxF x, 0 ≤ y ∧ y < N) (he : ∀ x ∈ code, usX x = usR x ∧ wrX x = wrR x) (hr : r < R) (hx : code[n]? = some x) :
  ttL code R n r = ((usR x).contains (r : Int) || (anyF (ttL code R) (sxF x) r && (writesF x.op x.d != (r : Int)))) := by
 have hm := List.mem_of_getElem? hx;obtain ⟨e1, e2⟩ := he x hm
 have hwr : ((r : Int) ∉ wrX x) ↔ (writesF x.op x.d != (r : Int)) = true := by
  rw [e2];unfold wrR
  split
  ·simp; omega
  ·simp; omega
 have hany : anyF (ttL code R) (sxF x) r = true ↔ ∃ s : Nat, (s : Int) ∈ sxF x ∧ LvP usX wrX sxF code r s := by
  unfold anyF;rw [List.any_eq_true]
  constructor
  ·rintro ⟨y, hy, q⟩
   have := hs x hm y hy;refine ⟨y.toNat, by rw [Int.toNat_of_nonneg this.1]; exact hy, (ttL_iff hr).1 q⟩
  ·rintro ⟨s, h1, h2⟩
   exact ⟨(s : Int), h1, by simpa using (ttL_iff hr).2 h2⟩
 rw [Bool.eq_iff_iff, ttL_iff hr, Bool.or_eq_true, Bool.and_eq_true]
 constructor
 ·intro h
  cases h with
  | use hx2 hu =>
   rw [hx] at hx2
   cases hx2
   left
   rw [← e1];simpa using hu
  | pass hx2 hw hsx hl =>
   rw [hx] at hx2
   cases hx2
   right
   exact ⟨hany.2 ⟨_, hsx, hl⟩, hwr.1 hw⟩
 ·rintro (h | ⟨h1, h2⟩)
  ·exact .use hx (by rw [e1]; simpa using h)
  ·obtain ⟨s, h3, h4⟩ := hany.1 h1
   exact .pass hx (hwr.2 h2) h3 h4
theorem Behind_walk (w : World) (fname : ByteArray) (pa : Option Addr) (pn pc : Nat) (frm ent : Int) (R N cap cb co LB B n : Nat) (ca : Option Addr) (x : Ins) (rb : Nat → Nat) (t : Nat → Nat → Bool) (hR : R ≤ 1000000) (hN : N ≤ 100000) (hn : n < N) (HCA : Hid (ca = some ⟨cb, co, none⟩)) (HIN : Hid (InsAt w cb (co + n * 9) x)) (HT : Hid (TB B LB N R rb t w)) (HLB : Hid (LB < w.heap.size)) (HSX : Hid (∀ y ∈ sxF x, 0 ≤ y ∧ y < N)) :
  Calls prog 12 #[.agg #[.string fname, .slice pa pn pc, .int .i64 (R : Int), .int .i64 frm, .int .i64 ent, .slice ca N cap], .slice (some ⟨LB, 0, none⟩) N N, .int .i64 (n : Int)] w (retM R (anyF t (sxF x)) w) := by
 have hb : Below w.heap.size w (w.alloc (.cells #[.string fname, .slice pa pn pc, .int .i64 (R : Int), .int .i64 frm, .int .i64 ent, .slice ca N cap] 25)) := bel_alloc (Below.refl _ _) _;have HC := hidF (behind_walk (w.alloc (.cells #[.string fname, .slice pa pn pc, .int .i64 (R : Int), .int .i64 frm, .int .i64 ent, .slice ca N cap] 25)) fname pa pn pc frm ent R N cap cb co LB B n ca x rb t hR hN hn HCA (HIN.out.keep hb) (HT.out.below hb) (hidF (by have := HLB.out; simp; omega)) HSX);clear hb
 go_enter func12, ntmps12
 go_wp2_with (go_at_call 27; refine HC.out.mono ?_; rintro e W2 ⟨b, rfl, h1, h2, h3, h4, h5⟩)
 have HX := hidF (And.intro h1 (And.intro h2 (And.intro h3 (And.intro h4 h5))));clear h1 h2 h3 h4 h5;go_ret;obtain ⟨h1, h2, h3, h4, h5⟩ := HX.out;exact ⟨b, rfl, by simp at h1; omega, h2, h3, h4, bel_trans (bel_alloc (Below.refl _ _) _) h5⟩
end Go.Proofs.YtfeglcpipcjaeaaGreatDoor
namespace Go.Proofs.YtfeglcpipcjaeaaGreatDoor
open Go.ChangeShapes Go.WideShapes Go.ChangeAt Go.RowKit Go.Deep Go.Proofs.Tryz
set_option linter.unusedSimpArgs false
set_option linter.unusedVariables false
set_option maxRecDepth 100000

section
variable {H : Type} {enc : TypeId × Value → H} {w : World}
instance : Inhabited Ins := ⟨⟨0, 0, 0, 0, 0, 0, [], 0, 0⟩⟩
theorem gcS : prog.cellsOf 9 = 1 := by kernel_rfl
theorem gcI : prog.cellsOf 3 = 1 := by kernel_rfl
theorem gcL : prog.cellsOf 2 = 1 := by kernel_rfl
theorem gcIs : prog.cellsOf 22 = 1 := by kernel_rfl
theorem gcCs : prog.cellsOf 23 = 1 := by kernel_rfl
theorem gcIn : prog.cellsOf 38 = 9 := by kernel_rfl
theorem gcFn : prog.cellsOf 25 = 6 := by kernel_rfl
theorem gspot_none {a : Addr} {v : Value} (h : w.cell? (a.add 0) = some v) : a = ⟨a.block, a.off, none⟩ := by
 obtain ⟨b, off, spot⟩ := a;have := World.cell?_spot h;have : spot = none := by simpa [Addr.add] using this
 subst this; rfl
theorem ggetElem?_map_range {α : Type} (f : Nat → α) {n i : Nat} {x : α} (h : ((List.range n).map f)[i]? = some x) : i < n ∧ x = f i := by
 rw [List.getElem?_map] at h
 by_cases hi : i < n
 ·rw [List.getElem?_range hi] at h; simp at h; exact ⟨hi, h.symm⟩
 ·rw [List.getElem?_eq_none (by simpa using hi)] at h; simp at h
theorem bulk_one (d : DataW H) : 1 ≤ Rows.uptoBulk d := by
 cases d with
 | lit l => cases l <;> simp [Rows.uptoBulk]
 | _ => simp [Rows.uptoBulk]
theorem bulk_len (l : List (DataW H)) : l.length ≤ Rows.uptoBulkAll l := by
 induction l with
 | nil => simp [Rows.uptoBulkAll]
 | cons x r ih => have := bulk_one x; simp only [Rows.uptoBulkAll, List.length_cons]; omega
theorem bulk_sum (D : Nat → DataW H) (a : Nat → Nat) (l : List Nat) (h : ∀ i ∈ l, a i ≤ Rows.uptoBulk (D i)) : (l.map a).sum ≤ Rows.uptoBulkAll (l.map D) := by
 induction l with
 | nil => simp [Rows.uptoBulkAll]
 | cons x r ih =>
  have h1 := h x (by simp);have h2 := ih (fun i hi => h i (by simp [hi]));simp only [List.map_cons, List.sum_cons, Rows.uptoBulkAll]
  omega

theorem bulk_part {d : DataW H} {l : List (DataW H)} (h : d ∈ l) : Rows.uptoBulk d ≤ Rows.uptoBulkAll l := by
 induction l with
 | nil => cases h
 | cons x r ih =>
  simp only [Rows.uptoBulkAll]
  cases List.mem_cons.1 h with
  | inl e => subst e; omega
  | inr e => have := ih e; omega

theorem gopen_ints {fuel : Nat} {c : Value} {x : DataW H × List MemPlace} (h : DataW.trod enc prog w 0 (fun _ => true) true fuel 22 [c] = some x) (hw : Rows.uptoBulk x.1 ≤ 1048576) : ∃ l, IL w c l ∧ l.length ≤ Rows.uptoBulk x.1 := by
 rcases open_slice underlying22 h with ⟨hcs, _⟩ | ⟨a, len, cap, m, nn, D, Pl, hcs, hb, hl, hm, hmm, hx, hall⟩
 ·simp at hcs
  subst hcs;exact ⟨[], ⟨none, 0, rfl, by decide, fun _ => ⟨rfl, rfl⟩, fun h => absurd rfl h⟩, by simp [sumU]⟩
 ·simp at hcs
  subst hcs hx;have hlm : len ≤ m := by rw [hmm]; split <;> omega
  simp only [Rows.uptoBulk] at hw;have hbl := bulk_len ((List.range len).map D);rw [List.length_map, List.length_range] at hbl;have hlen : len * 8 ≤ 140737488355328 := by omega
  have hel : ∀ i, i < len → Rows.uptoBulk (D i) ≤ 1048576 := fun i hi => by
   have : Rows.uptoBulk (D i) ≤ Rows.uptoBulkAll ((List.range len).map D) := bulk_part (List.mem_map.2 ⟨i, by simpa using hi, rfl⟩)
   omega
  have each : ∀ i, i < len → ∃ e : Int, w.cell? (a.add i) = some (.int .i64 e) := fun i hi => by
   obtain ⟨cs', h1, h2⟩ := hall i (by omega);rw [gcI] at h1;obtain ⟨_, hlen, hcell⟩ := World.cells?_some h1
   match cs', hlen with
   | [c0], _ =>
    obtain ⟨z, e0, _, _⟩ := DataW.trod_int underlying3 h2;simp at e0;subst e0;have q0 := hcell 0 (by omega);rw [add_add] at q0;exact ⟨z, by simpa using q0⟩
  obtain ⟨E, hE⟩ := choose_lt each;refine ⟨(List.range len).map E, ⟨some a, cap, by simp, by simp; omega, (fun h => by cases h), fun hne => ?_⟩, ?_⟩
  ·have hpos : 0 < len := by
    rcases Nat.eq_zero_or_pos len with h0 | h0
    ·exact absurd (by rw [h0]; rfl) hne
    ·exact h0
   have ha := gspot_none (hE 0 (by omega));refine ⟨a.block, a.off, by rw [← ha], fun i y hy => ?_⟩;obtain ⟨hi, rfl⟩ := ggetElem?_map_range E hy;have := hE i (by omega);rw [ha, add_plain] at this;exact this
  ·rw [List.length_map, List.length_range]
   simp only [Rows.uptoBulk]
   omega

theorem ins_cells {n : Nat} {cs : List Value} {x : DataW H × List MemPlace} (hl : cs.length = 9) (h : DataW.trod enc prog w 0 (fun _ => true) true n 38 cs = some x) (hw : Rows.uptoBulk x.1 ≤ 1048576) :
  ∃ i : Ins, i.args.length ≤ Rows.uptoBulk x.1 ∧ ∃ v, IL w v i.args ∧ cs[0]? = some (.int .i64 i.op) ∧ cs[1]? = some (.int .i64 i.sub) ∧ cs[2]? = some (.int .i64 i.a) ∧ cs[3]? = some (.int .i64 i.b) ∧ cs[4]? = some (.int .i64 i.d) ∧ cs[5]? = some (.int .i64 i.k) ∧ cs[6]? = some v ∧ cs[7]? = some (.int .i64 i.s) ∧ cs[8]? = some (.int .i64 i.t) := by
 obtain ⟨xs, k, hk, hxy, _, hxl, hf⟩ := DataW.trod_struct underlying38 h
 match cs, hl with
 | [c0, c1, c2, c3, c4, c5, c6, c7, c8], _ =>
  have g0 := hf 0 _ rfl;have g1 := hf 1 _ rfl;have g2 := hf 2 _ rfl;have g3 := hf 3 _ rfl;have g4 := hf 4 _ rfl;have g5 := hf 5 _ rfl;have g6 := hf 6 _ rfl;have g7 := hf 7 _ rfl;have g8 := hf 8 _ rfl;simp only [List.getElem_toArray, List.getElem_cons_zero, List.getElem_cons_succ, gcI, gcL, gcIs, List.drop_zero, List.drop_succ_cons, List.take_succ_cons, List.take_zero] at g0 g1 g2 g3 g4 g5 g6 g7 g8
  match xs, hxl with
  | [y0, y1, y2, y3, y4, y5, y6, y7, y8], _ =>
   simp only [List.getElem?_cons_zero, List.getElem?_cons_succ] at g0 g1 g2 g3 g4 g5 g6 g7 g8;obtain ⟨a0, e0, _, _⟩ := DataW.trod_int underlying3 g0;obtain ⟨a1, e1, _, _⟩ := DataW.trod_int underlying3 g1;obtain ⟨a2, e2, _, _⟩ := DataW.trod_int underlying3 g2;obtain ⟨a3, e3, _, _⟩ := DataW.trod_int underlying3 g3;obtain ⟨a4, e4, _, _⟩ := DataW.trod_int underlying3 g4;obtain ⟨a5, e5, _, _⟩ := DataW.trod_int underlying2 g5;obtain ⟨a7, e7, _, _⟩ := DataW.trod_int underlying3 g7;obtain ⟨a8, e8, _, _⟩ := DataW.trod_int underlying3 g8;subst hxy
   have hw6 : Rows.uptoBulk y6.1 ≤ Rows.uptoBulk (.agg ([y0, y1, y2, y3, y4, y5, y6, y7, y8].map (·.1))) := by
    simp only [Rows.uptoBulk];have := bulk_part (l := [y0, y1, y2, y3, y4, y5, y6, y7, y8].map (·.1)) (d := y6.1) (by simp)
    omega
   obtain ⟨l, h6, h7⟩ := gopen_ints g6 (Nat.le_trans hw6 hw);simp at e0 e1 e2 e3 e4 e5 e7 e8;subst e0 e1 e2 e3 e4 e5 e7 e8;exact ⟨⟨a0, a1, a2, a3, a4, a5, l, a7, a8⟩, Nat.le_trans h7 hw6, c6, h6, rfl, rfl, rfl, rfl, rfl, rfl, rfl, rfl, rfl⟩

theorem gopen_code {fuel : Nat} {c : Value} {x : DataW H × List MemPlace} (h : DataW.trod enc prog w 0 (fun _ => true) true fuel 23 [c] = some x) (hw : Rows.uptoBulk x.1 ≤ 1048576) : ∃ l, CodeAt w c l ∧ sumU l ≤ Rows.uptoBulk x.1 := by
 rcases open_slice underlying23 h with ⟨hcs, _⟩ | ⟨a, len, cap, m, nn, D, Pl, hcs, hb, hl, hm, hmm, hx, hall⟩
 ·simp at hcs
  subst hcs;exact ⟨[], ⟨none, 0, rfl, by decide, fun _ => ⟨rfl, rfl⟩, fun h => absurd rfl h⟩, by simp [sumU]⟩
 ·simp at hcs
  subst hcs hx;have hlm : len ≤ m := by rw [hmm]; split <;> omega
  simp only [Rows.uptoBulk] at hw;have hbl := bulk_len ((List.range len).map D);rw [List.length_map, List.length_range] at hbl;have hlen : len * 88 ≤ 140737488355328 := by omega
  have hel : ∀ i, i < len → Rows.uptoBulk (D i) ≤ 1048576 := fun i hi => by
   have : Rows.uptoBulk (D i) ≤ Rows.uptoBulkAll ((List.range len).map D) := bulk_part (List.mem_map.2 ⟨i, by simpa using hi, rfl⟩)
   omega
  have each : ∀ i, i < len → ∃ e : Ins, e.args.length ≤ Rows.uptoBulk (D i) ∧ ∃ v, IL w v e.args ∧ w.cell? (a.add (i * 9)) = some (.int .i64 e.op) ∧ w.cell? (a.add (i * 9 + 1)) = some (.int .i64 e.sub) ∧ w.cell? (a.add (i * 9 + 2)) = some (.int .i64 e.a) ∧ w.cell? (a.add (i * 9 + 3)) = some (.int .i64 e.b) ∧ w.cell? (a.add (i * 9 + 4)) = some (.int .i64 e.d) ∧ w.cell? (a.add (i * 9 + 5)) = some (.int .i64 e.k) ∧ w.cell? (a.add (i * 9 + 6)) = some (v) ∧ w.cell? (a.add (i * 9 + 7)) = some (.int .i64 e.s) ∧ w.cell? (a.add (i * 9 + 8)) = some (.int .i64 e.t) := fun i hi => by
   obtain ⟨cs', h1, h2⟩ := hall i (by omega);rw [gcIn] at h1;obtain ⟨_, hlen, hcell⟩ := World.cells?_some h1;obtain ⟨f, hfl, v, hv, e0, e1, e2, e3, e4, e5, e6, e7, e8⟩ := ins_cells hlen h2 (hel i hi);have q0 := hcell 0 (by omega);have q1 := hcell 1 (by omega);have q2 := hcell 2 (by omega);have q3 := hcell 3 (by omega);have q4 := hcell 4 (by omega);have q5 := hcell 5 (by omega);have q6 := hcell 6 (by omega);have q7 := hcell 7 (by omega);have q8 := hcell 8 (by omega);rw [add_add] at q0 q1 q2 q3 q4 q5 q6 q7 q8;exact ⟨f, hfl, v, hv, by rw [← e0, ← q0, Nat.add_zero], by rw [← e1, ← q1], by rw [← e2, ← q2], by rw [← e3, ← q3], by rw [← e4, ← q4], by rw [← e5, ← q5], by rw [← e6, ← q6], by rw [← e7, ← q7], by rw [← e8, ← q8]⟩
  obtain ⟨E, hE⟩ := choose_lt each;refine ⟨(List.range len).map E, ⟨some a, cap, by simp, by simp; omega, (fun h => by cases h), fun hne => ?_⟩, ?_⟩
  ·have hpos : 0 < len := by
    rcases Nat.eq_zero_or_pos len with h0 | h0
    ·exact absurd (by rw [h0]; rfl) hne
    ·exact h0
   obtain ⟨_, _, _, hz, _⟩ := hE 0 (by omega);have ha := gspot_none (by simpa using hz);refine ⟨a.block, a.off, by rw [← ha], fun i y hy => ?_⟩;obtain ⟨hi, rfl⟩ := ggetElem?_map_range E hy;obtain ⟨_, v, hv, k0, k1, k2, k3, k4, k5, k6, k7, k8⟩ := hE i (by omega);rw [ha, add_plain] at k0 k1 k2 k3 k4 k5 k6 k7 k8;exact ⟨v, hv, k0, by rw [Nat.add_assoc]; exact k1, by rw [Nat.add_assoc]; exact k2, by rw [Nat.add_assoc]; exact k3, by rw [Nat.add_assoc]; exact k4, by rw [Nat.add_assoc]; exact k5, by rw [Nat.add_assoc]; exact k6, by rw [Nat.add_assoc]; exact k7, by rw [Nat.add_assoc]; exact k8⟩
  ·have h3 := bulk_sum D (fun i => (E i).args.length) (List.range len) (fun i hi => (hE i (by simpa using hi)).1)
   unfold sumU;rw [List.map_map];simp only [Rows.uptoBulk];have h4 : ((List.range len).map ((fun x : Ins => x.args.length) ∘ E)).sum = ((List.range len).map fun i => (E i).args.length).sum := rfl
   omega

theorem fn_cells {n : Nat} {cs : List Value} {x : DataW H × List MemPlace} (hl : cs.length = 6) (h : DataW.trod enc prog w 0 (fun _ => true) true n 25 cs = some x) (hw : Rows.uptoBulk x.1 ≤ 1048576) :
  ∃ f : Fn, sumU f.code ≤ 1048576 ∧ ∃ pv cv, IL w pv f.params ∧ CodeAt w cv f.code ∧ f.name.size ≤ 140737488355328 ∧ cs[0]? = some (.string f.name) ∧ cs[1]? = some pv ∧ cs[2]? = some (.int .i64 f.regs) ∧ cs[3]? = some (.int .i64 f.frame) ∧ cs[4]? = some (.int .i64 f.entry) ∧ cs[5]? = some cv := by
 obtain ⟨xs, k, hk, hxy, _, hxl, hf⟩ := DataW.trod_struct underlying25 h
 match cs, hl with
 | [c0, c1, c2, c3, c4, c5], _ =>
  have g0 := hf 0 _ rfl;have g1 := hf 1 _ rfl;have g2 := hf 2 _ rfl;have g3 := hf 3 _ rfl;have g4 := hf 4 _ rfl;have g5 := hf 5 _ rfl;simp only [List.getElem_toArray, List.getElem_cons_zero, List.getElem_cons_succ, gcI, gcS, gcIs, gcCs, List.drop_zero, List.drop_succ_cons, List.take_succ_cons, List.take_zero] at g0 g1 g2 g3 g4 g5
  match xs, hxl with
  | [y0, y1, y2, y3, y4, y5], _ =>
   simp only [List.getElem?_cons_zero, List.getElem?_cons_succ] at g0 g1 g2 g3 g4 g5;obtain ⟨a0, e0, f0, _⟩ := DataW.trod_string underlying9 g0;obtain ⟨a2, e2, _, _⟩ := DataW.trod_int underlying3 g2;obtain ⟨a3, e3, _, _⟩ := DataW.trod_int underlying3 g3;obtain ⟨a4, e4, _, _⟩ := DataW.trod_int underlying3 g4;subst hxy
   have hall : ∀ d ∈ [y0, y1, y2, y3, y4, y5].map (·.1), Rows.uptoBulk d ≤ 1048576 := fun d hd => by
    have h1 := bulk_part hd;have h2 : Rows.uptoBulkAll ([y0, y1, y2, y3, y4, y5].map (·.1)) + 1 ≤ 1048576 := by simpa only [Rows.uptoBulk] using hw
    omega
   obtain ⟨l, h1, _⟩ := gopen_ints g1 (hall _ (by simp));obtain ⟨cd, h5, h6⟩ := gopen_code g5 (hall _ (by simp));have h0 := hall y0.1 (by simp);have h7 := hall y5.1 (by simp);simp at e0 e2 e3 e4;subst e0 e2 e3 e4
   have hnm : a0.size ≤ 140737488355328 := by
    rw [f0] at h0;simp only [Rows.uptoBulk] at h0;have e : a0.data.toList.length = a0.size := by rw [Array.length_toList]; rfl
    omega
   exact ⟨⟨a0, l, a2, a3, a4, cd⟩, Nat.le_trans h6 h7, c1, c5, h1, h5, hnm, rfl, rfl, rfl, rfl, rfl, rfl⟩
theorem open_fn {r : Reach} {b0 : Nat} {v : Value} {d : DataW H} {p : List MemPlace} (hv : Value.okWide prog w r b0 25 v) (h : DataW.Trod enc prog w 0 (fun _ => true) true 25 v d p) (hw : Rows.uptoBulk d ≤ 1048576) : ∃ f : Fn, FnV w v f ∧ sumU f.code ≤ 1048576 := by
 obtain ⟨cs, rfl, hsz⟩ := okWide_struct underlying25 hv
 obtain ⟨c0, c1, c2, c3, c4, c5, rfl⟩ : ∃ c0 c1 c2 c3 c4 c5, cs = #[c0, c1, c2, c3, c4, c5] := by
  have hs : cs.toList.length = 6 := by simpa using hsz.trans gcFn
  match hcs : cs.toList, hs with
  | [c0, c1, c2, c3, c4, c5], _ => exact ⟨c0, c1, c2, c3, c4, c5, by apply Array.ext'; simpa using hcs⟩
 obtain ⟨fuel, hf⟩ := h;obtain ⟨f, hs, pv, cv, hp, hc, hn, e0, e1, e2, e3, e4, e5⟩ := fn_cells (cs := [c0, c1, c2, c3, c4, c5]) rfl hf hw;simp at e0 e1 e2 e3 e4 e5;subst e0 e1 e2 e3 e4 e5;exact ⟨f, ⟨_, _, rfl, hp, hc, hn⟩, hs⟩

end
end Go.Proofs.YtfeglcpipcjaeaaGreatDoor
namespace Go.Proofs.YtfeglcpipcjaeaaGreatDoor
open Go.ChangeShapes Go.WideShapes Go.ChangeAt Go.RowKit Go.Proofs.Tryz
set_option linter.unusedSimpArgs false
set_option linter.unusedVariables false
set_option maxRecDepth 100000

theorem shtab_of (W : World) (h : laidMetH prog laidY W) : ShTab W := fun n hn => by
 have c := tab0_cells W h;have : n = 0 ∨ n = 1 ∨ n = 2 ∨ n = 3 ∨ n = 4 ∨ n = 5 ∨ n = 6 ∨ n = 7 ∨ n = 8 ∨ n = 9 ∨ n = 10 ∨ n = 11 ∨ n = 12 ∨ n = 13 ∨ n = 14 := by omega
 rcases this with rfl | rfl | rfl | rfl | rfl | rfl | rfl | rfl | rfl | rfl | rfl | rfl | rfl | rfl | rfl
 ·exact ⟨c 0 _ (by kernel_rfl) (by kernel_rfl), c 1 _ (by kernel_rfl) (by kernel_rfl), c 2 _ (by kernel_rfl) (by kernel_rfl), c 3 _ (by kernel_rfl) (by kernel_rfl), c 4 _ (by kernel_rfl) (by kernel_rfl), c 5 _ (by kernel_rfl) (by kernel_rfl), c 6 _ (by kernel_rfl) (by kernel_rfl), c 7 _ (by kernel_rfl) (by kernel_rfl), c 8 _ (by kernel_rfl) (by kernel_rfl)⟩
 ·exact ⟨c 9 _ (by kernel_rfl) (by kernel_rfl), c 10 _ (by kernel_rfl) (by kernel_rfl), c 11 _ (by kernel_rfl) (by kernel_rfl), c 12 _ (by kernel_rfl) (by kernel_rfl), c 13 _ (by kernel_rfl) (by kernel_rfl), c 14 _ (by kernel_rfl) (by kernel_rfl), c 15 _ (by kernel_rfl) (by kernel_rfl), c 16 _ (by kernel_rfl) (by kernel_rfl), c 17 _ (by kernel_rfl) (by kernel_rfl)⟩
 ·exact ⟨c 18 _ (by kernel_rfl) (by kernel_rfl), c 19 _ (by kernel_rfl) (by kernel_rfl), c 20 _ (by kernel_rfl) (by kernel_rfl), c 21 _ (by kernel_rfl) (by kernel_rfl), c 22 _ (by kernel_rfl) (by kernel_rfl), c 23 _ (by kernel_rfl) (by kernel_rfl), c 24 _ (by kernel_rfl) (by kernel_rfl), c 25 _ (by kernel_rfl) (by kernel_rfl), c 26 _ (by kernel_rfl) (by kernel_rfl)⟩
 ·exact ⟨c 27 _ (by kernel_rfl) (by kernel_rfl), c 28 _ (by kernel_rfl) (by kernel_rfl), c 29 _ (by kernel_rfl) (by kernel_rfl), c 30 _ (by kernel_rfl) (by kernel_rfl), c 31 _ (by kernel_rfl) (by kernel_rfl), c 32 _ (by kernel_rfl) (by kernel_rfl), c 33 _ (by kernel_rfl) (by kernel_rfl), c 34 _ (by kernel_rfl) (by kernel_rfl), c 35 _ (by kernel_rfl) (by kernel_rfl)⟩
 ·exact ⟨c 36 _ (by kernel_rfl) (by kernel_rfl), c 37 _ (by kernel_rfl) (by kernel_rfl), c 38 _ (by kernel_rfl) (by kernel_rfl), c 39 _ (by kernel_rfl) (by kernel_rfl), c 40 _ (by kernel_rfl) (by kernel_rfl), c 41 _ (by kernel_rfl) (by kernel_rfl), c 42 _ (by kernel_rfl) (by kernel_rfl), c 43 _ (by kernel_rfl) (by kernel_rfl), c 44 _ (by kernel_rfl) (by kernel_rfl)⟩
 ·exact ⟨c 45 _ (by kernel_rfl) (by kernel_rfl), c 46 _ (by kernel_rfl) (by kernel_rfl), c 47 _ (by kernel_rfl) (by kernel_rfl), c 48 _ (by kernel_rfl) (by kernel_rfl), c 49 _ (by kernel_rfl) (by kernel_rfl), c 50 _ (by kernel_rfl) (by kernel_rfl), c 51 _ (by kernel_rfl) (by kernel_rfl), c 52 _ (by kernel_rfl) (by kernel_rfl), c 53 _ (by kernel_rfl) (by kernel_rfl)⟩
 ·exact ⟨c 54 _ (by kernel_rfl) (by kernel_rfl), c 55 _ (by kernel_rfl) (by kernel_rfl), c 56 _ (by kernel_rfl) (by kernel_rfl), c 57 _ (by kernel_rfl) (by kernel_rfl), c 58 _ (by kernel_rfl) (by kernel_rfl), c 59 _ (by kernel_rfl) (by kernel_rfl), c 60 _ (by kernel_rfl) (by kernel_rfl), c 61 _ (by kernel_rfl) (by kernel_rfl), c 62 _ (by kernel_rfl) (by kernel_rfl)⟩
 ·exact ⟨c 63 _ (by kernel_rfl) (by kernel_rfl), c 64 _ (by kernel_rfl) (by kernel_rfl), c 65 _ (by kernel_rfl) (by kernel_rfl), c 66 _ (by kernel_rfl) (by kernel_rfl), c 67 _ (by kernel_rfl) (by kernel_rfl), c 68 _ (by kernel_rfl) (by kernel_rfl), c 69 _ (by kernel_rfl) (by kernel_rfl), c 70 _ (by kernel_rfl) (by kernel_rfl), c 71 _ (by kernel_rfl) (by kernel_rfl)⟩
 ·exact ⟨c 72 _ (by kernel_rfl) (by kernel_rfl), c 73 _ (by kernel_rfl) (by kernel_rfl), c 74 _ (by kernel_rfl) (by kernel_rfl), c 75 _ (by kernel_rfl) (by kernel_rfl), c 76 _ (by kernel_rfl) (by kernel_rfl), c 77 _ (by kernel_rfl) (by kernel_rfl), c 78 _ (by kernel_rfl) (by kernel_rfl), c 79 _ (by kernel_rfl) (by kernel_rfl), c 80 _ (by kernel_rfl) (by kernel_rfl)⟩
 ·exact ⟨c 81 _ (by kernel_rfl) (by kernel_rfl), c 82 _ (by kernel_rfl) (by kernel_rfl), c 83 _ (by kernel_rfl) (by kernel_rfl), c 84 _ (by kernel_rfl) (by kernel_rfl), c 85 _ (by kernel_rfl) (by kernel_rfl), c 86 _ (by kernel_rfl) (by kernel_rfl), c 87 _ (by kernel_rfl) (by kernel_rfl), c 88 _ (by kernel_rfl) (by kernel_rfl), c 89 _ (by kernel_rfl) (by kernel_rfl)⟩
 ·exact ⟨c 90 _ (by kernel_rfl) (by kernel_rfl), c 91 _ (by kernel_rfl) (by kernel_rfl), c 92 _ (by kernel_rfl) (by kernel_rfl), c 93 _ (by kernel_rfl) (by kernel_rfl), c 94 _ (by kernel_rfl) (by kernel_rfl), c 95 _ (by kernel_rfl) (by kernel_rfl), c 96 _ (by kernel_rfl) (by kernel_rfl), c 97 _ (by kernel_rfl) (by kernel_rfl), c 98 _ (by kernel_rfl) (by kernel_rfl)⟩
 ·exact ⟨c 99 _ (by kernel_rfl) (by kernel_rfl), c 100 _ (by kernel_rfl) (by kernel_rfl), c 101 _ (by kernel_rfl) (by kernel_rfl), c 102 _ (by kernel_rfl) (by kernel_rfl), c 103 _ (by kernel_rfl) (by kernel_rfl), c 104 _ (by kernel_rfl) (by kernel_rfl), c 105 _ (by kernel_rfl) (by kernel_rfl), c 106 _ (by kernel_rfl) (by kernel_rfl), c 107 _ (by kernel_rfl) (by kernel_rfl)⟩
 ·exact ⟨c 108 _ (by kernel_rfl) (by kernel_rfl), c 109 _ (by kernel_rfl) (by kernel_rfl), c 110 _ (by kernel_rfl) (by kernel_rfl), c 111 _ (by kernel_rfl) (by kernel_rfl), c 112 _ (by kernel_rfl) (by kernel_rfl), c 113 _ (by kernel_rfl) (by kernel_rfl), c 114 _ (by kernel_rfl) (by kernel_rfl), c 115 _ (by kernel_rfl) (by kernel_rfl), c 116 _ (by kernel_rfl) (by kernel_rfl)⟩
 ·exact ⟨c 117 _ (by kernel_rfl) (by kernel_rfl), c 118 _ (by kernel_rfl) (by kernel_rfl), c 119 _ (by kernel_rfl) (by kernel_rfl), c 120 _ (by kernel_rfl) (by kernel_rfl), c 121 _ (by kernel_rfl) (by kernel_rfl), c 122 _ (by kernel_rfl) (by kernel_rfl), c 123 _ (by kernel_rfl) (by kernel_rfl), c 124 _ (by kernel_rfl) (by kernel_rfl), c 125 _ (by kernel_rfl) (by kernel_rfl)⟩
 ·exact ⟨c 126 _ (by kernel_rfl) (by kernel_rfl), c 127 _ (by kernel_rfl) (by kernel_rfl), c 128 _ (by kernel_rfl) (by kernel_rfl), c 129 _ (by kernel_rfl) (by kernel_rfl), c 130 _ (by kernel_rfl) (by kernel_rfl), c 131 _ (by kernel_rfl) (by kernel_rfl), c 132 _ (by kernel_rfl) (by kernel_rfl), c 133 _ (by kernel_rfl) (by kernel_rfl), c 134 _ (by kernel_rfl) (by kernel_rfl)⟩
end Go.Proofs.YtfeglcpipcjaeaaGreatDoor
