
import Derived.Test.YtncondlfngeilaaGreatDoorTnL
namespace Go.Proofs.YtncondlfngeilaaGreatDoor
open Go.ChangeShapes Go.WideShapes Go.ChangeAt Go.RowKit Go.Proofs.Tryz
set_option linter.unusedSimpArgs false
set_option linter.unusedVariables false
set_option maxRecDepth 100000
set_option maxHeartbeats 8000000

structure LwS (w Wh : World) (GB HB CB : Nat) (T : Nat → Ins → Ins) (FA GA HA : Array Value) (vg pv : Value) (f : Fn) (W : World) : Prop where
 bel : Below w.heap.size w W
 fb : W.heap[w.heap.size]? = some (.cells FA 25 (0, 0))
 gb : W.heap[GB]? = some (.cells GA 25 (0, 0))
 hb : W.heap[HB]? = some (.cells HA 25 (0, 0))
 gv : FnVq (fun k => k < w.heap.size ∨ Wh.heap.size ≤ k) W vg (tnF f)
 par : IL W pv f.params ∧ (f.params ≠ [] → ∀ b o s k c, pv = .slice (some ⟨b, o, s⟩) k c → b < HB ∧ b ≠ CB)
 row : ∀ (m : Nat) x, f.code[m]? = some x → InsW (fun k => k < HB ∧ k ≠ CB) W CB 0 m (T m x)
 cbs : w.heap.size ≤ CB ∧ CB < Wh.heap.size ∧ w.heap.size ≠ CB ∧ GB ≠ CB ∧ HB ≠ CB
 sz : Wh.heap.size ≤ W.heap.size ∧ HB < Wh.heap.size
theorem LwS.keep {w Wh W W' : World} {GB HB CB : Nat} {T : Nat → Ins → Ins} {FA GA HA : Array Value} {vg pv : Value} {f : Fn} (h : LwS w Wh GB HB CB T FA GA HA vg pv f W) (hb : Below W.heap.size W W') : LwS w Wh GB HB CB T FA GA HA vg pv f W' :=
 ⟨bel_trans h.bel hb, xkeep_heap hb h.fb, xkeep_heap hb h.gb, xkeep_heap hb h.hb, h.gv.keep (Kc.all hb), ⟨h.par.1.keep hb, h.par.2⟩, fun m x hx => (h.row m x hx).of (fun k q => hb.block k (by have := h.sz; omega)) (hb.block CB (by have := h.sz; have := h.cbs.2.1; omega)), h.cbs, Nat.le_trans h.sz.1 hb.size, h.sz.2⟩
theorem LwS.ext {w Wh W : World} {GB HB CB : Nat} {T T' : Nat → Ins → Ins} {FA GA HA : Array Value} {vg pv : Value} {f : Fn} (h : LwS w Wh GB HB CB T FA GA HA vg pv f W) (e : ∀ (m : Nat) x, f.code[m]? = some x → T m x = T' m x) : LwS w Wh GB HB CB T' FA GA HA vg pv f W :=
 ⟨h.bel, h.fb, h.gb, h.hb, h.gv, h.par, fun m x hx => by rw [← e m x hx]; exact h.row m x hx, h.cbs, h.sz⟩

def up7 (T : Nat → Ins → Ins) (i : Nat) (z : Int) : Nat → Ins → Ins := fun m x => if m = i then { T m x with s := z } else T m x
theorem LwS.set7 {w Wh W : World} {GB HB CB : Nat} {T : Nat → Ins → Ins} {FA GA HA : Array Value} {vg pv : Value} {f : Fn} (h : LwS w Wh GB HB CB T FA GA HA vg pv f W) (i : Nat) (z : Int) : LwS w Wh GB HB CB (up7 T i z) FA GA HA vg pv f (W.setCell ⟨CB, i * 9 + 7, none⟩ (.int .i64 z)) := by
 have hc := h.cbs;have hk : ∀ k, k ≠ CB → (W.setCell ⟨CB, i * 9 + 7, none⟩ (.int .i64 z)).heap[k]? = W.heap[k]? := fun k q => xheap_set_other q;refine ⟨h.bel.setCell hc.1 _, (hk _ hc.2.2.1).trans h.fb, (hk _ hc.2.2.2.1).trans h.gb, (hk _ hc.2.2.2.2).trans h.hb, h.gv.keep (fun p u hq he => ?_), ⟨h.par.1.of4 (fun hl b o s k c e => hk b (h.par.2 hl b o s k c e).2), h.par.2⟩, fun m x hx => ?_, hc, by rw [xsize_set]; exact h.sz⟩
 ·rw [World.cell?_of_block (w := W) (hk _ (by omega))]
  exact he
 ·have hr := h.row m x hx
  have e : i * 9 + 7 = 0 + i * 9 + 7 := by omega
  unfold up7
  by_cases q : m = i
  ·subst q
   rw [if_pos rfl, e];exact hr.set7 (fun q => q.2 rfl) z
  ·rw [if_neg q, e]
   exact hr.oth7 (fun q => q.2 rfl) z q

def up8 (T : Nat → Ins → Ins) (i : Nat) (z : Int) : Nat → Ins → Ins := fun m x => if m = i then { T m x with t := z } else T m x
theorem LwS.set8 {w Wh W : World} {GB HB CB : Nat} {T : Nat → Ins → Ins} {FA GA HA : Array Value} {vg pv : Value} {f : Fn} (h : LwS w Wh GB HB CB T FA GA HA vg pv f W) (i : Nat) (z : Int) : LwS w Wh GB HB CB (up8 T i z) FA GA HA vg pv f (W.setCell ⟨CB, i * 9 + 8, none⟩ (.int .i64 z)) := by
 have hc := h.cbs;have hk : ∀ k, k ≠ CB → (W.setCell ⟨CB, i * 9 + 8, none⟩ (.int .i64 z)).heap[k]? = W.heap[k]? := fun k q => xheap_set_other q;refine ⟨h.bel.setCell hc.1 _, (hk _ hc.2.2.1).trans h.fb, (hk _ hc.2.2.2.1).trans h.gb, (hk _ hc.2.2.2.2).trans h.hb, h.gv.keep (fun p u hq he => ?_), ⟨h.par.1.of4 (fun hl b o s k c e => hk b (h.par.2 hl b o s k c e).2), h.par.2⟩, fun m x hx => ?_, hc, by rw [xsize_set]; exact h.sz⟩
 ·rw [World.cell?_of_block (w := W) (hk _ (by omega))]
  exact he
 ·have hr := h.row m x hx
  have e : i * 9 + 8 = 0 + i * 9 + 8 := by omega
  unfold up8
  by_cases q : m = i
  ·subst q
   rw [if_pos rfl, e];exact hr.set8 (fun q => q.2 rfl) z
  ·rw [if_neg q, e]
   exact hr.oth8 (fun q => q.2 rfl) z q

theorem LwS.entry {w Wh W : World} {GB HB CB : Nat} {T : Nat → Ins → Ins} {FA GA HA : Array Value} {vg pv : Value} {f : Fn} (h : LwS w Wh GB HB CB T FA GA HA vg pv f W) (hn : HB ≠ w.heap.size ∧ HB ≠ GB ∧ w.heap.size ≤ HB) (z : Int) : LwS w Wh GB HB CB T FA GA (HA.setIfInBounds 4 (.int .i64 z)) vg pv f (W.setCell ⟨HB, 4, none⟩ (.int .i64 z)) := by
 have hc := h.cbs;have hz := h.sz;have hk : ∀ k, k ≠ HB → (W.setCell ⟨HB, 4, none⟩ (.int .i64 z)).heap[k]? = W.heap[k]? := fun k q => xheap_set_other q;refine ⟨h.bel.setCell hn.2.2 _, (hk _ (Ne.symm hn.1)).trans h.fb, (hk _ (Ne.symm hn.2.1)).trans h.gb, xheap_set_same h.hb _, h.gv.keep (fun p u hq he => ?_), ⟨h.par.1.of4 (fun hl b o s k c e => hk b (by have := (h.par.2 hl b o s k c e).1; omega)), h.par.2⟩, fun m x hx => (h.row m x hx).of (fun k q => hk k (by omega)) (hk CB (Ne.symm hc.2.2.2.2)), hc, by rw [xsize_set]; exact h.sz⟩;rw [World.cell?_of_block (w := W) (hk _ (by omega))];exact he
theorem zero_fnV (w : World) : FnV w (.agg #[.string ⟨#[]⟩, .slice none 0 0, .int .i64 0, .int .i64 0, .int .i64 0, .slice none 0 0]) ⟨⟨#[]⟩, [], 0, 0, 0, []⟩ := ⟨.slice none 0 0, .slice none 0 0, rfl, IL.nil w, ⟨none, 0, rfl, by simp, fun _ => ⟨rfl, rfl⟩, fun h => absurd rfl h⟩, by decide⟩
theorem lw_many (w : World) (fname : ByteArray) (pa ca : Option Addr) (pn pc n cap : Nat) (regs frm ent : Int) (hNm : (n : Int) ≤ 9223372036854775807) (hq : (decide ((60 : Int) < n) || decide (60 < regs)) = true) (HA : Hid (∀ W, Below w.heap.size w W → Calls prog 4 #[] W (retP (.bool true) W))) :
  Calls prog 3 #[.agg #[.string fname, .slice pa pn pc, .int .i64 regs, .int .i64 frm, .int .i64 ent, .slice ca n cap]] w (retP (.bool true) w) := by
 cases q0 : decide ((60 : Int) < n) with
 | true =>
  have q0n : decide (60 < n) = true := by simp at q0 ⊢; omega
  clear hq
  go_enter func3, ntmps3
  go_wp2_with (go_at_call 4; refine (HA.out _ (by repeat (first | with_reducible exact Below.refl _ _ | with_reducible refine bel_alloc ?_ _ | with_reducible refine bel_set ?_ (by first | exact Nat.le_refl _ | (simp; done) | (simp; omega)) _ | with_reducible refine Below.drew ?_ | refine bel_trans ?_ (by assumption)))).mono ?_; rintro e w1 ⟨rfl, hb1⟩; have HB1 : Hid (Below w.heap.size w w1) := bel_trans (bel_alloc (Below.refl _ _) _) hb1; have hfb1 := xkeep_heap hb1 (xheap_new w (.cells #[.string fname, .slice pa pn pc, .int .i64 regs, .int .i64 frm, .int .i64 ent, .slice ca n cap] 25 (0, 0))); have f0 := xheap_cell (o := 0) hfb1 rfl; have f1 := xheap_cell (o := 1) hfb1 rfl; have f2 := xheap_cell (o := 2) hfb1 rfl; have f3 := xheap_cell (o := 3) hfb1 rfl; have f4 := xheap_cell (o := 4) hfb1 rfl; have f5 := xheap_cell (o := 5) hfb1 rfl; have HFB1 := hidF hfb1; clear hb1 hfb1)
  go_ret;exact ⟨rfl, HB1.out⟩
 | false =>
  rw [q0, Bool.false_or] at hq;have q0n : decide (60 < n) = false := by simp at q0 ⊢; omega
  go_enter func3, ntmps3
  go_wp2_with (go_at_call 4; refine (HA.out _ (by repeat (first | with_reducible exact Below.refl _ _ | with_reducible refine bel_alloc ?_ _ | with_reducible refine bel_set ?_ (by first | exact Nat.le_refl _ | (simp; done) | (simp; omega)) _ | with_reducible refine Below.drew ?_ | refine bel_trans ?_ (by assumption)))).mono ?_; rintro e w1 ⟨rfl, hb1⟩; have HB1 : Hid (Below w.heap.size w w1) := bel_trans (bel_alloc (Below.refl _ _) _) hb1; have hfb1 := xkeep_heap hb1 (xheap_new w (.cells #[.string fname, .slice pa pn pc, .int .i64 regs, .int .i64 frm, .int .i64 ent, .slice ca n cap] 25 (0, 0))); have f0 := xheap_cell (o := 0) hfb1 rfl; have f1 := xheap_cell (o := 1) hfb1 rfl; have f2 := xheap_cell (o := 2) hfb1 rfl; have f3 := xheap_cell (o := 3) hfb1 rfl; have f4 := xheap_cell (o := 4) hfb1 rfl; have f5 := xheap_cell (o := 5) hfb1 rfl; have HFB1 := hidF hfb1; clear hb1 hfb1)
  go_ret;exact ⟨rfl, HB1.out⟩
theorem lw_bad (w : World) (fname : ByteArray) (pa ca : Option Addr) (pn pc n cap : Nat) (regs frm ent : Int) (params : List Int) (code : List Ins) (hNm : (n : Int) ≤ 9223372036854775807) (hq0 : decide ((60 : Int) < n) = false) (hq1 : decide (60 < regs) = false) (HA : Hid (∀ W, Below w.heap.size w W → Calls prog 4 #[] W (retP (.bool true) W)))
  (HV : Hid (FnV w (.agg #[.string fname, .slice pa pn pc, .int .i64 regs, .int .i64 frm, .int .i64 ent, .slice ca n cap]) ⟨fname, params, regs, frm, ent, code⟩)) (HCP : Hid (∀ w1, Below w.heap.size w w1 → Calls prog 5 #[.agg #[.slice none 0 0, .slice (some ⟨w1.heap.size, 0, none⟩) 1 1, .int .i64 0]] (w1.alloc (.cells #[.string fname, .slice pa pn pc, .int .i64 regs, .int .i64 frm, .int .i64 ent, .slice ca n cap] 25)) (retPg1 ⟨fname, params, regs, frm, ent, code⟩ (w1.alloc (.cells #[.string fname, .slice pa pn pc, .int .i64 regs, .int .i64 frm, .int .i64 ent, .slice ca n cap] 25)))))
  (HTN : Hid (∀ W, Below w.heap.size w W → Calls prog 6 #[.agg #[.string fname, .slice pa pn pc, .int .i64 regs, .int .i64 frm, .int .i64 ent, .slice ca n cap]] W (retP (.tuple #[.agg #[.string ⟨#[]⟩, .slice none 0 0, .int .i64 0, .int .i64 0, .int .i64 0, .slice none 0 0], .int .i64 1]) W)))
  (HRR : Hid (∀ W v, FnV W v ⟨fname, params, regs, frm, ent, code⟩ → Calls prog 8 #[v] W (retP (.bool false) W))) :
  Calls prog 3 #[.agg #[.string fname, .slice pa pn pc, .int .i64 regs, .int .i64 frm, .int .i64 ent, .slice ca n cap]] w (retP (.bool true) w) := by
 have q0n : decide (60 < n) = false := by simp at hq0 ⊢; omega
 go_enter func3, ntmps3
 go_upto_region 5 with (go_at_call 4; refine (HA.out _ (by repeat (first | with_reducible exact Below.refl _ _ | with_reducible refine bel_alloc ?_ _ | with_reducible refine bel_set ?_ (by first | exact Nat.le_refl _ | (simp; done) | (simp; omega)) _ | with_reducible refine Below.drew ?_ | refine bel_trans ?_ (by assumption)))).mono ?_; rintro e w1 ⟨rfl, hb1⟩; have HB1 : Hid (Below w.heap.size w w1) := bel_trans (bel_alloc (Below.refl _ _) _) hb1; have hfb1 := xkeep_heap hb1 (xheap_new w (.cells #[.string fname, .slice pa pn pc, .int .i64 regs, .int .i64 frm, .int .i64 ent, .slice ca n cap] 25 (0, 0))); have f0 := xheap_cell (o := 0) hfb1 rfl; have f1 := xheap_cell (o := 1) hfb1 rfl; have f2 := xheap_cell (o := 2) hfb1 rfl; have f3 := xheap_cell (o := 3) hfb1 rfl; have f4 := xheap_cell (o := 4) hfb1 rfl; have f5 := xheap_cell (o := 5) hfb1 rfl; have HFB1 := hidF hfb1; clear hb1 hfb1)
 have hfd : ∀ (gv mv : Value) (g c : Nat) (W : World), (Instr.field 29 (.agg #[gv, .slice (some ⟨g, 0, none⟩) 1 c, mv]) 1).run prog W = .ok (.slice (some ⟨g, 0, none⟩) 1 c) W := fun _ _ _ _ _ => rfl;have HBW : Hid (Below w.heap.size w (w1.alloc (.cells #[.string fname, .slice pa pn pc, .int .i64 regs, .int .i64 frm, .int .i64 ent, .slice ca n cap] 25))) := bel_alloc HB1.out _
 go_upto_region 6 with (go_at_call 5; refine (HCP.out w1 HB1.out).mono ?_; rintro e W4 ⟨gv, g, cg, mv, pv, cv, rfl, hil, hcd, hrn, hcl, hb4⟩; obtain ⟨qa, qc, rfl, _⟩ := hil.partsF; have hcd2 := hcd; obtain ⟨ra, rc, rfl, _⟩ := hcd2; have d0 := hcl 0 _ (by omega) rfl; have d1 := hcl 1 _ (by omega) rfl; have d2 := hcl 2 _ (by omega) rfl; have d3 := hcl 3 _ (by omega) rfl; have d4 := hcl 4 _ (by omega) rfl; have d5 := hcl 5 _ (by omega) rfl; have HB4 := hidF (bel_trans HBW.out hb4); have hfb4 := xkeep_heap hb4 (xkeep_heap (bel_alloc (Below.refl _ _) _) HFB1.out); have HFB4 := hidF hfb4; have HHV : Hid (FnV W4 (.agg #[.string fname, .slice qa params.length qc, .int .i64 regs, .int .i64 frm, .int .i64 ent, .slice ra code.length rc]) ⟨fname, params, regs, frm, ent, code⟩) := ⟨_, _, rfl, hil, hcd, by obtain ⟨_, _, _, _, _, q⟩ := HV.out; exact q⟩; clear hb4 hfb4 hil hcd hrn hcl f0 f1 f2 f3 f4 f5)
 refine gwp_namedF (fun W => ∃ b, b = W4.heap.size ∧ Below W4.heap.size W4 W ∧ W.heap[b]? = some (.cells #[.string fname, .slice qa params.length qc, .int .i64 regs, .int .i64 frm, .int .i64 ent, .slice ra code.length rc] 25 (0, 0))) ⟨_, rfl, bel_alloc (Below.refl _ _) _, xheap_new W4 _⟩ ?_;rintro W5 ⟨HB, rfl, hb5, hhb5⟩;have HB5 := hidF (bel_trans HB4.out hb5);have HFB5 := hidF (xkeep_heap hb5 HFB4.out);have HHB5 := hidF hhb5;have HHV5 := hidF (HHV.out.fits hb5);have hfb := HFB5.out;have f0 := xheap_cell (o := 0) hfb rfl;have f1 := xheap_cell (o := 1) hfb rfl;have f2 := xheap_cell (o := 2) hfb rfl;have f3 := xheap_cell (o := 3) hfb rfl;have f4 := xheap_cell (o := 4) hfb rfl;have f5 := xheap_cell (o := 5) hfb rfl;clear hfb hb5 hhb5 d0 d1 d2 d3 d4 d5
 go_upto_region 7 with (go_at_call 6; refine (HTN.out _ HB5.out).mono ?_; rintro e W6 ⟨rfl, hb6⟩; have HB6 := hidF (bel_trans HB5.out hb6); have HFB6 := hidF (xkeep_heap hb6 HFB5.out); have HHB6 := hidF (xkeep_heap hb6 HHB5.out); have HHV6 := hidF (HHV5.out.fits hb6); clear hb6 f0 f1 f2 f3 f4 f5)
 refine gwp_namedF (fun W => ∃ b, b = W6.heap.size ∧ Below W6.heap.size W6 W ∧ W.heap[b]? = some (.cells #[.string ⟨#[]⟩, .slice none 0 0, .int .i64 0, .int .i64 0, .int .i64 0, .slice none 0 0] 25 (0, 0))) ⟨_, rfl, bel_alloc (Below.refl _ _) _, xheap_new W6 _⟩ ?_;rintro W7 ⟨GB, rfl, hb7, hgb7⟩;have HB7 := hidF (bel_trans HB6.out hb7);have hfb := xkeep_heap hb7 HFB6.out;have hhb := xkeep_heap hb7 HHB6.out;have HHB7 := hidF hhb;have HGB7 := hidF hgb7;have HHV7 := hidF (HHV6.out.fits hb7);have f0 := xheap_cell (o := 0) hfb rfl;have f1 := xheap_cell (o := 1) hfb rfl;have f2 := xheap_cell (o := 2) hfb rfl;have f3 := xheap_cell (o := 3) hfb rfl;have f4 := xheap_cell (o := 4) hfb rfl;have f5 := xheap_cell (o := 5) hfb rfl;have h0 := xheap_cell (o := 0) hhb rfl;have h1 := xheap_cell (o := 1) hhb rfl;have h2 := xheap_cell (o := 2) hhb rfl;have h3 := xheap_cell (o := 3) hhb rfl;have h4 := xheap_cell (o := 4) hhb rfl;have h5 := xheap_cell (o := 5) hhb rfl;clear hfb hhb hb7 hgb7;have HSF : Hid (∀ W, Below W7.heap.size W7 W → Calls prog 7 #[.agg #[.string fname, .slice pa pn pc, .int .i64 regs, .int .i64 frm, .int .i64 ent, .slice ca n cap], .agg #[.string fname, .slice qa params.length qc, .int .i64 regs, .int .i64 frm, .int .i64 ent, .slice ra code.length rc]] W (retP (.bool true) W)) := fun W hW => sameF_any (HV.out.fits (bel_trans HB7.out hW)) (HHV7.out.fits hW)
 go_upto_region 9 with (go_at_call 7; refine (HSF.out _ (Below.refl _ _)).mono ?_; rintro e W8 ⟨rfl, hb8⟩; have HB8 := hidF (bel_trans HB7.out hb8); have hhb := xkeep_heap hb8 HHB7.out; have HGB8 := hidF (xkeep_heap hb8 HGB7.out); have HHV8 := hidF (HHV7.out.fits hb8); have h0 := xheap_cell (o := 0) hhb rfl; have h1 := xheap_cell (o := 1) hhb rfl; have h2 := xheap_cell (o := 2) hhb rfl; have h3 := xheap_cell (o := 3) hhb rfl; have h4 := xheap_cell (o := 4) hhb rfl; have h5 := xheap_cell (o := 5) hhb rfl; clear hb8 hhb f0 f1 f2 f3 f4 f5)
 have HSZ : Hid (∀ W, Calls prog 7 #[.agg #[.string ⟨#[]⟩, .slice none 0 0, .int .i64 0, .int .i64 0, .int .i64 0, .slice none 0 0], .agg #[.string ⟨#[]⟩, .slice none 0 0, .int .i64 0, .int .i64 0, .int .i64 0, .slice none 0 0]] W (retP (.bool true) W)) := fun W => sameF_any (zero_fnV W) (zero_fnV W)
 go_upto_region 10 with (go_at_call 8; refine (HRR.out _ _ HHV8.out).mono ?_; rintro e W9 ⟨rfl, hb9⟩; have HB9 := hidF (bel_trans HB8.out hb9); have hgb := xkeep_heap hb9 HGB8.out; have g0 := xheap_cell (o := 0) hgb rfl; have g1 := xheap_cell (o := 1) hgb rfl; have g2 := xheap_cell (o := 2) hgb rfl; have g3 := xheap_cell (o := 3) hgb rfl; have g4 := xheap_cell (o := 4) hgb rfl; have g5 := xheap_cell (o := 5) hgb rfl; clear hb9 hgb h0 h1 h2 h3 h4 h5)
 go_wp2_with (go_at_call 7; refine (HSZ.out _).mono ?_; rintro e W10 ⟨rfl, hb10⟩; have HB10 := hidF (bel_trans HB9.out hb10); clear hb10)
 go_ret;exact ⟨rfl, HB10.out⟩
end Go.Proofs.YtncondlfngeilaaGreatDoor
