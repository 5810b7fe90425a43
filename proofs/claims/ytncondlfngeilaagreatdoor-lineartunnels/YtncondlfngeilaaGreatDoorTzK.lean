import Derived.Test.YtncondlfngeilaaGreatDoorTnW0
namespace Go.Proofs.YtncondlfngeilaaGreatDoor
open Go.ChangeShapes Go.WideShapes Go.ChangeAt Go.RowKit Go.Proofs.Tryz
set_option linter.unusedSimpArgs false
set_option linter.unusedVariables false
set_option maxRecDepth 100000
set_option maxHeartbeats 32000000

theorem tn_step12 {code : List Ins} {i m : Nat} {x y : Ins} (hx : code[i]? = some x) (hy : code[m]? = some y) (h12 : x.op = 12) : (if m < i then tnI code y else y) = if m < i + 1 then tnI code y else y := by
 by_cases e : m = i
 ·subst e
  cases hx.symm.trans hy
  have e2 : tnI code x = x := by
   unfold tnI;rw [if_pos h12, if_neg (by omega)]
  rw [e2];simp
 ·by_cases q : m < i
  ·rw [if_pos q, if_pos (by omega)]
  ·rw [if_neg q, if_neg (by omega)]
theorem tn_step1 {code : List Ins} {i m : Nat} {x y : Ins} {z : Int} (hx : code[i]? = some x) (hy : code[m]? = some y) (h12 : x.op ≠ 12) (h11 : x.op ≠ 11) (hz : z = (goalF code x.s.toNat : Int)) : up7 (fun m y => if m < i then tnI code y else y) i z m y = if m < i + 1 then tnI code y else y := by
 unfold up7
 by_cases e : m = i
 ·subst e
  cases hx.symm.trans hy
  have e2 : tnI code x = { x with s := (goalF code x.s.toNat : Int) } := by
   unfold tnI;rw [if_neg h12, if_neg h11]
  rw [if_pos rfl, if_pos (show m < m + 1 by omega), e2, hz];simp
 ·rw [if_neg e]
  show (if m < i then tnI code y else y) = _
  by_cases q : m < i
  ·rw [if_pos q, if_pos (by omega)]
  ·rw [if_neg q, if_neg (by omega)]
theorem tn_step2 {code : List Ins} {i m : Nat} {x y : Ins} {z u : Int} (hx : code[i]? = some x) (hy : code[m]? = some y) (h11 : x.op = 11) (hz : z = (goalF code x.s.toNat : Int)) (hu : u = (goalF code x.t.toNat : Int)) : up8 (up7 (fun m y => if m < i then tnI code y else y) i z) i u m y = if m < i + 1 then tnI code y else y := by
 unfold up8 up7
 by_cases e : m = i
 ·subst e
  cases hx.symm.trans hy
  have e2 : tnI code x = { x with s := (goalF code x.s.toNat : Int), t := (goalF code x.t.toNat : Int) } := by
   unfold tnI;rw [if_neg (by omega), if_pos h11]
  rw [if_pos rfl, if_pos rfl, if_pos (show m < m + 1 by omega), e2, hz, hu];simp
 ·rw [if_neg e, if_neg e]
  show (if m < i then tnI code y else y) = _
  by_cases q : m < i
  ·rw [if_pos q, if_pos (by omega)]
  ·rw [if_neg q, if_neg (by omega)]
theorem LwS.last {w Wh W : World} {GB HB CB n cc : Nat} {FA GA HA : Array Value} {vg pv : Value} {fname : ByteArray} {params : List Int} {regs frm : Int} {en : Nat} {code : List Ins} (h : LwS w Wh GB HB CB (fun m y => if m < n then tnI code y else y) FA GA HA vg pv ⟨fname, params, regs, frm, (en : Int), code⟩ W) (hn : code.length = n) (h88 : n * 88 ≤ 140737488355328) (hnm : fname.size ≤ 140737488355328) : FnV W (.agg #[.string fname, pv, .int .i64 regs, .int .i64 frm, .int .i64 (goalF code en : Int), .slice (some ⟨CB, 0, none⟩) n cc]) (tnF ⟨fname, params, regs, frm, (en : Int), code⟩) := by
 refine ⟨pv, .slice (some ⟨CB, 0, none⟩) n cc, rfl, h.par.1, ⟨some ⟨CB, 0, none⟩, cc, ?_, ?_, (fun e => by cases e), fun _ => ⟨CB, 0, rfl, fun i y hy => ?_⟩⟩, hnm⟩
 ·show _ = Value.slice _ (code.map (tnI code)).length _
  rw [List.length_map, hn]
 ·show (code.map (tnI code)).length * 88 ≤ _
  rw [List.length_map, hn];exact h88
 ·have hy2 : (code.map (tnI code))[i]? = some y := hy
  rw [List.getElem?_map, Option.map_eq_some_iff] at hy2;obtain ⟨x, hx, rfl⟩ := hy2;have hi : i < n := by rw [← hn]; exact (List.getElem?_eq_some_iff.1 hx).1
  have := h.row i x hx
  (try dsimp only at this)
  rw [if_pos hi] at this;exact this.ins
theorem lw_good (w : World) (fname : ByteArray) (pa : Option Addr) (pn pc cb co n cap en : Nat) (regs frm : Int) (params : List Int) (code : List Ins) (hn0 : 0 < n) (hn : n ≤ 100000) (h88 : n * 88 ≤ 140737488355328) (hnm : fname.size ≤ 140737488355328) (hen : en < n) (hq0 : decide ((60 : Int) < n) = false) (hq1 : decide (60 < regs) = false) (HA : Hid (∀ W, Below w.heap.size w W → Calls prog 4 #[] W (retP (.bool true) W)))
  (HV : Hid (FnV w (.agg #[.string fname, .slice pa pn pc, .int .i64 regs, .int .i64 frm, .int .i64 (en : Int), .slice (some ⟨cb, co, none⟩) n cap]) ⟨fname, params, regs, frm, (en : Int), code⟩)) (HN : Hid (code.length = n)) (HIN : Hid (∀ (i : Nat) x, code[i]? = some x → InsAt w cb (co + i * 9) x)) (HCBW : Hid (cb < w.heap.size)) (HSX : Hid (∀ x ∈ code, (x.op ≠ 12 → 0 ≤ x.s ∧ x.s < n) ∧ (x.op = 11 → 0 ≤ x.t ∧ x.t < n)))
  (HCP : Hid (∀ w1, Below w.heap.size w w1 → Calls prog 5 #[.agg #[.slice none 0 0, .slice (some ⟨w1.heap.size, 0, none⟩) 1 1, .int .i64 0]] (w1.alloc (.cells #[.string fname, .slice pa pn pc, .int .i64 regs, .int .i64 frm, .int .i64 (en : Int), .slice (some ⟨cb, co, none⟩) n cap] 25)) (retPg1 ⟨fname, params, regs, frm, (en : Int), code⟩ (w1.alloc (.cells #[.string fname, .slice pa pn pc, .int .i64 regs, .int .i64 frm, .int .i64 (en : Int), .slice (some ⟨cb, co, none⟩) n cap] 25)))))
  (HTN : Hid (∀ W, Below w.heap.size w W → Calls prog 6 #[.agg #[.string fname, .slice pa pn pc, .int .i64 regs, .int .i64 frm, .int .i64 (en : Int), .slice (some ⟨cb, co, none⟩) n cap]] W fun e W' => ∃ v, e = .returned (.tuple #[v, .int .i64 0]) ∧ FnVq (fun k => k < w.heap.size ∨ W.heap.size ≤ k) W' v (tnF ⟨fname, params, regs, frm, (en : Int), code⟩) ∧ Below W.heap.size W W'))
  (HRR : Hid (∀ W v, FnV W v ⟨fname, params, regs, frm, (en : Int), code⟩ → Calls prog 8 #[v] W (retP (.bool true) W)))
  (HGO : Hid (∀ W (k : Nat), Below w.heap.size w W → k < n → Calls prog 9 #[.agg #[.string fname, .slice pa pn pc, .int .i64 regs, .int .i64 frm, .int .i64 (en : Int), .slice (some ⟨cb, co, none⟩) n cap], .int .i64 (k : Int)] W (retP (.int .i64 (goalF code k : Int)) W))) :
  Calls prog 3 #[.agg #[.string fname, .slice pa pn pc, .int .i64 regs, .int .i64 frm, .int .i64 (en : Int), .slice (some ⟨cb, co, none⟩) n cap]] w (retP (.bool true) w) := by
 have q0n : decide (60 < n) = false := by simp at hq0 ⊢; omega
 have hNm : (n : Int) ≤ 9223372036854775807 := by omega
 go_enter func3, ntmps3
 go_upto_region 5 with (go_at_call 4; refine (HA.out _ (by repeat (first | with_reducible exact Below.refl _ _ | with_reducible refine bel_alloc ?_ _ | with_reducible refine bel_set ?_ (by first | exact Nat.le_refl _ | (simp; done) | (simp; omega)) _ | with_reducible refine Below.drew ?_ | refine bel_trans ?_ (by assumption)))).mono ?_; rintro e w1 ⟨rfl, hb1⟩; have HB1 : Hid (Below w.heap.size w w1) := bel_trans (bel_alloc (Below.refl _ _) _) hb1; have hfb1 := xkeep_heap hb1 (xheap_new w (.cells #[.string fname, .slice pa pn pc, .int .i64 regs, .int .i64 frm, .int .i64 (en : Int), .slice (some ⟨cb, co, none⟩) n cap] 25 (0, 0))); have f0 := xheap_cell (o := 0) hfb1 rfl; have f1 := xheap_cell (o := 1) hfb1 rfl; have f2 := xheap_cell (o := 2) hfb1 rfl; have f3 := xheap_cell (o := 3) hfb1 rfl; have f4 := xheap_cell (o := 4) hfb1 rfl; have f5 := xheap_cell (o := 5) hfb1 rfl; have HFB1 := hidF hfb1; clear hb1 hfb1)
 have hfd : ∀ (gv mv : Value) (g c : Nat) (W : World), (Instr.field 29 (.agg #[gv, .slice (some ⟨g, 0, none⟩) 1 c, mv]) 1).run prog W = .ok (.slice (some ⟨g, 0, none⟩) 1 c) W := fun _ _ _ _ _ => rfl;have HBW : Hid (Below w.heap.size w (w1.alloc (.cells #[.string fname, .slice pa pn pc, .int .i64 regs, .int .i64 frm, .int .i64 (en : Int), .slice (some ⟨cb, co, none⟩) n cap] 25))) := bel_alloc HB1.out _
 go_upto_region 6 with (go_at_call 5; refine (HCP.out w1 HB1.out).mono ?_; rintro e W4 ⟨gv, g, cg, mv, pv, cv, rfl, hil, hcd, hrn, hcl, hb4⟩; obtain ⟨CB, cc, e1, c1, c2, c3, c4⟩ := hrn (fun e => by have := HN.out; rw [show code = [] from e] at this; simp at this; omega); rw [show (Fn.code ⟨fname, params, regs, frm, (en : Int), code⟩).length = n from HN.out] at e1; have e1' : cv = .slice (some ⟨CB, 0, none⟩) n cc := e1; subst e1'; obtain ⟨qa, qc, rfl, _⟩ := hil.partsF; have d0 := hcl 0 _ (by omega) rfl; have d1 := hcl 1 _ (by omega) rfl; have d2 := hcl 2 _ (by omega) rfl; have d3 := hcl 3 _ (by omega) rfl; have d4 := hcl 4 _ (by omega) rfl; have d5 := hcl 5 _ (by omega) rfl; have HB4 := hidF (bel_trans HBW.out hb4); have hfb4 := xkeep_heap hb4 (xkeep_heap (bel_alloc (Below.refl _ _) _) HFB1.out); have HFB4 := hidF hfb4; have HHV : Hid (FnV W4 (.agg #[.string fname, .slice qa params.length qc, .int .i64 regs, .int .i64 frm, .int .i64 (en : Int), .slice (some ⟨CB, 0, none⟩) n cc]) ⟨fname, params, regs, frm, (en : Int), code⟩) := ⟨_, _, rfl, hil, hcd, hnm⟩; have HCC := hidF (And.intro c1 (And.intro c2 (And.intro c3 c4))); have HZ1 : Hid (w.heap.size < (w1.alloc (.cells #[.string fname, .slice pa pn pc, .int .i64 regs, .int .i64 frm, .int .i64 (en : Int), .slice (some ⟨cb, co, none⟩) n cap] 25)).heap.size) := (show w.heap.size < _ from by have := xheap_lt HFB1.out; rw [World.size_alloc]; omega); have HIL4 := hidF hil; clear hb4 hfb4 hil hcd hrn hcl e1 c1 c2 c3 c4 f0 f1 f2 f3 f4 f5)
 refine gwp_namedF (fun W => ∃ b, b = W4.heap.size ∧ Below W4.heap.size W4 W ∧ W.heap[b]? = some (.cells #[.string fname, .slice qa params.length qc, .int .i64 regs, .int .i64 frm, .int .i64 (en : Int), .slice (some ⟨CB, 0, none⟩) n cc] 25 (0, 0)) ∧ W.heap.size = W4.heap.size + 1) ⟨_, rfl, bel_alloc (Below.refl _ _) _, xheap_new W4 _, World.size_alloc _ _⟩ ?_;rintro Wh ⟨HB, rfl, hb5, hhb5, hs5⟩;have HB5 := hidF (bel_trans HB4.out hb5);have HB45 := hidF hb5;have HS5 := hidF hs5;have HFB5 := hidF (xkeep_heap hb5 HFB4.out);have HHB5 := hidF hhb5;have HHV5 := hidF (HHV.out.fits hb5);have hfb := HFB5.out;have f0 := xheap_cell (o := 0) hfb rfl;have f1 := xheap_cell (o := 1) hfb rfl;have f2 := xheap_cell (o := 2) hfb rfl;have f3 := xheap_cell (o := 3) hfb rfl;have f4 := xheap_cell (o := 4) hfb rfl;have f5 := xheap_cell (o := 5) hfb rfl;clear hfb hb5 hhb5 hs5 d0 d1 d2 d3 d4 d5
 go_upto_region 7 with (go_at_call 6; refine (HTN.out _ HB5.out).mono ?_; rintro e W6 ⟨vg, rfl, hgv, hb6⟩; have HGV := hidF hgv; obtain ⟨gpv, gcv, rfl, gq1, gq2, _⟩ := hgv; obtain ⟨ga, gc, rfl, _⟩ := gq1.1.partsF; obtain ⟨gd, ge, rfl, _⟩ := gq2; have HB6 := hidF (bel_trans HB5.out hb6); have HB56 := hidF hb6; have HFB6 := hidF (xkeep_heap hb6 HFB5.out); have HHB6 := hidF (xkeep_heap hb6 HHB5.out); have HHV6 := hidF (HHV5.out.fits hb6); clear hb6 gq1 f0 f1 f2 f3 f4 f5)
 refine gwp_namedF (fun W => ∃ b, b = W6.heap.size ∧ Below W6.heap.size W6 W ∧ W.heap[b]? = some (.cells #[.string (tnF ⟨fname, params, regs, frm, (en : Int), code⟩).name, .slice ga (tnF ⟨fname, params, regs, frm, (en : Int), code⟩).params.length gc, .int .i64 (tnF ⟨fname, params, regs, frm, (en : Int), code⟩).regs, .int .i64 (tnF ⟨fname, params, regs, frm, (en : Int), code⟩).frame, .int .i64 (tnF ⟨fname, params, regs, frm, (en : Int), code⟩).entry, .slice gd (tnF ⟨fname, params, regs, frm, (en : Int), code⟩).code.length ge] 25 (0, 0))) ⟨_, rfl, bel_alloc (Below.refl _ _) _, xheap_new W6 _⟩ ?_;rintro W7 ⟨GB, rfl, hb7, hgb7⟩;have HB7 := hidF (bel_trans HB6.out hb7);have hfb := xkeep_heap hb7 HFB6.out;have hhb := xkeep_heap hb7 HHB6.out;have HHV7 := hidF (HHV6.out.fits hb7)
 have HL7 : Hid (LwS w Wh W6.heap.size W4.heap.size CB (fun m y => y) #[.string fname, .slice pa pn pc, .int .i64 regs, .int .i64 frm, .int .i64 (en : Int), .slice (some ⟨cb, co, none⟩) n cap] #[.string (tnF ⟨fname, params, regs, frm, (en : Int), code⟩).name, .slice ga (tnF ⟨fname, params, regs, frm, (en : Int), code⟩).params.length gc, .int .i64 (tnF ⟨fname, params, regs, frm, (en : Int), code⟩).regs, .int .i64 (tnF ⟨fname, params, regs, frm, (en : Int), code⟩).frame, .int .i64 (tnF ⟨fname, params, regs, frm, (en : Int), code⟩).entry, .slice gd (tnF ⟨fname, params, regs, frm, (en : Int), code⟩).code.length ge] #[.string fname, .slice qa params.length qc, .int .i64 regs, .int .i64 frm, .int .i64 (en : Int), .slice (some ⟨CB, 0, none⟩) n cc] (.agg #[.string (tnF ⟨fname, params, regs, frm, (en : Int), code⟩).name, .slice ga (tnF ⟨fname, params, regs, frm, (en : Int), code⟩).params.length gc, .int .i64 (tnF ⟨fname, params, regs, frm, (en : Int), code⟩).regs, .int .i64 (tnF ⟨fname, params, regs, frm, (en : Int), code⟩).frame, .int .i64 (tnF ⟨fname, params, regs, frm, (en : Int), code⟩).entry, .slice gd (tnF ⟨fname, params, regs, frm, (en : Int), code⟩).code.length ge]) (.slice qa params.length qc) ⟨fname, params, regs, frm, (en : Int), code⟩ W7) := by
  obtain ⟨c1, c2, c3, c4⟩ := HCC.out;have s4 := HB4.out.size;have s5 := HS5.out;have s6 := HB56.out.size;have s7 := hb7.size;have z1 := HZ1.out;have hb47 : Below W4.heap.size W4 W7 := bel_trans HB45.out (bel_trans HB56.out hb7);exact ⟨HB7.out, hfb, hgb7, hhb, HGV.out.keep (Kc.all hb7), ⟨HIL4.out.keep hb47, fun hl b o s k c e => ⟨HIL4.out.q.2 hl b o s k c e, c3 hl b o s k c e⟩⟩, fun m x hx => ((c4 m x hx).of (fun k q => hb47.block k q.1) (hb47.block CB c2)).mono (fun k q => q), ⟨by omega, by omega, by omega, by omega, by omega⟩, by omega, by omega⟩
 have f0 := xheap_cell (o := 0) hfb rfl;have f1 := xheap_cell (o := 1) hfb rfl;have f2 := xheap_cell (o := 2) hfb rfl;have f3 := xheap_cell (o := 3) hfb rfl;have f4 := xheap_cell (o := 4) hfb rfl;have f5 := xheap_cell (o := 5) hfb rfl;have h0 := xheap_cell (o := 0) hhb rfl;have h1 := xheap_cell (o := 1) hhb rfl;have h2 := xheap_cell (o := 2) hhb rfl;have h3 := xheap_cell (o := 3) hhb rfl;have h4 := xheap_cell (o := 4) hhb rfl;have h5 := xheap_cell (o := 5) hhb rfl;clear hfb hhb hb7 hgb7;have HSF : Hid (∀ W, Below W7.heap.size W7 W → Calls prog 7 #[.agg #[.string fname, .slice pa pn pc, .int .i64 regs, .int .i64 frm, .int .i64 (en : Int), .slice (some ⟨cb, co, none⟩) n cap], .agg #[.string fname, .slice qa params.length qc, .int .i64 regs, .int .i64 frm, .int .i64 (en : Int), .slice (some ⟨CB, 0, none⟩) n cc]] W (retP (.bool true) W)) := fun W hW => sameF_any (HV.out.fits (bel_trans HB7.out hW)) (HHV7.out.fits hW)
 go_upto_region 9 with (go_at_call 7; refine (HSF.out _ (Below.refl _ _)).mono ?_; rintro e W8 ⟨rfl, hb8⟩; have HL8 := hidF (HL7.out.keep hb8); have HHV8 := hidF (HHV7.out.fits hb8); have hhb := HL8.out.hb; have h0 := xheap_cell (o := 0) hhb rfl; have h1 := xheap_cell (o := 1) hhb rfl; have h2 := xheap_cell (o := 2) hhb rfl; have h3 := xheap_cell (o := 3) hhb rfl; have h4 := xheap_cell (o := 4) hhb rfl; have h5 := xheap_cell (o := 5) hhb rfl; clear hb8 hhb f0 f1 f2 f3 f4 f5)
 go_upto_region 11 with (go_at_call 8; refine (HRR.out _ _ HHV8.out).mono ?_; rintro e W9 ⟨rfl, hb9⟩; have HL9 := hidF (HL8.out.keep hb9); have hfb := HL9.out.fb; have hhb := HL9.out.hb; have f0 := xheap_cell (o := 0) hfb rfl; have f1 := xheap_cell (o := 1) hfb rfl; have f2 := xheap_cell (o := 2) hfb rfl; have f3 := xheap_cell (o := 3) hfb rfl; have f4 := xheap_cell (o := 4) hfb rfl; have f5 := xheap_cell (o := 5) hfb rfl; have g4 := xheap_cell (o := 4) hhb rfl; clear hb9 hfb hhb h0 h1 h2 h3 h4 h5)
 go_upto_region 12 with (go_at_call 9; refine (HGO.out _ en HL9.out.bel hen).mono ?_; rintro e W10 ⟨rfl, hb10⟩; have HL10 := hidF (HL9.out.keep hb10); have hhb := HL10.out.hb; have k4 := xheap_cell (o := 4) hhb rfl; have z4 := xheap_frozen (o := 4) hhb; clear hb10 hhb f0 f1 f2 f3 f4 f5 g4)
 have HL11 : Hid (LwS w Wh W6.heap.size W4.heap.size CB (fun m y => if m < 0 then tnI code y else y) #[.string fname, .slice pa pn pc, .int .i64 regs, .int .i64 frm, .int .i64 (en : Int), .slice (some ⟨cb, co, none⟩) n cap] #[.string (tnF ⟨fname, params, regs, frm, (en : Int), code⟩).name, .slice ga (tnF ⟨fname, params, regs, frm, (en : Int), code⟩).params.length gc, .int .i64 (tnF ⟨fname, params, regs, frm, (en : Int), code⟩).regs, .int .i64 (tnF ⟨fname, params, regs, frm, (en : Int), code⟩).frame, .int .i64 (tnF ⟨fname, params, regs, frm, (en : Int), code⟩).entry, .slice gd (tnF ⟨fname, params, regs, frm, (en : Int), code⟩).code.length ge] #[.string fname, .slice qa params.length qc, .int .i64 regs, .int .i64 frm, .int .i64 (goalF code en : Int), .slice (some ⟨CB, 0, none⟩) n cc] (.agg #[.string (tnF ⟨fname, params, regs, frm, (en : Int), code⟩).name, .slice ga (tnF ⟨fname, params, regs, frm, (en : Int), code⟩).params.length gc, .int .i64 (tnF ⟨fname, params, regs, frm, (en : Int), code⟩).regs, .int .i64 (tnF ⟨fname, params, regs, frm, (en : Int), code⟩).frame, .int .i64 (tnF ⟨fname, params, regs, frm, (en : Int), code⟩).entry, .slice gd (tnF ⟨fname, params, regs, frm, (en : Int), code⟩).code.length ge]) (.slice qa params.length qc) ⟨fname, params, regs, frm, (en : Int), code⟩ (W10.setCell ⟨W4.heap.size, 4, none⟩ (.int .i64 (goalF code en : Int)))) := by
  obtain ⟨c1, c2, c3, c4⟩ := HCC.out;have s4 := HB4.out.size;have s5 := HS5.out;have z1 := HZ1.out;have h := HL10.out;have hs6 := HB56.out.size;exact LwS.ext (h.entry ⟨by have := xheap_lt HFB4.out; omega, by omega, by omega⟩ _) (fun m x _ => by simp)
 generalize W10.setCell ⟨W4.heap.size, 4, none⟩ (.int .i64 (goalF code en : Int)) = W11 at *
 have HNE : Hid (W4.heap.size ≠ CB ∧ w.heap.size ≠ CB ∧ cb ≠ CB) := by
  have h := HL11.out.cbs;have := HCBW.out;exact ⟨h.2.2.2.2, h.2.2.1, by omega⟩
 clear k4 z4 HL10 HL9 HL8 HL7 HHV8 HHV7 HHV6 HHV5 HHV HSF;go_wp2
 go_loopw [6] (fun v6 wz => ∃ i : Nat, i ≤ n ∧ v6 = .int .i64 i ∧ Hid (LwS w Wh W6.heap.size W4.heap.size CB (fun m y => if m < i then tnI code y else y) #[.string fname, .slice pa pn pc, .int .i64 regs, .int .i64 frm, .int .i64 (en : Int), .slice (some ⟨cb, co, none⟩) n cap] #[.string (tnF ⟨fname, params, regs, frm, (en : Int), code⟩).name, .slice ga (tnF ⟨fname, params, regs, frm, (en : Int), code⟩).params.length gc, .int .i64 (tnF ⟨fname, params, regs, frm, (en : Int), code⟩).regs, .int .i64 (tnF ⟨fname, params, regs, frm, (en : Int), code⟩).frame, .int .i64 (tnF ⟨fname, params, regs, frm, (en : Int), code⟩).entry, .slice gd (tnF ⟨fname, params, regs, frm, (en : Int), code⟩).code.length ge] #[.string fname, .slice qa params.length qc, .int .i64 regs, .int .i64 frm, .int .i64 (goalF code en : Int), .slice (some ⟨CB, 0, none⟩) n cc] (.agg #[.string (tnF ⟨fname, params, regs, frm, (en : Int), code⟩).name, .slice ga (tnF ⟨fname, params, regs, frm, (en : Int), code⟩).params.length gc, .int .i64 (tnF ⟨fname, params, regs, frm, (en : Int), code⟩).regs, .int .i64 (tnF ⟨fname, params, regs, frm, (en : Int), code⟩).frame, .int .i64 (tnF ⟨fname, params, regs, frm, (en : Int), code⟩).entry, .slice gd (tnF ⟨fname, params, regs, frm, (en : Int), code⟩).code.length ge]) (.slice qa params.length qc) ⟨fname, params, regs, frm, (en : Int), code⟩ wz)) (fun v6 _ => n - (intOf v6).toNat)
 case atStart => exact ⟨0, by omega, rfl, HL11⟩
 case round =>
  clear HL11;obtain ⟨i, hi, rfl, HL⟩ := hrel
  rename World => wz
  have hfb := HL.out.fb;have hhb := HL.out.hb;have f0 := xheap_cell (o := 0) hfb rfl;have f1 := xheap_cell (o := 1) hfb rfl;have f2 := xheap_cell (o := 2) hfb rfl;have f3 := xheap_cell (o := 3) hfb rfl;have f4 := xheap_cell (o := 4) hfb rfl;have f5 := xheap_cell (o := 5) hfb rfl;have h5 := xheap_cell (o := 5) hhb rfl;clear hfb
  by_cases hin : i < n
  ·have j0 : (0 : Int) ≤ i := by omega
   have j1 : (i : Int) < n := by omega
   have hget := List.getElem?_eq_getElem (l := code) (show i < code.length by rw [HN.out]; exact hin)
   generalize code[i]'(by rw [HN.out]; exact hin) = x at hget
   have HG := hidF hget;have hsx := HSX.out x (List.mem_of_getElem? hget);obtain ⟨v, _, e0, e1, e2, e3, e4, e5, e6, e7, e8⟩ := (HIN.out i x hget).keep HL.out.bel;have hr := HL.out.row i x hget
   (try dsimp only at hr)
   rw [if_neg (by omega)] at hr;obtain ⟨v2, _, _, t0, t1, t2, t3, t4, t5, t6, t7, t8, z0, z1, z2, z3, z4, z5, z6, z7, z8⟩ := hr;rw [Nat.zero_add] at t7 t8 z7 z8;clear e1 e2 e3 e4 e5 e6 t0 t1 t2 t3 t4 t5 t6 z0 z1 z2 z3 z4 z5 z6 hget hhb;have HGW : Hid (∀ k, k < n → ∀ W', Below wz.heap.size wz W' → Calls prog 9 #[.agg #[.string fname, .slice pa pn pc, .int .i64 regs, .int .i64 frm, .int .i64 (en : Int), .slice (some ⟨cb, co, none⟩) n cap], .int .i64 (k : Int)] W' (retP (.int .i64 (goalF code k : Int)) W')) := fun k hk W' hW => HGO.out W' k (bel_trans HL.out.bel hW) hk
   by_cases h12 : x.op = 12
   ·have q1 : (x.op != 12) = false := by rw [h12]; rfl
    have q2 : (x.op == 11) = false := by rw [h12]; rfl
    have HF := hidF (HL.out.ext (T' := fun m y => if m < i + 1 then tnI code y else y) (fun m y hy => tn_step12 HG.out hy h12));clear h12 hsx HL e7 e8 t7 t8 z7 z8 f0 f1 f2 f3 f4;go_wp2
    go_roundw
    case rel => exact ⟨i + 1, by omega, by simp, HF⟩
    case measure => simp [intOf]; omega
   ·have q1 : (x.op != 12) = true := by simpa using h12
    have hs1 := hsx.1 h12;obtain ⟨sn, hsn⟩ : ∃ sn : Nat, x.s = sn := ⟨x.s.toNat, by omega⟩;rw [hsn] at hs1 e7;have HSN : Hid (x.s.toNat = sn) := by show _ = _; omega
    have hsn2 : sn < n := by omega
    by_cases h11 : x.op = 11
    ·have q2 : (x.op == 11) = true := by rw [h11]; rfl
     have ht1 := hsx.2 h11;obtain ⟨tn, htn⟩ : ∃ tn : Nat, x.t = tn := ⟨x.t.toNat, by omega⟩;rw [htn] at ht1 e8;have HTN2 : Hid (x.t.toNat = tn) := by show _ = _; omega
     have htn2 : tn < n := by omega
     have H11 := hidF h11;have HT8 := hidF (And.intro t8 z8);clear h11 h12 hsx hsn htn hs1 ht1 t8 z8
     go_upto_region 16 with fail
     refine wp_calm ?_;refine lw_r16 w.heap.size W4.heap.size CB cb co n cap cc i sn (goalF code sn) fname pa pn pc regs frm (en : Int) _ _ _ _ _ _ _ _ _ _ _ _ _ _ _ _ _ _ _ _ _ _ _ _ _ _ _ _ _ _ _ _ _ _ _ _ _ _ _ _ _ _ _ _ _ _ _ _ _ _ _ _ _ _ _ _ _ _ _ _ _ _ _ _ _ _ _ _ _ _ _ _ _ _ _ _ _ _ _ _ _ _ _ _ _ _ _ _ _ _ _ _ _ _ _ _ _ _ _ _ _  _ _ wz (fun c a dd v x h => by cases h.1) h5 f0 f1 f2 f3 f4 f5 e7 t7 z7 j0 j1 HNE (hidF (HGW.out sn hsn2)) ?_;refine hidF ?_;intro y63 y64 y65 y66 y67 y68 y69 y70 y71 y72 y73 y74 y75 W2 hb2;have HL2 := hidF ((HL.out.keep hb2).set7 i (goalF code sn : Int));have c8 : (W2.setCell ⟨CB, i * 9 + 7, none⟩ (.int .i64 (goalF code sn : Int))).cell? ⟨CB, i * 9 + 8, none⟩ = _ := cell_offT (keep_cell hb2 HT8.out.1) (by omega);have c8z : (W2.setCell ⟨CB, i * 9 + 7, none⟩ (.int .i64 (goalF code sn : Int))).frozen? ⟨CB, i * 9 + 8, none⟩ = false := by rw [World.frozen?_setCell]; exact keep_frozen hb2 HT8.out.1 HT8.out.2
     have e8' : (W2.setCell ⟨CB, i * 9 + 7, none⟩ (.int .i64 (goalF code sn : Int))).cell? ⟨cb, co + i * 9 + 8, none⟩ = some (.int .i64 (tn : Int)) := keep_set (keep_cell hb2 e8) HNE.out.2.2;have e0' : (W2.setCell ⟨CB, i * 9 + 7, none⟩ (.int .i64 (goalF code sn : Int))).cell? ⟨cb, co + i * 9, none⟩ = some (.int .i64 x.op) := keep_set (keep_cell hb2 e0) HNE.out.2.2;clear f0 f1 f2 f3 f4 f5 h5 e0 e7 e8 t7 z7 HGW HL
     generalize W2.setCell ⟨CB, i * 9 + 7, none⟩ (.int .i64 (goalF code sn : Int)) = W3 at *
     have hfb := HL2.out.fb;have hhb := HL2.out.hb;have f0 := xheap_cell (o := 0) hfb rfl;have f1 := xheap_cell (o := 1) hfb rfl;have f2 := xheap_cell (o := 2) hfb rfl;have f3 := xheap_cell (o := 3) hfb rfl;have f4 := xheap_cell (o := 4) hfb rfl;have f5 := xheap_cell (o := 5) hfb rfl;have h5 := xheap_cell (o := 5) hhb rfl;have HGW : Hid (∀ W', Below W3.heap.size W3 W' → Calls prog 9 #[.agg #[.string fname, .slice pa pn pc, .int .i64 regs, .int .i64 frm, .int .i64 (en : Int), .slice (some ⟨cb, co, none⟩) n cap], .int .i64 (tn : Int)] W' (retP (.int .i64 (goalF code tn : Int)) W')) := fun W' hW => HGO.out W' tn (bel_trans HL2.out.bel hW) htn2;clear hfb hhb hb2;refine ⟨rfl, ?_⟩
     go_upto_region 18 with fail
     refine wp_calm ?_;refine lw_r18 w.heap.size W4.heap.size CB cb co n cap cc i tn (goalF code tn) fname pa pn pc regs frm (en : Int) _ _ _ _ _ _ _ _ _ _ _ _ _ _ _ _ _ _ _ _ _ _ _ _ _ _ _ _ _ _ _ _ _ _ _ _ _ _ _ _ _ _ _ _ _ _ _ _ _ _ _ _ _ _ _ _ _ _ _ _ _ _ _ _ _ _ _ _ _ _ _ _ _ _ _ _ _ _ _ _ _ _ _ _ _ _ _ _ _ _ _ _ _ _ _ _ _ _ _ _ _  _ _ W3 (fun c a dd v x h => by cases h.1) h5 f0 f1 f2 f3 f4 f5 e8' c8 c8z j0 j1 HNE HGW ?_;refine hidF ?_;intro y83 y84 y85 y86 y87 y88 y89 y90 y91 y92 y93 y94 y95 W5' hb5';have HL3 := hidF ((HL2.out.keep hb5').set8 i (goalF code tn : Int));have HF := hidF (HL3.out.ext (T' := fun m y => if m < i + 1 then tnI code y else y) (fun m y hy => tn_step2 HG.out hy H11.out (by rw [HSN.out]) (by rw [HTN2.out])));clear HL3 HL2 hb5' f0 f1 f2 f3 f4 f5 h5 e0' e8' c8 c8z HGW;refine ⟨rfl, ?_⟩;go_wp2
     go_roundw
     case rel => exact ⟨i + 1, by omega, by simp, HF⟩
     case measure => simp [intOf]; omega
    ·have q2 : (x.op == 11) = false := by simpa using h11
     have H11 := hidF h11;have H12 := hidF h12;clear h11 h12 hsx hsn hs1 e8 t8 z8
     go_upto_region 16 with fail
     refine wp_calm ?_;refine lw_r16 w.heap.size W4.heap.size CB cb co n cap cc i sn (goalF code sn) fname pa pn pc regs frm (en : Int) _ _ _ _ _ _ _ _ _ _ _ _ _ _ _ _ _ _ _ _ _ _ _ _ _ _ _ _ _ _ _ _ _ _ _ _ _ _ _ _ _ _ _ _ _ _ _ _ _ _ _ _ _ _ _ _ _ _ _ _ _ _ _ _ _ _ _ _ _ _ _ _ _ _ _ _ _ _ _ _ _ _ _ _ _ _ _ _ _ _ _ _ _ _ _ _ _ _ _ _ _  _ _ wz (fun c a dd v x h => by cases h.1) h5 f0 f1 f2 f3 f4 f5 e7 t7 z7 j0 j1 HNE (hidF (HGW.out sn hsn2)) ?_;refine hidF ?_;intro y63 y64 y65 y66 y67 y68 y69 y70 y71 y72 y73 y74 y75 W2 hb2;have HL2 := hidF ((HL.out.keep hb2).set7 i (goalF code sn : Int));have e0' : (W2.setCell ⟨CB, i * 9 + 7, none⟩ (.int .i64 (goalF code sn : Int))).cell? ⟨cb, co + i * 9, none⟩ = some (.int .i64 x.op) := keep_set (keep_cell hb2 e0) HNE.out.2.2;clear f0 f1 f2 f3 f4 f5 h5 e0 e7 t7 z7 HGW HL
     generalize W2.setCell ⟨CB, i * 9 + 7, none⟩ (.int .i64 (goalF code sn : Int)) = W3 at *
     have hfb := HL2.out.fb;have f5 := xheap_cell (o := 5) hfb rfl;have HF := hidF (HL2.out.ext (T' := fun m y => if m < i + 1 then tnI code y else y) (fun m y hy => tn_step1 HG.out hy H12.out H11.out (by rw [HSN.out])));clear hfb hb2 HL2;refine ⟨rfl, ?_⟩;go_wp2
     go_roundw
     case rel => exact ⟨i + 1, by omega, by simp, HF⟩
     case measure => simp [intOf]; omega
  ·obtain rfl : n = i := by omega
   have hgb := HL.out.gb;have h0 := xheap_cell (o := 0) hhb rfl;have h1 := xheap_cell (o := 1) hhb rfl;have h2 := xheap_cell (o := 2) hhb rfl;have h3 := xheap_cell (o := 3) hhb rfl;have h4 := xheap_cell (o := 4) hhb rfl;have g0 := xheap_cell (o := 0) hgb rfl;have g1 := xheap_cell (o := 1) hgb rfl;have g2 := xheap_cell (o := 2) hgb rfl;have g3 := xheap_cell (o := 3) hgb rfl;have g4 := xheap_cell (o := 4) hgb rfl;have g5 := xheap_cell (o := 5) hgb rfl;have HSF : Hid (∀ W, Below wz.heap.size wz W → Calls prog 7 #[.agg #[.string (tnF ⟨fname, params, regs, frm, (en : Int), code⟩).name, .slice ga (tnF ⟨fname, params, regs, frm, (en : Int), code⟩).params.length gc, .int .i64 (tnF ⟨fname, params, regs, frm, (en : Int), code⟩).regs, .int .i64 (tnF ⟨fname, params, regs, frm, (en : Int), code⟩).frame, .int .i64 (tnF ⟨fname, params, regs, frm, (en : Int), code⟩).entry, .slice gd (tnF ⟨fname, params, regs, frm, (en : Int), code⟩).code.length ge], .agg #[.string fname, .slice qa params.length qc, .int .i64 regs, .int .i64 frm, .int .i64 (goalF code en : Int), .slice (some ⟨CB, 0, none⟩) n cc]] W (retP (.bool true) W)) := fun W hW => sameF_any (HL.out.gv.at.fits hW) ((HL.out.last HN.out h88 hnm).fits hW);have HBZ := hidF HL.out.bel;clear hgb hhb f0 f1 f2 f3 f4 f5 HL
   go_wp2_with (go_at_call 7; refine (HSF.out _ (by first | exact Below.refl _ _ | exact Below.drew (Below.refl _ _))).mono ?_; rintro e W12 ⟨rfl, hb12⟩; have HB12 := hidF (bel_trans HBZ.out (by first | exact hb12 | exact bel_trans (Below.drew (Below.refl _ _)) hb12)); clear hb12)
   go_ret;exact ⟨rfl, HB12.out⟩
end Go.Proofs.YtncondlfngeilaaGreatDoor
namespace Go.Proofs.YtncondlfngeilaaGreatDoor
open Go.ChangeShapes Go.WideShapes Go.ChangeAt Go.RowKit Go.Proofs.Tryz
set_option linter.unusedSimpArgs false
set_option linter.unusedVariables false

theorem pg_one {w : World} {fname : ByteArray} {pa ca : Option Addr} {pc cap : Nat} {regs frm ent : Int} {params : List Int} {code : List Ins} (h : FnV w (.agg #[.string fname, .slice pa params.length pc, .int .i64 regs, .int .i64 frm, .int .i64 ent, .slice ca code.length cap]) ⟨fname, params, regs, frm, ent, code⟩) :
  PgV (w.alloc (.cells #[.string fname, .slice pa params.length pc, .int .i64 regs, .int .i64 frm, .int .i64 ent, .slice ca code.length cap] 25)) (.agg #[.slice none 0 0, .slice (some ⟨w.heap.size, 0, none⟩) 1 1, .int .i64 0]) ⟨[], [⟨fname, params, regs, frm, ent, code⟩], 0⟩ := by
 obtain ⟨pv, cv, e, hp, hc, hn⟩ := h
 injection e with e
 have e1 := congrArg (fun (xs : Array Value) => xs[1]?) e;have e5 := congrArg (fun (xs : Array Value) => xs[5]?) e;simp at e1 e5;rw [← e1] at hp;rw [← e5] at hc;refine ⟨_, _, rfl, IL.nil _, ⟨some ⟨w.heap.size, 0, none⟩, 1, rfl, by simp, (fun h => by cases h), fun _ => ⟨w.heap.size, 0, rfl, fun i x hx => ?_⟩⟩⟩
 match i, hx with
 | 0, hx =>
  cases hx
  have := fn_at (f := ⟨fname, params, regs, frm, ent, code⟩) hp hc hn;simpa using this
 | i + 1, hx => simp at hx
theorem linearTunnels_walk (v : Value) (f : Fn) (W : World) (hf : FnV W v f) (ht : ShTab W) (HA : ∀ w1, Below W.heap.size W w1 → Calls prog 4 #[] w1 (retP (.bool true) w1)) : Calls prog 3 #[v] W (retP (.bool true) W) := by
 have hf0 := hf;obtain ⟨pa, ca, pn, pc, N, cap, rfl, hN⟩ := fnV_agg hf
 have hpn : pn = f.params.length := by
  obtain ⟨pv, cv, e, hp, _, _⟩ := hf0;obtain ⟨pa2, pc2, rfl, _⟩ := hp.partsF
  injection e with e
  have e1 := congrArg (fun (xs : Array Value) => xs[1]?) e;simp at e1;exact e1.2.1
 obtain ⟨fname, params, regs, frm, ent, code⟩ := f;have hN' : N = code.length := hN;have hpn' : pn = params.length := hpn;subst hN' hpn'
 have hNb : (code.length : Int) ≤ 9223372036854775807 := by
  obtain ⟨_, _, _, _, ⟨_, _, _, q, _⟩, _⟩ := hf0;have q' : code.length * 88 ≤ 140737488355328 := q
  omega
 have hnm : fname.size ≤ 140737488355328 := by obtain ⟨_, _, _, _, _, q⟩ := hf0; exact q
 cases hq : (decide ((60 : Int) < code.length) || decide (60 < regs)) with
 | true => exact lw_many W fname pa ca _ pc _ cap regs frm ent hNb hq HA
 | false =>
  obtain ⟨hq0, hq1⟩ := Bool.or_eq_false_iff.1 hq
  have hcp : ∀ w1, Below W.heap.size W w1 → Calls prog 5 #[.agg #[.slice none 0 0, .slice (some ⟨w1.heap.size, 0, none⟩) 1 1, .int .i64 0]] (w1.alloc (.cells #[.string fname, .slice pa params.length pc, .int .i64 regs, .int .i64 frm, .int .i64 ent, .slice ca code.length cap] 25)) (retPg1 ⟨fname, params, regs, frm, ent, code⟩ (w1.alloc (.cells #[.string fname, .slice pa params.length pc, .int .i64 regs, .int .i64 frm, .int .i64 ent, .slice ca code.length cap] 25))) := fun w1 hw =>
   (copy_any (pg_one (hf0.fits hw))).mono (fun e w' h => h _ rfl)
  cases hr : RightF ⟨fname, params, regs, frm, ent, code⟩ with
  | false =>
   refine lw_bad W fname pa ca _ pc _ cap regs frm ent params code hNb hq0 hq1 HA hf0 hcp (fun V hV => (tunnel_any hf0 hV (ht.keep hV)).mono fun e V' h => ?_) (fun V v hv => ?_)
   ·unfold retU at h
    rw [if_neg (by rw [hr]; decide)] at h;exact h
   ·have := rRight_any hv
    rw [hr] at this;exact this
  | true =>
   obtain ⟨g0, g1, g2, g3⟩ := good_parts hr;have g0' : 0 < code.length := g0;have g1' : code.length ≤ 5000 := g1;have g2' : 0 ≤ ent ∧ ent < code.length := g2;obtain ⟨en, rfl⟩ : ∃ en : Nat, ent = en := ⟨ent.toNat, by omega⟩
   obtain ⟨cb, co, rfl, h88, hin⟩ : ∃ cb co, ca = some ⟨cb, co, none⟩ ∧ code.length * 88 ≤ 140737488355328 ∧ ∀ (i : Nat) y, code[i]? = some y → InsAt W cb (co + i * 9) y := by
    obtain ⟨pv, cv, e, _, ⟨a, cp, e2, h88, _, hcc⟩, hnm⟩ := hf0;obtain ⟨b, off, e3, hcx⟩ := hcc (fun e => by have e' : code = [] := e; rw [e'] at g0'; simp at g0');rw [e2] at e
    injection e with e4
    have e5 := congrArg (fun (xs : Array Value) => xs[5]?) e4;simp at e5;exact ⟨b, off, by rw [e5.1, e3], h88, hcx⟩
   have hcb : cb < W.heap.size := by
    obtain ⟨v, _, e0, _⟩ := hin 0 (code[0]'g0') (by simp);exact block_lt_of_cell e0
   have hsn : ∀ x ∈ code, x.op = 1 → 0 ≤ x.s ∧ x.s < code.length := fun x hx h1 => (g3 x hx).1 (by omega);refine lw_good W fname pa _ pc cb co code.length cap en regs frm params code g0' (by omega) h88 hnm (by omega) hq0 hq1 HA hf0 rfl hin hcb g3 hcp (fun V hV => (tunnel_any hf0 hV (ht.keep hV)).mono fun e V' h => ?_) (fun V v hv => ?_) (fun V k hV hk => goal_walk V fname pa _ pc regs frm en cb co code.length cap k code (by omega) hk rfl (fun i x hx => (hin i x hx).keep hV) hsn)
   ·unfold retU at h
    rw [if_pos hr] at h;exact h
   ·have := rRight_any hv
    rw [hr] at this;exact this
end Go.Proofs.YtncondlfngeilaaGreatDoor
