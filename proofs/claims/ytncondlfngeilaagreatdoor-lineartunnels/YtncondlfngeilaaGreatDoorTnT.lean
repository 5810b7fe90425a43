
import Derived.Test.YtncondlfngeilaaGreatDoorTzH
import Derived.Test.YtncondlfngeilaaGreatDoorTzI
namespace Go.Proofs.YtncondlfngeilaaGreatDoor
open Go.ChangeShapes Go.WideShapes Go.ChangeAt Go.RowKit Go.Proofs.Tryz
set_option linter.unusedSimpArgs false
set_option linter.unusedVariables false
set_option maxRecDepth 100000
set_option maxHeartbeats 16000000

theorem six_same {W : World} {b : Nat} {z0 z1 z2 z3 z4 z5 : Value} (h : W.heap[b]? = some (.cells #[z0, z1, z2, z3, z4, z5] 25 (0, 0))) (v0 v1 v2 v3 v4 v5 : Value) : (((((((W.setCell ⟨b, 0, none⟩ (v0)).setCell ⟨b, 1, none⟩ (v1)).setCell ⟨b, 2, none⟩ (v2)).setCell ⟨b, 3, none⟩ (v3)).setCell ⟨b, 4, none⟩ (v4)).setCell ⟨b, 5, none⟩ (v5))).heap[b]? = some (.cells #[v0, v1, v2, v3, v4, v5] 25 (0, 0)) := xheap_set_same (xheap_set_same (xheap_set_same (xheap_set_same (xheap_set_same (xheap_set_same h _) _) _) _) _) _
theorem six_size (W : World) (b : Nat) (v0 v1 v2 v3 v4 v5 : Value) : (((((((W.setCell ⟨b, 0, none⟩ (v0)).setCell ⟨b, 1, none⟩ (v1)).setCell ⟨b, 2, none⟩ (v2)).setCell ⟨b, 3, none⟩ (v3)).setCell ⟨b, 4, none⟩ (v4)).setCell ⟨b, 5, none⟩ (v5))).heap.size = W.heap.size := by rw [xsize_set, xsize_set, xsize_set, xsize_set, xsize_set, xsize_set]
theorem six_other {W : World} {b k : Nat} (v0 v1 v2 v3 v4 v5 : Value) (h : k ≠ b) : (((((((W.setCell ⟨b, 0, none⟩ (v0)).setCell ⟨b, 1, none⟩ (v1)).setCell ⟨b, 2, none⟩ (v2)).setCell ⟨b, 3, none⟩ (v3)).setCell ⟨b, 4, none⟩ (v4)).setCell ⟨b, 5, none⟩ (v5))).heap[k]? = W.heap[k]? := by rw [xheap_set_other h, xheap_set_other h, xheap_set_other h, xheap_set_other h, xheap_set_other h, xheap_set_other h]
theorem six_below {w W : World} {b : Nat} (v0 v1 v2 v3 v4 v5 : Value) (h : Below w.heap.size w W) (hb : w.heap.size ≤ b) : Below w.heap.size w (((((((W.setCell ⟨b, 0, none⟩ (v0)).setCell ⟨b, 1, none⟩ (v1)).setCell ⟨b, 2, none⟩ (v2)).setCell ⟨b, 3, none⟩ (v3)).setCell ⟨b, 4, none⟩ (v4)).setCell ⟨b, 5, none⟩ (v5))) := (((((h.setCell hb _).setCell hb _).setCell hb _).setCell hb _).setCell hb _).setCell hb _
def tnI (code : List Ins) (x : Ins) : Ins := { x with s := if x.op = 12 then x.s else (goalF code x.s.toNat : Int), t := if x.op = 11 then (goalF code x.t.toNat : Int) else x.t }
def tnF (f : Fn) : Fn := { f with entry := (goalF f.code f.entry.toNat : Int), code := f.code.map (tnI f.code) }
structure TnS (h0 : Nat) (w Wc : World) (FB RB g cap LB n i : Nat) (fname : ByteArray) (pv : Value) (regs frm ent : Int) (params : List Int) (code : List Ins) (W : World) : Prop where
 bel : Below w.heap.size w W
 box : W.heap[FB]? = some (.cells #[.string fname, pv, .int .i64 regs, .int .i64 frm, .int .i64 ent, .slice (some ⟨g, 0, none⟩) n cap] 25 (0, 0))
 rbx : W.heap[RB]? = some (.cells #[.string ⟨#[]⟩, .slice none 0 0, .int .i64 0, .int .i64 0, .int .i64 0, .slice none 0 0] 25 (0, 0))
 par : IL W pv params ∧ (params ≠ [] → ∀ b o s k c, pv = .slice (some ⟨b, o, s⟩) k c → Wc.heap.size ≤ b ∧ b ≠ g)
 row : ∀ (m : Nat) x, code[m]? = some x → InsW (fun k => (k < h0 ∨ Wc.heap.size ≤ k) ∧ k ≠ g) W g 0 m (if m < i then tnI code x else x)
 en : ∀ j, j < n → W.cell? ⟨LB, j, none⟩ = some (.int .i64 (goalF code j : Int))
 lt : g < W.heap.size
theorem TnS.put {h0 : Nat} {w Wc : World} {FB RB g cap LB n i : Nat} {fname : ByteArray} {pv : Value} {regs frm ent : Int} {params : List Int} {code : List Ins} {W W' : World} (h : TnS h0 w Wc FB RB g cap LB n i fname pv regs frm ent params code W) (hg : w.heap.size ≤ g ∧ FB ≠ g ∧ RB ≠ g ∧ LB ≠ g) (hb : Below w.heap.size w W') (hk : ∀ k, k ≠ g → W'.heap[k]? = W.heap[k]?) (hs : W'.heap.size = W.heap.size)
  (hr : ∀ (m : Nat) x, code[m]? = some x → InsW (fun k => (k < h0 ∨ Wc.heap.size ≤ k) ∧ k ≠ g) W' g 0 m (if m < i + 1 then tnI code x else x)) : TnS h0 w Wc FB RB g cap LB n (i + 1) fname pv regs frm ent params code W' :=
 ⟨hb, (hk _ hg.2.1).trans h.box, (hk _ hg.2.2.1).trans h.rbx, ⟨h.par.1.of4 (fun hl b o s k c e => hk b (h.par.2 hl b o s k c e).2), h.par.2⟩, hr, fun j hj => cell_of (h.en j hj) (fun _ => hk _ hg.2.2.2), by rw [hs]; exact h.lt⟩
theorem tn_rest {h0 : Nat} {w Wc W : World} {FB RB g cap LB n i : Nat} {fname : ByteArray} {pv : Value} {regs frm ent : Int} {params : List Int} {code : List Ins} {x : Ins} (h : TnS h0 w Wc FB RB g cap LB n i fname pv regs frm ent params code W) (hx : code[i]? = some x) : InsW (fun k => (k < h0 ∨ Wc.heap.size ≤ k) ∧ k ≠ g) W g 0 i x := by
 have := h.row i x hx;rw [if_neg (by omega)] at this;exact this
theorem TnS.stay {h0 : Nat} {w Wc : World} {FB RB g cap LB n i : Nat} {fname : ByteArray} {pv : Value} {regs frm ent : Int} {params : List Int} {code : List Ins} {W : World} {x : Ins} (h : TnS h0 w Wc FB RB g cap LB n i fname pv regs frm ent params code W) (hg : w.heap.size ≤ g ∧ FB ≠ g ∧ RB ≠ g ∧ LB ≠ g) (hx : code[i]? = some x) (h12 : x.op = 12) : TnS h0 w Wc FB RB g cap LB n (i + 1) fname pv regs frm ent params code W := by
 refine h.put hg h.bel (fun _ _ => rfl) rfl (fun m y hy => ?_)
 by_cases e : m = i
 ·subst e
  cases hx.symm.trans hy
  rw [if_pos (by omega)];have := tn_rest h hx
  have e2 : tnI code x = x := by
   unfold tnI;rw [if_pos h12, if_neg (by omega)]
  rw [e2];exact this
 ·have := h.row m y hy
  by_cases q : m < i
  ·rw [if_pos q] at this; rw [if_pos (by omega)]; exact this
  ·rw [if_neg q] at this; rw [if_neg (by omega)]; exact this
theorem TnS.one {h0 : Nat} {w Wc : World} {FB RB g cap LB n i : Nat} {fname : ByteArray} {pv : Value} {regs frm ent : Int} {params : List Int} {code : List Ins} {W : World} {x : Ins} (h : TnS h0 w Wc FB RB g cap LB n i fname pv regs frm ent params code W) (hg : w.heap.size ≤ g ∧ FB ≠ g ∧ RB ≠ g ∧ LB ≠ g) (hx : code[i]? = some x) (h12 : x.op ≠ 12) (h11 : x.op ≠ 11) : TnS h0 w Wc FB RB g cap LB n (i + 1) fname pv regs frm ent params code (W.setCell ⟨g, 0 + i * 9 + 7, none⟩ (.int .i64 (goalF code x.s.toNat : Int))) := by
 refine h.put hg (h.bel.setCell hg.1 _) (fun k hk => xheap_set_other hk) (xsize_set _ _ _) (fun m y hy => ?_)
 by_cases e : m = i
 ·subst e
  cases hx.symm.trans hy
  rw [if_pos (by omega)];have := (tn_rest h hx).set7 (fun q => q.2 rfl) (goalF code x.s.toNat : Int)
  have e2 : tnI code x = { x with s := (goalF code x.s.toNat : Int) } := by
   unfold tnI;rw [if_neg h12, if_neg h11]
  rw [e2];exact this
 ·have := (h.row m y hy).oth7 (fun q => q.2 rfl) (goalF code x.s.toNat : Int) e
  by_cases q : m < i
  ·rw [if_pos q] at this; rw [if_pos (by omega)]; exact this
  ·rw [if_neg q] at this; rw [if_neg (by omega)]; exact this
theorem TnS.two {h0 : Nat} {w Wc : World} {FB RB g cap LB n i : Nat} {fname : ByteArray} {pv : Value} {regs frm ent : Int} {params : List Int} {code : List Ins} {W : World} {x : Ins} (h : TnS h0 w Wc FB RB g cap LB n i fname pv regs frm ent params code W) (hg : w.heap.size ≤ g ∧ FB ≠ g ∧ RB ≠ g ∧ LB ≠ g) (hx : code[i]? = some x) (h11 : x.op = 11) : TnS h0 w Wc FB RB g cap LB n (i + 1) fname pv regs frm ent params code ((W.setCell ⟨g, 0 + i * 9 + 7, none⟩ (.int .i64 (goalF code x.s.toNat : Int))).setCell ⟨g, 0 + i * 9 + 8, none⟩ (.int .i64 (goalF code x.t.toNat : Int))) := by
 refine h.put hg ((h.bel.setCell hg.1 _).setCell hg.1 _) (fun k hk => (xheap_set_other hk).trans (xheap_set_other hk)) ((xsize_set _ _ _).trans (xsize_set _ _ _)) (fun m y hy => ?_)
 by_cases e : m = i
 ·subst e
  cases hx.symm.trans hy
  rw [if_pos (by omega)];have := ((tn_rest h hx).set7 (fun q => q.2 rfl) (goalF code x.s.toNat : Int)).set8 (fun q => q.2 rfl) (goalF code x.t.toNat : Int)
  have e2 : tnI code x = { x with s := (goalF code x.s.toNat : Int), t := (goalF code x.t.toNat : Int) } := by
   unfold tnI;rw [if_neg (by omega), if_pos h11]
  rw [e2];exact this
 ·have := ((h.row m y hy).oth7 (fun q => q.2 rfl) (goalF code x.s.toNat : Int) e).oth8 (fun q => q.2 rfl) (goalF code x.t.toNat : Int) e
  by_cases q : m < i
  ·rw [if_pos q] at this; rw [if_pos (by omega)]; exact this
  ·rw [if_neg q] at this; rw [if_neg (by omega)]; exact this
def FnVq (Q : Nat → Prop) (W : World) (v : Value) (f : Fn) : Prop := ∃ pv cv, v = .agg #[.string f.name, pv, .int .i64 f.regs, .int .i64 f.frame, .int .i64 f.entry, cv] ∧ ILq Q W pv f.params ∧ CodeQ Q W cv f.code ∧ f.name.size ≤ 140737488355328
theorem FnVq.at {Q : Nat → Prop} {W : World} {v : Value} {f : Fn} (h : FnVq Q W v f) : FnV W v f := by
 obtain ⟨pv, cv, e, h1, h2, h3⟩ := h;exact ⟨pv, cv, e, h1.1, h2.at, h3⟩
theorem FnVq.keep {Q : Nat → Prop} {W W' : World} {v : Value} {f : Fn} (h : FnVq Q W v f) (hk : Kc Q W W') : FnVq Q W' v f := by
 obtain ⟨pv, cv, e, h1, h2, h3⟩ := h;exact ⟨pv, cv, e, h1.keep hk, h2.keep hk, h3⟩
theorem InsW.q {P : Nat → Prop} {W : World} {CB n : Nat} {x : Ins} (h : InsW P W CB 0 n x) : InsQ P W CB (0 + n * 9) x := by
 obtain ⟨v, h1, h2, e0, e1, e2, e3, e4, e5, e6, e7, e8, _⟩ := h;exact ⟨v, ⟨h1, h2⟩, e0, e1, e2, e3, e4, e5, e6, e7, e8⟩
def retTn (h0 : Nat) (f : Fn) (w : World) : Ending → World → Prop := fun e W => ∃ v, e = .returned v ∧ FnVq (fun k => k < h0 ∨ w.heap.size ≤ k) W v (tnF f) ∧ Below w.heap.size w W
theorem TnS.done {h0 : Nat} {w Wc : World} {FB RB g cap LB n : Nat} {fname : ByteArray} {pa : Option Addr} {pn pc : Nat} {regs frm ent : Int} {params : List Int} {code : List Ins} {W W' : World} (h : TnS h0 w Wc FB RB g cap LB n n fname (.slice pa pn pc) regs frm (goalF code ent.toNat : Int) params code W) (hn : code.length = n) (h88 : n * 88 ≤ 140737488355328) (hnm : fname.size ≤ 140737488355328) (hw : w.heap.size ≤ Wc.heap.size) (hrb : w.heap.size ≤ RB ∧ RB < Wc.heap.size ∧ RB ≠ g) (hh : h0 ≤ w.heap.size) (hgw : w.heap.size ≤ g) (hk : ∀ k, k ≠ RB → W'.heap[k]? = W.heap[k]?) : FnVq (fun k => k < h0 ∨ w.heap.size ≤ k) W' (.agg #[.string fname, .slice pa pn pc, .int .i64 regs, .int .i64 frm, .int .i64 (goalF code ent.toNat : Int), .slice (some ⟨g, 0, none⟩) n cap]) (tnF ⟨fname, params, regs, frm, ent, code⟩) := by
 refine ⟨_, _, rfl, ⟨h.par.1.of4 (fun hl b o s k c e => hk b (by have := (h.par.2 hl b o s k c e).1; omega)), fun hl b o s k c e => .inr (by have := (h.par.2 hl b o s k c e).1; omega)⟩, ⟨some ⟨g, 0, none⟩, cap, ?_, ?_, (fun e => by cases e), fun _ => ⟨g, 0, rfl, .inr hgw, fun i y hy => ?_⟩⟩, hnm⟩
 ·show _ = Value.slice _ (code.map (tnI code)).length _
  rw [List.length_map, hn]
 ·show (code.map (tnI code)).length * 88 ≤ _
  rw [List.length_map, hn];exact h88
 ·have hy2 : (code.map (tnI code))[i]? = some y := hy
  rw [List.getElem?_map, Option.map_eq_some_iff] at hy2;obtain ⟨x, hx, rfl⟩ := hy2;have hi : i < n := by rw [← hn]; exact (List.getElem?_eq_some_iff.1 hx).1
  have := h.row i x hx;rw [if_pos hi] at this;exact ((this.of (fun k q => hk k (by omega)) (hk g (Ne.symm hrb.2.2))).q).mono (fun k q => by omega)
theorem tunnelled_walk (w0 w : World) (fname : ByteArray) (pa : Option Addr) (pn pc : Nat) (regs frm ent : Int) (cb co n cap : Nat) (params : List Int) (code : List Ins) (hn : n ≤ 100000) (hn0 : 0 < n) (h88 : n * 88 ≤ 140737488355328) (hnm : fname.size ≤ 140737488355328) (HW0 : Hid (Below w0.heap.size w0 w)) (HV : Hid (FnV w0 (.agg #[.string fname, .slice pa pn pc, .int .i64 regs, .int .i64 frm, .int .i64 ent, .slice (some ⟨cb, co, none⟩) n cap]) ⟨fname, params, regs, frm, ent, code⟩)) (HN : Hid (code.length = n)) (HIN : Hid (∀ (i : Nat) x, code[i]? = some x → InsAt w cb (co + i * 9) x)) (HSX : Hid (∀ x ∈ code, (x.op ≠ 12 → 0 ≤ x.s ∧ x.s < n) ∧ (x.op = 11 → 0 ≤ x.t ∧ x.t < n))) (HE : Hid (0 ≤ ent ∧ ent < n)) :
  Calls prog 17 #[.agg #[.string fname, .slice pa pn pc, .int .i64 regs, .int .i64 frm, .int .i64 ent, .slice (some ⟨cb, co, none⟩) n cap]] w (retTn w0.heap.size ⟨fname, params, regs, frm, ent, code⟩ w) := by
 obtain ⟨en, rfl⟩ : ∃ en : Nat, ent = en := ⟨ent.toNat, by have := HE.out.1; omega⟩;have j2 : (0 : Int) ≤ en := by omega
 have j3 : (en : Int) < n := HE.out.2
 go_enter func17, ntmps17
 go_upto_region 1 with fail
 refine gwp_namedF (fun W => Below w.heap.size w W ∧ W.heap.size = w.heap.size + 2 ∧ W.heap[w.heap.size]? = some (.cells #[.string fname, .slice pa pn pc, .int .i64 regs, .int .i64 frm, .int .i64 (en : Int), .slice (some ⟨cb, co, none⟩) n cap] 25 (0, 0)) ∧ W.heap[w.heap.size + 1]? = some (.cells #[.string ⟨#[]⟩, .slice none 0 0, .int .i64 0, .int .i64 0, .int .i64 0, .slice none 0 0] 25 (0, 0))) ⟨bel_alloc (bel_alloc (Below.refl _ _) _) _, by simp, xkeep_heap (bel_alloc (Below.refl _ _) _) (xheap_new w _), by have := xheap_new (w.alloc (.cells #[.string fname, .slice pa pn pc, .int .i64 regs, .int .i64 frm, .int .i64 (en : Int), .slice (some ⟨cb, co, none⟩) n cap] 25 (0, 0))) (.cells #[.string ⟨#[]⟩, .slice none 0 0, .int .i64 0, .int .i64 0, .int .i64 0, .slice none 0 0] 25 (0, 0)); rw [World.size_alloc] at this; exact this⟩ ?_;rintro W1 ⟨hb1, hs1, hFB, hRB⟩;have HB1 := hidF hb1;have HS1 := hidF hs1;have HFB := hidF hFB;have HRB := hidF hRB;have f5 := xheap_cell (o := 5) hFB rfl;have HSN : Hid (∀ x ∈ code, x.op = 1 → 0 ≤ x.s ∧ x.s < n) := fun x hx h1 => (HSX.out x hx).1 (by omega);clear hb1 hs1 hFB hRB
 go_upto_region 2 with (go_at_call 31; refine (ends_walk W1 n cap cb co code hn hn0 HN (hidF (fun i x hx => (HIN.out i x hx).keep HB1.out)) HSN).mono ?_; rintro e W2 ⟨LB, rfl, hen, hb2, hlb⟩)
 have HB2 := hidF (bel_trans HB1.out hb2);have HLB : Hid (w.heap.size + 2 ≤ LB) := by show _ ≤ _; have := HS1.out; omega
 have HEN := hidF hen;have HFB2 := hidF (xkeep_heap hb2 HFB.out);have HRB2 := hidF (xkeep_heap hb2 HRB.out);have hFB := HFB2.out;have f0 := xheap_cell (o := 0) hFB rfl;have f1 := xheap_cell (o := 1) hFB rfl;have f2 := xheap_cell (o := 2) hFB rfl;have f3 := xheap_cell (o := 3) hFB rfl;have f4 := xheap_cell (o := 4) hFB rfl;replace f5 := xheap_cell (o := 5) hFB rfl;have u0 := xheap_frozen (o := 0) hFB;have u1 := xheap_frozen (o := 1) hFB;have u2 := xheap_frozen (o := 2) hFB;have u3 := xheap_frozen (o := 3) hFB;have u4 := xheap_frozen (o := 4) hFB;have u5 := xheap_frozen (o := 5) hFB;have hs2 : w.heap.size + 2 ≤ W2.heap.size := by have := hb2.size; have := HS1.out; omega
 have HS2 := hidF hs2;have HCV : Hid (Calls prog 32 #[.agg #[.string fname, .slice pa pn pc, .int .i64 regs, .int .i64 frm, .int .i64 (en : Int), .slice (some ⟨cb, co, none⟩) n cap]] W2 (retCl w0.heap.size W2 ⟨fname, params, regs, frm, (en : Int), code⟩)) := clone_any HV.out (bel_trans HW0.out HB2.out) (by show 0 < code.length; rw [HN.out]; exact hn0);clear hen hb2 hlb hFB hs2 HFB HRB;have k0 : w.heap.size < W2.heap.size := by have := HS2.out; omega
 go_upto_region 3 with (go_at_call 32; refine HCV.out.mono ?_; rintro e W3 ⟨g, cg, qa, qn, qc, rfl, hcl⟩; have hFB3 := xkeep_heap hcl.bel HFB2.out; replace u0 := xheap_frozen (o := 0) hFB3; replace u1 := xheap_frozen (o := 1) hFB3; replace u2 := xheap_frozen (o := 2) hFB3; replace u3 := xheap_frozen (o := 3) hFB3; replace u4 := xheap_frozen (o := 4) hFB3; replace u5 := xheap_frozen (o := 5) hFB3; replace f0 := xheap_cell (o := 0) hFB3 rfl; replace f1 := xheap_cell (o := 1) hFB3 rfl; replace f2 := xheap_cell (o := 2) hFB3 rfl; replace f3 := xheap_cell (o := 3) hFB3 rfl; replace f4 := xheap_cell (o := 4) hFB3 rfl; replace f5 := xheap_cell (o := 5) hFB3 rfl; have HCL := hidF hcl; have HFB3 := hidF hFB3; clear hcl hFB3; dsimp only)
 have HL0 : Hid (TnS w0.heap.size w W2 w.heap.size (w.heap.size + 1) g cg LB n 0 fname (.slice qa qn qc) regs frm en params code (((((((W3.setCell ⟨w.heap.size, 0, none⟩ (.string fname)).setCell ⟨w.heap.size, 1, none⟩ (.slice qa qn qc)).setCell ⟨w.heap.size, 2, none⟩ (.int .i64 regs)).setCell ⟨w.heap.size, 3, none⟩ (.int .i64 frm)).setCell ⟨w.heap.size, 4, none⟩ (.int .i64 (en : Int))).setCell ⟨w.heap.size, 5, none⟩ (.slice (some ⟨g, 0, none⟩) code.length cg)))) := by
  have h := HCL.out;have hs := HS2.out;have hge := h.ge;have hw0 := HW0.out.size;have hbx := six_same HFB3.out (.string fname) (.slice qa qn qc) (.int .i64 regs) (.int .i64 frm) (.int .i64 (en : Int)) (.slice (some ⟨g, 0, none⟩) code.length cg);have hk : ∀ k, k ≠ w.heap.size → (((((((W3.setCell ⟨w.heap.size, 0, none⟩ (.string fname)).setCell ⟨w.heap.size, 1, none⟩ (.slice qa qn qc)).setCell ⟨w.heap.size, 2, none⟩ (.int .i64 regs)).setCell ⟨w.heap.size, 3, none⟩ (.int .i64 frm)).setCell ⟨w.heap.size, 4, none⟩ (.int .i64 (en : Int))).setCell ⟨w.heap.size, 5, none⟩ (.slice (some ⟨g, 0, none⟩) code.length cg))).heap[k]? = W3.heap[k]? := fun k q => six_other _ _ _ _ _ _ q;rw [HN.out] at hbx;refine ⟨six_below _ _ _ _ _ _ (bel_trans HB2.out h.bel) (Nat.le_refl _), by rw [HN.out]; exact hbx, (hk _ (by omega)).trans (xkeep_heap h.bel HRB2.out), ⟨h.par.1.of4 (fun hl b o s k c e => hk b (by have := (h.par.2 hl b o s k c e).1; omega)), fun hl b o s k c e => ⟨(h.par.2 hl b o s k c e).1, (h.par.2 hl b o s k c e).2.2⟩⟩, fun m x hx => ?_, fun j hj => cell_of (keep_cell h.bel (HEN.out j hj)) (fun _ => hk _ (by have := HLB.out; omega)), by rw [six_size]; exact h.lt⟩;rw [if_neg (by omega)];have hr := (h.row m x hx).of (w' := (((((((W3.setCell ⟨w.heap.size, 0, none⟩ (.string fname)).setCell ⟨w.heap.size, 1, none⟩ (.slice qa qn qc)).setCell ⟨w.heap.size, 2, none⟩ (.int .i64 regs)).setCell ⟨w.heap.size, 3, none⟩ (.int .i64 frm)).setCell ⟨w.heap.size, 4, none⟩ (.int .i64 (en : Int))).setCell ⟨w.heap.size, 5, none⟩ (.slice (some ⟨g, 0, none⟩) code.length cg)))) (fun k q => hk k (by omega)) (hk g (by omega));obtain ⟨v, r1, r2, r3⟩ := hr;exact ⟨v, r1, fun hl b o s k c e => ⟨(r2 hl b o s k c e).1, (r2 hl b o s k c e).2.2⟩, r3⟩
 have HG : Hid (w.heap.size ≤ g ∧ w.heap.size ≠ g ∧ w.heap.size + 1 ≠ g ∧ LB ≠ g ∧ W2.heap.size ≤ g) := by
  have h := HCL.out;have hs := HS2.out;have hge := h.ge;have hlt : LB < W2.heap.size := block_lt_of_cell (HEN.out 0 hn0);exact ⟨by omega, by omega, by omega, by omega, hge⟩
 generalize ((((((W3.setCell ⟨w.heap.size, 0, none⟩ (.string fname)).setCell ⟨w.heap.size, 1, none⟩ (.slice qa qn qc)).setCell ⟨w.heap.size, 2, none⟩ (.int .i64 regs)).setCell ⟨w.heap.size, 3, none⟩ (.int .i64 frm)).setCell ⟨w.heap.size, 4, none⟩ (.int .i64 (en : Int))).setCell ⟨w.heap.size, 5, none⟩ (.slice (some ⟨g, 0, none⟩) code.length cg)) = W4 at *
 clear f0 f1 f2 f3 f4 f5 u0 u1 u2 u3 u4 u5 HFB3 HCL;have f4 := xheap_cell (o := 4) HL0.out.box rfl;have u4 := xheap_frozen (o := 4) HL0.out.box;have een := HL0.out.en en (by omega)
 go_upto_region 4 with fail
 have HL1 : Hid (TnS w0.heap.size w W2 w.heap.size (w.heap.size + 1) g cg LB n 0 fname (.slice qa qn qc) regs frm (goalF code en : Int) params code (W4.setCell ⟨w.heap.size, 4, none⟩ (.int .i64 (goalF code en : Int)))) := by
  have h := HL0.out;have hg := HG.out;have hs := HS2.out;have hw0 := HW0.out.size;have hk : ∀ k, k ≠ w.heap.size → (W4.setCell ⟨w.heap.size, 4, none⟩ (.int .i64 (goalF code en : Int))).heap[k]? = W4.heap[k]? := fun k q => xheap_set_other q;exact ⟨h.bel.setCell (Nat.le_refl _) _, xheap_set_same h.box _, (hk _ (by omega)).trans h.rbx, ⟨h.par.1.of4 (fun hl b o s k c e => hk b (by have := (h.par.2 hl b o s k c e).1; omega)), h.par.2⟩, fun m x hx => (h.row m x hx).of (fun k q => hk k (by omega)) (hk g (by omega)), fun j hj => cell_of (h.en j hj) (fun _ => hk _ (by have := HLB.out; omega)), by rw [xsize_set]; exact h.lt⟩
 generalize W4.setCell ⟨w.heap.size, 4, none⟩ (.int .i64 (goalF code en : Int)) = W5 at *
 clear f4 u4 een HL0;have f5 := xheap_cell (o := 5) HL1.out.box rfl;go_wp2
 go_loopw [20] (fun vv wz => ∃ i : Nat, i ≤ n ∧ vv = .int .i64 i ∧ Hid (TnS w0.heap.size w W2 w.heap.size (w.heap.size + 1) g cg LB n i fname (.slice qa qn qc) regs frm (goalF code en : Int) params code wz)) (fun vv _ => n - (intOf vv).toNat)
 case atStart => exact ⟨0, by omega, rfl, HL1⟩
 case round =>
  clear HL1 f5;obtain ⟨i, hi, rfl, HL⟩ := hrel
  rename World => wz
  have f5 := xheap_cell (o := 5) HL.out.box rfl
  by_cases hin : i < n
  ·have j0 : (0 : Int) ≤ i := by omega
   have j1 : (i : Int) < n := by omega
   have hget := List.getElem?_eq_getElem (l := code) (show i < code.length by rw [HN.out]; exact hin)
   generalize code[i]'(by rw [HN.out]; exact hin) = x at hget
   have hsx := HSX.out x (List.mem_of_getElem? hget);have hg := HG.out;have hr := tn_rest HL.out hget;obtain ⟨v, _, _, e0, e1, e2, e3, e4, e5, e6, e7, e8, z0, z1, z2, z3, z4, z5, z6, z7, z8⟩ := hr;clear e1 e2 e3 e4 e5 e6 z0 z1 z2 z3 z4 z5 z6;rw [Nat.zero_add] at e0 e7 e8 z7 z8
   by_cases h12 : x.op = 12
   ·have q1 : (x.op != 12) = false := by rw [h12]; rfl
    have q2 : (x.op == 11) = false := by rw [h12]; rfl
    have HF := hidF (HL.out.stay ⟨hg.1, hg.2.1, hg.2.2.1, hg.2.2.2.1⟩ hget h12);clear h12 hget hsx hg HL e7 e8 z7 z8;go_wp2
    go_roundw
    case rel => exact ⟨i + 1, by omega, by simp, HF⟩
    case measure => simp [intOf]; omega
   ·have q1 : (x.op != 12) = true := by simpa using h12
    obtain ⟨sn, hsn⟩ : ∃ sn : Nat, x.s = sn := ⟨x.s.toNat, by have := hsx.1 h12; omega⟩;have hs1 := hsx.1 h12;rw [hsn] at hs1 e7;have hes := HL.out.en sn (by omega);have k1 : (0 : Int) ≤ sn := by omega
    have k2 : (sn : Int) < n := by omega
    by_cases h11 : x.op = 11
    ·have q2 : (x.op == 11) = true := by rw [h11]; rfl
     obtain ⟨tn, htn⟩ : ∃ tn : Nat, x.t = tn := ⟨x.t.toNat, by have := hsx.2 h11; omega⟩;have ht1 := hsx.2 h11;rw [htn] at ht1 e8;have het := HL.out.en tn (by omega);have k3 : (0 : Int) ≤ tn := by omega
     have k4 : (tn : Int) < n := by omega
     have HF := hidF (HL.out.two ⟨hg.1, hg.2.1, hg.2.2.1, hg.2.2.2.1⟩ hget h11);rw [hsn, htn, Int.toNat_natCast, Int.toNat_natCast, Nat.zero_add] at HF;have n1 : LB ≠ g := hg.2.2.2.1;clear h11 h12 hget hsx hg HL hsn htn hs1 ht1;go_wp2
     go_roundw
     case rel => exact ⟨i + 1, by omega, by simp, HF⟩
     case measure => simp [intOf]; omega
    ·have q2 : (x.op == 11) = false := by simpa using h11
     have HF := hidF (HL.out.one ⟨hg.1, hg.2.1, hg.2.2.1, hg.2.2.2.1⟩ hget h12 h11);rw [hsn, Int.toNat_natCast, Nat.zero_add] at HF;have n1 : LB ≠ g := hg.2.2.2.1;clear h11 h12 hget hsx hg HL hsn hs1 e8 z8;go_wp2
     go_roundw
     case rel => exact ⟨i + 1, by omega, by simp, HF⟩
     case measure => simp [intOf]; omega
  ·obtain rfl : n = i := by omega
   have hbx := HL.out.box;have hrx := HL.out.rbx;have b0 := xheap_cell (o := 0) hbx rfl;have b1 := xheap_cell (o := 1) hbx rfl;have b2 := xheap_cell (o := 2) hbx rfl;have b3 := xheap_cell (o := 3) hbx rfl;have b4 := xheap_cell (o := 4) hbx rfl;have b5 := xheap_cell (o := 5) hbx rfl;have r0 := xheap_cell (o := 0) hrx rfl;have r1 := xheap_cell (o := 1) hrx rfl;have r2 := xheap_cell (o := 2) hrx rfl;have r3 := xheap_cell (o := 3) hrx rfl;have r4 := xheap_cell (o := 4) hrx rfl;have r5 := xheap_cell (o := 5) hrx rfl;have u0 := xheap_frozen (o := 0) hrx;have u1 := xheap_frozen (o := 1) hrx;have u2 := xheap_frozen (o := 2) hrx;have u3 := xheap_frozen (o := 3) hrx;have u4 := xheap_frozen (o := 4) hrx;have u5 := xheap_frozen (o := 5) hrx;have hrl : w.heap.size + 1 < wz.heap.size := xheap_lt hrx;clear hbx hrx f5;go_wp2;have hF := six_same HL.out.rbx (.string fname) (.slice qa qn qc) (.int .i64 regs) (.int .i64 frm) (.int .i64 (goalF code en : Int)) (.slice (some ⟨g, 0, none⟩) n cg);have hg := HG.out;have hD := HL.out.done (ent := (en : Int)) (W' := ((((((wz.setCell ⟨(w.heap.size + 1), 0, none⟩ (.string fname)).setCell ⟨(w.heap.size + 1), 1, none⟩ (.slice qa qn qc)).setCell ⟨(w.heap.size + 1), 2, none⟩ (.int .i64 regs)).setCell ⟨(w.heap.size + 1), 3, none⟩ (.int .i64 frm)).setCell ⟨(w.heap.size + 1), 4, none⟩ (.int .i64 (goalF code en : Int))).setCell ⟨(w.heap.size + 1), 5, none⟩ (.slice (some ⟨g, 0, none⟩) n cg))) HN.out h88 hnm (by have := HS2.out; omega) ⟨by omega, by have := HS2.out; omega, hg.2.2.1⟩ HW0.out.size hg.1 (fun k q => six_other _ _ _ _ _ _ q);have hB := six_below (.string fname) (.slice qa qn qc) (.int .i64 regs) (.int .i64 frm) (.int .i64 (goalF code en : Int)) (.slice (some ⟨g, 0, none⟩) n cg) HL.out.bel (show w.heap.size ≤ w.heap.size + 1 by omega)
   generalize ((((((wz.setCell ⟨(w.heap.size + 1), 0, none⟩ (.string fname)).setCell ⟨(w.heap.size + 1), 1, none⟩ (.slice qa qn qc)).setCell ⟨(w.heap.size + 1), 2, none⟩ (.int .i64 regs)).setCell ⟨(w.heap.size + 1), 3, none⟩ (.int .i64 frm)).setCell ⟨(w.heap.size + 1), 4, none⟩ (.int .i64 (goalF code en : Int))).setCell ⟨(w.heap.size + 1), 5, none⟩ (.slice (some ⟨g, 0, none⟩) n cg)) = W9 at *
   have e0 := xheap_cell (o := 0) hF rfl;have e1 := xheap_cell (o := 1) hF rfl;have e2 := xheap_cell (o := 2) hF rfl;have e3 := xheap_cell (o := 3) hF rfl;have e4 := xheap_cell (o := 4) hF rfl;have e5 := xheap_cell (o := 5) hF rfl;clear hF HL b0 b1 b2 b3 b4 b5 r0 r1 r2 r3 r4 r5 u0 u1 u2 u3 u4 u5;exact bodyPost_ret (v := .agg #[.string fname, .slice qa qn qc, .int .i64 regs, .int .i64 frm, .int .i64 (goalF code en : Int), .slice (some ⟨g, 0, none⟩) n cg]) (by simp [results, results17, go_sem, e0, e1, e2, e3, e4, e5]) rfl ⟨_, rfl, hD, hB⟩
end Go.Proofs.YtncondlfngeilaaGreatDoor
