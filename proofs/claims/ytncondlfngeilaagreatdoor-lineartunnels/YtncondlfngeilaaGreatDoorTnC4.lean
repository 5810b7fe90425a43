
import Derived.Test.YtncondlfngeilaaGreatDoorRCp3
import Derived.Test.YtncondlfngeilaaGreatDoorTnCp
namespace Go.Proofs.YtncondlfngeilaaGreatDoor
open Go.ChangeShapes Go.WideShapes Go.ChangeAt Go.RowKit Go.Proofs.Tryz
set_option linter.unusedSimpArgs false
set_option linter.unusedVariables false
set_option maxRecDepth 100000
set_option maxHeartbeats 20000000

theorem CpIn.of {w1 W : World} {h0 QB : Nat} {gv : Value} {main : Int} {globals : List Int} (h : CpR w1 W QB gv main globals) (hle : h0 ≤ w1.heap.size) : CpIn h0 w1 W QB gv (.slice none 0 0) main globals [] :=
 ⟨⟨h.bel, h.box, World.ownsRow_nil _ _ _ _, by simp [Value.ownBlock], h.ge, hle, h.gl.mono (fun k hk => ⟨hk.1.2, hk.2, by simp [Value.ownBlock], .inr hk.1.1⟩), fun r hr => by cases hr⟩, fun r hr => by cases hr⟩
theorem clen_parts {w : World} {v : Value} {l : List Int} (h : IL w v l) : ∃ (a : Option Addr) (cap : Nat), v = .slice a l.length cap ∧ l.length * 8 ≤ 140737488355328 := by
 obtain ⟨a, cap, hv, h1, _⟩ := h;exact ⟨a, cap, hv, h1⟩
def retPgG (p : Pg) (w : World) : Ending → World → Prop := fun e W => ∀ f, p.funcs = [f] → retPg1 f w e W
theorem copy_walk (ga fa : Option Addr) (ng gc nf fc fb fo : Nat) (main : Int) (globals : List Int) (funcs : List Fn) (w : World) (HNG : Hid (ng = globals.length)) (HGL : Hid (IL w (.slice ga ng gc) globals))
  (hnf : nf * 88 ≤ 140737488355328) (HNF : Hid (nf = funcs.length)) (HFA : Hid (0 < nf → fa = some ⟨fb, fo, none⟩)) (HFC : Hid (∀ (i : Nat) x, funcs[i]? = some x → FnAt w fb (fo + i * 6) x)) :
  Calls prog 5 #[.agg #[.slice ga ng gc, .slice fa nf fc, .int .i64 main]] w (retPgG ⟨globals, funcs, main⟩ w) := by
 obtain ⟨i1, hi, hz0, hz1, hz2⟩ : ∃ i0, prog.info? 3 = some i0 ∧ i0.zero = some (.int .i64 0) ∧ i0.size = 1 ∧ i0.bytes = 8 := info_parts (by kernel_rfl);have HI1 : Hid (prog.info? 3 = some i1 ∧ i1.zero = some (.int .i64 0) ∧ i1.size = 1 ∧ i1.bytes = 8) := ⟨hi, hz0, hz1, hz2⟩;clear hi hz0 hz1 hz2;obtain ⟨i2, hi, hz0, hz1, hz2⟩ : ∃ i0, prog.info? 38 = some i0 ∧ i0.zero = some (.agg #[.int .i64 0, .int .i64 0, .int .i64 0, .int .i64 0, .int .i64 0, .int .i64 0, .slice none 0 0, .int .i64 0, .int .i64 0]) ∧ i0.size = 9 ∧ i0.bytes = 88 := info_parts (by kernel_rfl);have HI2 : Hid (prog.info? 38 = some i2 ∧ i2.zero = some (.agg #[.int .i64 0, .int .i64 0, .int .i64 0, .int .i64 0, .int .i64 0, .int .i64 0, .slice none 0 0, .int .i64 0, .int .i64 0]) ∧ i2.size = 9 ∧ i2.bytes = 88) := ⟨hi, hz0, hz1, hz2⟩;clear hi hz0 hz1 hz2;obtain ⟨i3, hi, hz0, hz1, hz2⟩ : ∃ i0, prog.info? 25 = some i0 ∧ i0.zero = some (.agg #[.string ⟨#[]⟩, .slice none 0 0, .int .i64 0, .int .i64 0, .int .i64 0, .slice none 0 0]) ∧ i0.size = 6 ∧ i0.bytes = 88 := info_parts (by kernel_rfl);have HI3 : Hid (prog.info? 25 = some i3 ∧ i3.zero = some (.agg #[.string ⟨#[]⟩, .slice none 0 0, .int .i64 0, .int .i64 0, .int .i64 0, .slice none 0 0]) ∧ i3.size = 6 ∧ i3.bytes = 88) := ⟨hi, hz0, hz1, hz2⟩;clear hi hz0 hz1 hz2;have HW0 : Hid (Below w.heap.size w ((w.alloc (.cells #[.slice ga ng gc, .slice fa nf fc, .int .i64 main] 29)).alloc (.cells #[.slice none 0 0, .slice none 0 0, .int .i64 0] 29))) := bel_alloc (bel_alloc (Below.refl _ _) _) _
 go_enter func5, ntmps5
 go_upto_region 1 with fail
 refine cp_r1 w.heap.size ng gc ga main globals _ _ _ _ _ _ _ _ _ _ _ _ _ _ _ _ _ _ _ _ _ _ _ _ _ _ _ _ _ _ _ _ _ _ _ _ _ _ _ _ _ _ _ _ _ _ _ _ _ _ _ _ _ _ _ _ _ _ _ _ _ _ _ _ ((w.alloc (.cells #[.slice ga ng gc, .slice fa nf fc, .int .i64 main] 29)).alloc (.cells #[.slice none 0 0, .slice none 0 0, .int .i64 0] 29)) (fun _ _ d _ _ h => by cases d <;> exact h) (by simp) (by simp) HNG (HGL.out.keep HW0.out) (fun _ _ _ _ _ _ _ QB a2 c2 W hR => ?_);obtain ⟨w1, hw1⟩ : ∃ w1, w1 = ((w.alloc (.cells #[.slice ga ng gc, .slice fa nf fc, .int .i64 main] 29)).alloc (.cells #[.slice none 0 0, .slice none 0 0, .int .i64 0] 29)) := ⟨_, rfl⟩;rw [← hw1] at hR;have p1 : w1.cell? ⟨w.heap.size, 1, none⟩ = some (.slice fa nf fc) := by rw [hw1]; simp
 have r0 : w1.cell? ⟨w.heap.size + 1, 0, none⟩ = some (.slice none 0 0) := by rw [hw1]; simp
 have r1 : w1.cell? ⟨w.heap.size + 1, 1, none⟩ = some (.slice none 0 0) := by rw [hw1]; simp
 have r2 : w1.cell? ⟨w.heap.size + 1, 2, none⟩ = some (.int .i64 0) := by rw [hw1]; simp
 have RR : Hid (w1.heap[w.heap.size + 1]? = some (.cells #[.slice none 0 0, .slice none 0 0, .int .i64 0] 29 (0, 0))) := by
  show w1.heap[w.heap.size + 1]? = _
  rw [hw1];have h := xheap_new (w.alloc (.cells #[.slice ga ng gc, .slice fa nf fc, .int .i64 main] 29)) (.cells #[.slice none 0 0, .slice none 0 0, .int .i64 0] 29);rw [World.size_alloc] at h;exact h
 have HP1 : Hid (w1.cell? ⟨w.heap.size, 1, none⟩ = some (.slice fa nf fc)) := p1;rw [← hw1] at HW0;have HI0 : Hid (CpIn w.heap.size w1 W QB (.slice a2 ng c2) (.slice none 0 0) main globals []) := CpIn.of hR HW0.out.size;clear hw1 hR p1 r0 r1 r2;have p1 := keep_cell HI0.out.bel HP1.out;go_wp2_with fail
 go_loopw [4] (fun v4 wr => ∃ i : Nat, i ≤ nf ∧ v4 = .int .i64 i ∧ Hid (∃ va vc rows, CpIn w.heap.size w1 wr QB (.slice a2 ng c2) (.slice va i vc) main globals rows ∧ rows.map (·.1) = funcs.take i ∧ rows.length = i)) (fun v4 _ => nf - (intOf v4).toNat)
 case atStart => exact ⟨0, by omega, rfl, none, 0, [], HI0.out, rfl, rfl⟩
 case round =>
  clear p1 HI0;obtain ⟨i, hi, rfl, HR⟩ := hrel;obtain ⟨va, vc, rows, hI, hm, hl⟩ := HR.out;have HI : Hid (CpIn w.heap.size w1 wr QB (.slice a2 ng c2) (.slice va i vc) main globals rows ∧ rows.map (·.1) = funcs.take i ∧ rows.length = i) := ⟨hI, hm, hl⟩;clear HR hI hm hl;have p1 := keep_cell HI.out.1.bel HP1.out
  by_cases hin : i < nf
  ·obtain rfl := HFA.out (by omega)
   have j0 : (0 : Int) ≤ i := by omega
   have j1 : (i : Int) < nf := by omega
   have hget := List.getElem?_eq_getElem (l := funcs) (show i < funcs.length by rw [← HNF.out]; exact hin)
   generalize funcs[i]'(by rw [← HNF.out]; exact hin) = f at hget
   have HGET : Hid (funcs[i]? = some f) := hget;have HBX : Hid (Below w.heap.size w wr) := bel_trans HW0.out HI.out.1.bel;obtain ⟨pv, cv, hp, hcd, hnm, d0, d1, d2, d3, d4, d5⟩ := HFC.out i f hget;have HNM : Hid (f.name.size ≤ 140737488355328) := hnm;obtain ⟨pa, pc, rfl, hp8⟩ := clen_parts hp;have hcd' := hcd;obtain ⟨ca, cc, rfl, hc88, _, _⟩ := hcd';obtain ⟨irows, hi1, hi2, hi3, hi4⟩ := hcd.srow;have HCD : Hid (irows.map (·.1) = f.code ∧ (∀ r ∈ irows, IL w r.2 r.1.args) ∧ Srow w (.slice ca f.code.length cc) f.code.length (irows.flatMap inC) ∧ ∀ u ∈ irows.flatMap inC, u.oneCell' = true) := ⟨hi1, hi2, hi3, hi4⟩;have HPR : Hid (IL w (.slice pa f.params.length pc) f.params) := hp;have e0 := keep_cell HBX.out d0;have e1 := keep_cell HBX.out d1;have e2 := keep_cell HBX.out d2;have e3 := keep_cell HBX.out d3;have e4 := keep_cell HBX.out d4;have e5 := keep_cell HBX.out d5;clear hget hp hcd hnm hi1 hi2 hi3 hi4 d0 d1 d2 d3 d4 d5;obtain ⟨pn, hpn⟩ : ∃ pn, f.params.length = pn := ⟨_, rfl⟩;obtain ⟨cn, hcn⟩ : ∃ cn, f.code.length = cn := ⟨_, rfl⟩;have HPN : Hid (f.params.length = pn) := hpn;have HCN : Hid (f.code.length = cn) := hcn;rw [hpn] at e1 hp8 HPR;rw [hcn] at e5 hc88 HCD;clear hpn hcn;obtain ⟨nm, params, regs, frame, entry, code⟩ := f;dsimp only at *;obtain ⟨wo, hwo⟩ : ∃ wo, wo = wr := ⟨_, rfl⟩;subst hwo;have HF6 : Hid ((wo.alloc (.cells #[.string nm, .slice pa pn pc, .int .i64 regs, .int .i64 frame, .int .i64 entry, .slice ca cn cc] 25)).heap[wo.heap.size]? = some (.cells #[.string nm, .slice pa pn pc, .int .i64 regs, .int .i64 frame, .int .i64 entry, .slice ca cn cc] 25 (0, 0))) := xheap_new wo _
   have HG6 : Hid (((wo.alloc (.cells #[.string nm, .slice pa pn pc, .int .i64 regs, .int .i64 frame, .int .i64 entry, .slice ca cn cc] 25)).alloc (.cells #[] 3)).heap[wo.heap.size + 1]? = some (.cells #[] 3 (0, 0))) := by
    show ((wo.alloc (.cells #[.string nm, .slice pa pn pc, .int .i64 regs, .int .i64 frame, .int .i64 entry, .slice ca cn cc] 25)).alloc (.cells #[] 3)).heap[wo.heap.size + 1]? = _
    have h := xheap_new (wo.alloc (.cells #[.string nm, .slice pa pn pc, .int .i64 regs, .int .i64 frame, .int .i64 entry, .slice ca cn cc] 25)) (.cells #[] 3);rw [World.size_alloc] at h;exact h
   have HBw6 : Hid (Below wo.heap.size wo ((wo.alloc (.cells #[.string nm, .slice pa pn pc, .int .i64 regs, .int .i64 frame, .int .i64 entry, .slice ca cn cc] 25)).alloc (.cells #[] 3))) := bel_alloc (bel_alloc (Below.refl _ _) _) _
   have HS6 : Hid (Srow ((wo.alloc (.cells #[.string nm, .slice pa pn pc, .int .i64 regs, .int .i64 frame, .int .i64 entry, .slice ca cn cc] 25)).alloc (.cells #[] 3)) (.slice pa pn pc) pn (ints params)) := by
    have h := (HPR.out.keep (bel_trans HBX.out HBw6.out)).srow;rw [HPN.out] at h;exact h
   have HL6 : Hid ((ints params).length = pn * 1) := by
    show (ints params).length = pn * 1
    rw [ints_length, HPN.out, Nat.mul_one]
   go_wp2_with (at_builtin; refine wpList_append_fresh _ (by rfl) _ _ 22 (by rfl) 3 i1 (.int .i64 0) 1 8 underlying22 HI1.out.1 HI1.out.2.1 HI1.out.2.2.1 HI1.out.2.2.2 rfl (by decide) (wo.heap.size + 1) (by rfl) HG6.out (.slice pa pn pc) pn (ints params) (by rfl) HL6.out HS6.out (ints_one _) (by unfold maxLen; omega) hp8 ?_)
   intro a6 c6 w6 hown6 hgrow6;have HO6 : Hid (w6.ownsRow (wo.heap.size + 1) 3 1 (.slice a6 pn c6) pn (ints params)) := hown6
   have HX6 : Hid (w6.heap[wo.heap.size]? = some (.cells #[.string nm, .slice pa pn pc, .int .i64 regs, .int .i64 frame, .int .i64 entry, .slice ca cn cc] 25 (0, 0))) := by
    show w6.heap[wo.heap.size]? = _
    rw [hgrow6.block _ (by simp; omega) (by simp), Below.heap_alloc _ _ _ (by simp)];exact HF6.out
   have HB6 : Hid (Below wo.heap.size wo w6) := HBw6.out.trans ((grown_below hgrow6 (by simp)).mono (by omega));have HZ6 : Hid (wo.heap.size + 2 ≤ w6.heap.size) := by have := hgrow6.size; simp at this; exact (show wo.heap.size + 2 ≤ w6.heap.size by omega)
   have x61 := xheap_cell (o := 1) HX6.out rfl;have x65 := xheap_cell (o := 5) HX6.out rfl;have z61 := xheap_frozen (o := 1) HX6.out;have hlt6 : wo.heap.size < w6.heap.size := by have := HZ6.out; omega
   clear hown6 hgrow6 HF6 HG6 HS6 HL6 HBw6
   have HX7 : Hid ((w6.setCell ⟨wo.heap.size, 1, none⟩ (.slice a6 pn c6)).heap[wo.heap.size]? = some (.cells #[.string nm, .slice a6 pn c6, .int .i64 regs, .int .i64 frame, .int .i64 entry, .slice ca cn cc] 25 (0, 0))) := by
    show (w6.setCell ⟨wo.heap.size, 1, none⟩ (.slice a6 pn c6)).heap[wo.heap.size]? = _
    rw [xheap_set_same HX6.out]; rfl
   have HB7 : Hid (Below wo.heap.size wo ((w6.setCell ⟨wo.heap.size, 1, none⟩ (.slice a6 pn c6)).alloc (.cells #[] 38))) := bel_alloc (HB6.out.setCell (Nat.le_refl _) _) _
   have HG7 : Hid (((w6.setCell ⟨wo.heap.size, 1, none⟩ (.slice a6 pn c6)).alloc (.cells #[] 38)).heap[w6.heap.size]? = some (.cells #[] 38 (0, 0))) := by
    show ((w6.setCell ⟨wo.heap.size, 1, none⟩ (.slice a6 pn c6)).alloc (.cells #[] 38)).heap[w6.heap.size]? = _
    have h := xheap_new (w6.setCell ⟨wo.heap.size, 1, none⟩ (.slice a6 pn c6)) (.cells #[] 38);rw [xsize_set] at h;exact h
   have HS7 : Hid (Srow ((w6.setCell ⟨wo.heap.size, 1, none⟩ (.slice a6 pn c6)).alloc (.cells #[] 38)) (.slice ca cn cc) cn (irows.flatMap inC)) := HCD.out.2.2.1.keep (bel_trans HBX.out HB7.out)
   have HL7 : Hid ((irows.flatMap inC).length = cn * 9) := by
    show (irows.flatMap inC).length = cn * 9
    rw [flat_len inC 9 inC_len, ← HCN.out, ← HCD.out.1, List.length_map]
   go_wp2_with (at_builtin; refine wpList_append_fresh _ (by rfl) _ _ 23 (by rfl) 38 i2 (.agg #[.int .i64 0, .int .i64 0, .int .i64 0, .int .i64 0, .int .i64 0, .int .i64 0, .slice none 0 0, .int .i64 0, .int .i64 0]) 9 88 underlying23 HI2.out.1 HI2.out.2.1 HI2.out.2.2.1 HI2.out.2.2.2 rfl (by decide) w6.heap.size (by rfl) HG7.out (.slice ca cn cc) cn (irows.flatMap inC) (by rfl) HL7.out HS7.out HCD.out.2.2.2 (by unfold maxLen; omega) hc88 ?_)
   intro a7 c7 w7 hown7 hgrow7;have HO7 : Hid (w7.ownsRow w6.heap.size 38 9 (.slice a7 cn c7) cn (irows.flatMap inC)) := hown7;have HK7 : Hid (Below w6.heap.size (w6.setCell ⟨wo.heap.size, 1, none⟩ (.slice a6 pn c6)) w7) := (show Below w6.heap.size _ ((w6.setCell ⟨wo.heap.size, 1, none⟩ (.slice a6 pn c6)).alloc (.cells #[] 38)) from (Below.refl _ _).alloc (by rw [xsize_set]; exact Nat.le_refl _) _).trans (grown_below hgrow7 (by rw [World.size_alloc, xsize_set]; omega));have HZ7 : Hid (w6.heap.size < w7.heap.size) := by have := hgrow7.size; rw [World.size_alloc, xsize_set] at this; exact (show w6.heap.size < w7.heap.size by omega)
   have HX8 : Hid (w7.heap[wo.heap.size]? = some (.cells #[.string nm, .slice a6 pn c6, .int .i64 regs, .int .i64 frame, .int .i64 entry, .slice ca cn cc] 25 (0, 0))) := by
    show w7.heap[wo.heap.size]? = _
    rw [HK7.out.block _ (by have := HZ6.out; omega)];exact HX7.out
   have x75 := xheap_cell (o := 5) HX8.out rfl;have z75 := xheap_frozen (o := 5) HX8.out;clear hown7 hgrow7 HG7 HS7 HL7 HX7 HB7 x61 x65 z61 hlt6
   have HJ : Hid (∃ CB, CpJ w.heap.size wo (w7.setCell ⟨wo.heap.size, 5, none⟩ (.slice a7 cn c7)) wo.heap.size CB ⟨nm, params, regs, frame, entry, code⟩ (.slice a6 pn c6) a7 cn c7) := by
    show ∃ CB, CpJ w.heap.size wo (w7.setCell ⟨wo.heap.size, 5, none⟩ (.slice a7 cn c7)) wo.heap.size CB ⟨nm, params, regs, frame, entry, code⟩ (.slice a6 pn c6) a7 cn c7
    have hz6 := HZ6.out;have hz7 := HZ7.out;have hB : Below wo.heap.size wo (w7.setCell ⟨wo.heap.size, 5, none⟩ (.slice a7 cn c7)) := (HB6.out.setCell (Nat.le_refl _) _).trans (HK7.out.mono (by omega)) |>.setCell (Nat.le_refl _) _;have hk8 : Kc (fun k => wo.heap.size + 1 ≤ k ∧ k < w6.heap.size) w6 (w7.setCell ⟨wo.heap.size, 5, none⟩ (.slice a7 cn c7)) := ((Kc.refl (fun k => wo.heap.size + 1 ≤ k ∧ k < w6.heap.size) w6).set (q := (⟨wo.heap.size, 1, none⟩ : Addr)) (fun h => by have h' : wo.heap.size + 1 ≤ wo.heap.size := h.1; omega) (.slice a6 pn c6)).trans ((Kc.below HK7.out (fun k hk => hk.2)).set (q := (⟨wo.heap.size, 5, none⟩ : Addr)) (fun h => by have h' : wo.heap.size + 1 ≤ wo.heap.size := h.1; omega) (.slice a7 cn c7));have ho6 := HO6.out;rw [← HPN.out] at ho6
    have hpar : ILq (fun k => wo.heap.size ≤ k ∧ k < w6.heap.size) (w7.setCell ⟨wo.heap.size, 5, none⟩ (.slice a7 cn c7)) (.slice a6 pn c6) params := by
     have h := (IL.fresh (w' := w6) ho6 (by rw [HPN.out]; exact hp8)).keep hk8;rw [HPN.out] at h;exact h.mono (fun k hk => ⟨by omega, hk.2⟩)
    refine CpJ.start (g := w6.heap.size) HCN.out hB ?_ hpar HCD.out.1 (fun r hr => (HCD.out.2.1 r hr).q.keep (Kc.below (bel_trans HBX.out hB) (fun k hk => hk))) HBX.out.size ?_ (by omega) (by omega) (by rw [xsize_set]; exact hz7)
    ·rw [xheap_set_same HX8.out]; rfl
    ·refine xowns_of_heap HO7.out (fun b hb => ?_)
     have := (xrow_lt HO7.out hb).2;exact xheap_set_other (by omega)
   obtain ⟨CB, hJ0⟩ := HJ.out;have HJ0 := hid hJ0;clear hJ0 HJ;go_wp2_with fail
   go_loopw [6] (fun v6 wk => ∃ k : Nat, k ≤ cn ∧ v6 = .int .i64 k ∧ Hid (CpJ w.heap.size wo wk wo.heap.size CB ⟨nm, params, regs, frame, entry, code⟩ (.slice a6 pn c6) a7 cn c7)) (fun v6 _ => cn - (intOf v6).toNat)
   case atStart => exact ⟨0, by omega, rfl, HJ0⟩
   case round =>
    clear HJ0 x75 z75 HX8 HK7 HZ7 HO7 HZ6 HB6 HX6 HO6 e0 e1 e2 e3 e4 e5 p1;obtain ⟨k, hk, rfl, HK⟩ := hrel;have f5 := xheap_cell (o := 5) HK.out.box rfl
    by_cases hkn : k < cn
    ·obtain ⟨rfl, ⟨cur, hcur⟩, hrow⟩ := HK.out.row (by omega)
     have k0 : (0 : Int) ≤ k := by omega
     have k1 : (k : Int) < cn := by omega
     have hget := List.getElem?_eq_getElem (l := code) (show k < code.length by rw [HCN.out]; exact hkn)
     generalize code[k]'(by rw [HCN.out]; exact hkn) = x at hget
     have HX : Hid (code[k]? = some x) := hget;obtain ⟨av, hav, -, -, -, -, -, -, g6, -, -⟩ := hrow k x hget;obtain ⟨aa, ac, rfl, ha8⟩ := clen_parts hav.1;have z6 := xheap_frozen (o := 0 + k * 9 + 6) hcur;have HAV := hid hav.1;have HNE := Ne.symm HK.out.ne;obtain ⟨an, han⟩ : ∃ an, an = x.args.length := ⟨_, rfl⟩;have HAN := hid han;rw [← han] at g6 ha8 HAV;clear hget hav hcur hrow han
     go_upto_region 11 with fail
     refine cp_r11 wo.heap.size CB 0 k cn c7 an ac aa x.args _ _ _ _ _ _ _ _ _ _ _ _ _ _ _ _ _ _ _ _ _ _ _ _ _ _ _ _ _ _ _ _ _ _ _ _ _ _ _ _ _ _ _ _ _ _ _ _ _ _ _ _ _ _ _ _ _ _ _ _ _ _ wr (fun _ _ d _ _ h => by cases d <;> exact h) f5 g6 z6 k0 k1 HAN HAV HNE (fun _ _ _ _ _ _ _ _ _ _ _ _ _ b2 d2 w3 hb3 ho3 => ?_)
     have hfr : ILq (fun j => wr.heap.size ≤ j ∧ j < w3.heap.size) w3 (.slice b2 an d2) x.args := by
      have h := ho3;rw [HAN.out] at h;have q := IL.fresh (w' := w3) h (by rw [← HAN.out]; exact ha8);rw [← HAN.out] at q;exact q
     have HJ2 := hid (HK.out.set HX.out hb3 hfr);clear hfr;clear ho3 hb3 f5 g6 z6 HAV HNE;go_wp2
     go_roundw
     case rel => exact ⟨k + 1, by omega, by simp, by rw [Nat.zero_add] at HJ2; exact HJ2⟩
     case measure => simp [intOf]; omega
    ·obtain rfl : cn = k := by omega
     have f0 := xheap_cell (o := 0) HK.out.box rfl;have f1 := xheap_cell (o := 1) HK.out.box rfl;have f2 := xheap_cell (o := 2) HK.out.box rfl;have f3 := xheap_cell (o := 3) HK.out.box rfl;have f4 := xheap_cell (o := 4) HK.out.box rfl;have HQB := hid (xkeep_heap HK.out.bel HI.out.1.box);have q1 := xheap_cell (o := 1) HQB.out rfl
     have HO3 : Hid ((wr.alloc (.cells ([.string nm, .slice a6 pn c6, .int .i64 regs, .int .i64 frame, .int .i64 entry, .slice a7 cn c7] : List Value).toArray 25)).ownsRow w1.heap.size 25 6 (.slice va i vc) i (rows.flatMap fnC)) := by
      have h := HI.out.1.own;rw [HI.out.2.2] at h;exact xowns_of_heap h (fun b hb => (Below.heap_alloc wr _ b (Nat.lt_of_lt_of_le (xrow_lt h hb).1 HK.out.bel.size)).trans (HK.out.bel.block b (xrow_lt h hb).1))
     have H1 : Hid (∀ u1 ∈ ([.string nm, .slice a6 pn c6, .int .i64 regs, .int .i64 frame, .int .i64 entry, .slice a7 cn c7] : List Value), u1.oneCell' = true) := by
      show ∀ u1 ∈ ([.string nm, .slice a6 pn c6, .int .i64 regs, .int .i64 frame, .int .i64 entry, .slice a7 cn c7] : List Value), u1.oneCell' = true
      intro u1 hu;simp only [List.mem_cons, List.not_mem_nil, or_false] at hu
      rcases hu with rfl | rfl | rfl | rfl | rfl | rfl <;> rfl
     have HSZ : Hid (w1.heap.size ≤ (wr.alloc (.cells ([.string nm, .slice a6 pn c6, .int .i64 regs, .int .i64 frame, .int .i64 entry, .slice a7 cn c7] : List Value).toArray 25)).heap.size) := by
      show w1.heap.size ≤ (wr.alloc (.cells ([.string nm, .slice a6 pn c6, .int .i64 regs, .int .i64 frame, .int .i64 entry, .slice a7 cn c7] : List Value).toArray 25)).heap.size
      rw [World.size_alloc];have h1 := HI.out.1.bel.size;have h2 := HK.out.bel.size
      omega
     go_wp2_with (at_builtin; refine wpList_append_lies _ (by rfl) _ _ 27 (by rfl) w1.heap.size 25 i3 (.agg #[.string ⟨#[]⟩, .slice none 0 0, .int .i64 0, .int .i64 0, .int .i64 0, .slice none 0 0]) 6 88 underlying27 HI3.out.1 HI3.out.2.1 HI3.out.2.2.1 HI3.out.2.2.2 rfl (by omega) (.slice va i vc) i (rows.flatMap fnC) (by rfl) HO3.out ⟨wr.heap.size, 0, none⟩ 1 1 [.string nm, .slice a6 pn c6, .int .i64 regs, .int .i64 frame, .int .i64 entry, .slice a7 cn c7] (by rfl) (by rfl) (World.news_of_block (xheap_new wr _)) H1.out (by omega) (by unfold maxLen; omega) (by omega) HSZ.out (wr.heap.size + 1) (by simp) ?_)
     intro g2 cap2 w4 hown hgrow hat hlt;have HQ4 := hid (show w4.heap[QB]? = some _ from (hgrow.block QB (by rw [World.size_alloc]; have := xheap_lt HQB.out; omega) (Ne.symm HI.out.1.ne)).trans ((Below.heap_alloc wr _ QB (xheap_lt HQB.out)).trans HQB.out));have q4 := xheap_cell (o := 1) HQ4.out rfl;have y4 := xheap_frozen (o := 1) HQ4.out
     have HIN : Hid (CpIn w.heap.size w1 (w4.setCell ⟨QB, 1, none⟩ (.slice (some ⟨g2, 0, none⟩) (i + 1) cap2)) QB (.slice a2 ng c2) (.slice (some ⟨g2, 0, none⟩) (i + 1) cap2) main globals (rows ++ [(⟨nm, params, regs, frame, entry, code⟩, .slice a6 pn c6, .slice a7 cn c7)])) := by
      show CpIn w.heap.size w1 (w4.setCell ⟨QB, 1, none⟩ (.slice (some ⟨g2, 0, none⟩) (i + 1) cap2)) QB (.slice a2 ng c2) (.slice (some ⟨g2, 0, none⟩) (i + 1) cap2) main globals (rows ++ [(⟨nm, params, regs, frame, entry, code⟩, .slice a6 pn c6, .slice a7 cn c7)])
      have h := HI.out.2.2;rw [← h] at hown ⊢;exact CpIn.step HI.out.1 HK.out (by show code.length * 88 ≤ _; rw [HCN.out]; exact hc88) HNM.out hown hgrow hat
     clear hown hgrow hat hlt HO3 HSZ H1 HK HQB f0 f1 f2 f3 f4 f5 q1;go_wp2
     go_roundw
     case rel => exact ⟨i + 1, by omega, by simp, _, _, _, HIN.out, by rw [List.map_append, HI.out.2.1, List.take_add_one, HGET.out]; rfl, by rw [List.length_append, HI.out.2.2]; rfl⟩
     case measure => simp [intOf]; omega
  ·obtain rfl : nf = i := by omega
   have HE := HI.out;have q0 := xheap_cell (o := 0) HI.out.1.box rfl;have q1 := xheap_cell (o := 1) HI.out.1.box rfl;have q2 := xheap_cell (o := 2) HI.out.1.box rfl;have HRR := hid (xkeep_heap HI.out.1.bel RR.out);have r0 := xheap_cell (o := 0) HRR.out rfl;have r1 := xheap_cell (o := 1) HRR.out rfl;have r2 := xheap_cell (o := 2) HRR.out rfl;have s0 := xheap_frozen (o := 0) HRR.out;have s1 := xheap_frozen (o := 1) HRR.out;have s2 := xheap_frozen (o := 2) HRR.out;have HS1 : Hid (w.heap.size + 1 < w1.heap.size) := xheap_lt RR.out;have HBE : Hid (Below w.heap.size w (((wr.setCell ⟨w.heap.size + 1, 0, none⟩ (.slice a2 ng c2)).setCell ⟨w.heap.size + 1, 1, none⟩ (.slice va nf vc)).setCell ⟨w.heap.size + 1, 2, none⟩ (.int .i64 main))) := (((bel_trans HW0.out HI.out.1.bel).setCell (by simp) _).setCell (by simp) _).setCell (by simp) _
   have HPV : Hid (∀ f, funcs = [f] → retPg1 f w (.returned (.agg #[.slice a2 ng c2, .slice va nf vc, .int .i64 main])) (((wr.setCell ⟨w.heap.size + 1, 0, none⟩ (.slice a2 ng c2)).setCell ⟨w.heap.size + 1, 1, none⟩ (.slice va nf vc)).setCell ⟨w.heap.size + 1, 2, none⟩ (.int .i64 main))) := by
    intro f hf;refine CpIn.one (f := f) HI.out.1 ?_ (fun k hk => ?_) (by rw [xsize_set, xsize_set, xsize_set]) HW0.out.size HBE.out _
    ·rw [HI.out.2.1, List.take_of_length_le (by rw [HNF.out]; omega), hf]
    ·have := HS1.out
     have := HW0.out.size;rw [xheap_set_other (by omega), xheap_set_other (by omega), xheap_set_other (by omega)]
   clear HE;go_wp2;exact bodyPost_ret (v := .agg #[.slice a2 ng c2, .slice va nf vc, .int .i64 main]) (by simp [results, results5, go_sem, r0, r1, r2]) rfl HPV.out
theorem copy_any {w : World} {v : Value} {p : Pg} (h : PgV w v p) : Calls prog 5 #[v] w (retPgG p w) := by
 obtain ⟨gv, fv, rfl, hg, hf⟩ := h;obtain ⟨ga, gc, rfl, _⟩ := clen_parts hg;obtain ⟨fa, fc, fb, fo, rfl, hl, ha, hc⟩ := hf.parts;exact copy_walk ga fa _ gc _ fc fb fo p.main p.globals p.funcs w rfl hg hl rfl ha hc
end Go.Proofs.YtncondlfngeilaaGreatDoor
