/- The document's own machine code: another program, the same. -/
import Derived.Test.YtofnnpchobgapaaGreatDoorAsCp2
namespace Go.Proofs.YtofnnpchobgapaaGreatDoor
open Go.ChangeShapes Go.WideShapes Go.ChangeAt Go.RowKit
set_option linter.unusedSimpArgs false
set_option linter.unusedVariables false

theorem ACpI.of {w1 W : World} {QB : Nat} {gv : Value} {main params : Int} {globals : List Int} (h : ACpR w1 W QB gv main params globals) : ACpI w1 W QB gv (.slice none 0 0) main params globals [] :=
  ⟨h.bel, h.box, World.ownsRow_nil _ _ _ _, by simp [Value.ownBlock], h.ge, h.gl.mono (fun k hk => ⟨hk.1.2, hk.2, by simp [Value.ownBlock], hk.1.1⟩), fun r hr => by cases hr⟩
def retAPg (p : APg) (w : World) : Ending → World → Prop := fun e w' => ∃ v, e = .returned v ∧ APgV w' v p ∧ Below w.heap.size w w'
theorem end_APg {P : Program} {fn : Func} {a : Act} {w w' : World} {p : APg} (v : Value) (hr : (results fn a.tmps).run P w' = .ok v w') (hd : a.defers = []) (hp : APgV w' v p) (hb : Below w.heap.size w w') :
    bodyPost P fn (retAPg p w) .ret a w' := bodyPost_ret hr hd ⟨v, rfl, hp, hb⟩
theorem ail_len {w : World} {v : Value} {l : List Int} (h : IL w v l) : ∃ (a : Option Addr) (cap : Nat), v = .slice a l.length cap ∧ l.length * 8 ≤ 140737488355328 := by
  obtain ⟨a, cap, hv, h1, _⟩ := h
  exact ⟨a, cap, hv, h1⟩
set_option maxRecDepth 100000 in
set_option maxHeartbeats 20000000 in
theorem acopy_walk (ga fa : Option Addr) (ng gc nf fc fb fo : Nat) (main params : Int) (globals : List Int) (funcs : List AFn) (w : World) (HNG : Hid (ng = globals.length)) (HGL : Hid (IL w (.slice ga ng gc) globals))
    (hnf : nf * 40 ≤ 140737488355328) (HNF : Hid (nf = funcs.length)) (HFA : Hid (0 < nf → fa = some ⟨fb, fo, none⟩)) (HFC : Hid (∀ (i : Nat) x, funcs[i]? = some x → AFnAt w fb (fo + i * 2) x)) :
    Calls Tryz.prog 7 #[.agg #[.slice ga ng gc, .slice fa nf fc, .int .i64 main, .int .i64 params]] w (retAPg ⟨globals, funcs, main, params⟩ w) := by
  have HW0 : Hid (Below w.heap.size w ((w.alloc (.cells #[.slice ga ng gc, .slice fa nf fc, .int .i64 main, .int .i64 params] 25)).alloc (.cells #[.slice none 0 0, .slice none 0 0, .int .i64 0, .int .i64 0] 25))) := bel_alloc (bel_alloc (Below.refl _ _) _) _
  go_enter Tryz.func7, Tryz.ntmps7
  go_upto_region 1 with fail
  refine acp_r1 w.heap.size ng gc ga main params globals _ _ _ _ _ _ _ _ _ _ _ _ _ _ _ _ _ _ _ _ _ _ _ _ _ _ _ _ _ _ _ _ _ _ _ _ _ _ _ _ _ _ _ ((w.alloc (.cells #[.slice ga ng gc, .slice fa nf fc, .int .i64 main, .int .i64 params] 25)).alloc (.cells #[.slice none 0 0, .slice none 0 0, .int .i64 0, .int .i64 0] 25)) (fun _ _ d _ _ h => by cases d <;> exact h) (by simp) (by simp) (by simp) HNG (HGL.out.keep HW0.out) (fun _ _ _ _ _ _ _ _ _ QB a2 c2 W hR => ?_)
  obtain ⟨w1, hw1⟩ : ∃ w1, w1 = ((w.alloc (.cells #[.slice ga ng gc, .slice fa nf fc, .int .i64 main, .int .i64 params] 25)).alloc (.cells #[.slice none 0 0, .slice none 0 0, .int .i64 0, .int .i64 0] 25)) := ⟨_, rfl⟩
  rw [← hw1] at hR
  have p1 : w1.cell? ⟨w.heap.size, 1, none⟩ = some (.slice fa nf fc) := by rw [hw1]; simp
  have RR : Hid (w1.heap[w.heap.size + 1]? = some (.cells #[.slice none 0 0, .slice none 0 0, .int .i64 0, .int .i64 0] 25 (0, 0))) := by
    show w1.heap[w.heap.size + 1]? = _
    rw [hw1]
    have h := xheap_new (w.alloc (.cells #[.slice ga ng gc, .slice fa nf fc, .int .i64 main, .int .i64 params] 25)) (.cells #[.slice none 0 0, .slice none 0 0, .int .i64 0, .int .i64 0] 25)
    rw [World.size_alloc] at h
    exact h
  have HP1 : Hid (w1.cell? ⟨w.heap.size, 1, none⟩ = some (.slice fa nf fc)) := p1
  rw [← hw1] at HW0
  have HI0 : Hid (ACpI w1 W QB (.slice a2 ng c2) (.slice none 0 0) main params globals []) := ACpI.of hR
  clear hw1 hR p1
  have p1 := keep_cell HI0.out.bel HP1.out
  go_wp2_with fail
  go_loopw [4] (fun v4 wr => ∃ i : Nat, i ≤ nf ∧ v4 = .int .i64 i ∧ Hid (∃ va vc rows, ACpI w1 wr QB (.slice a2 ng c2) (.slice va i vc) main params globals rows ∧ rows.map (·.1) = funcs.take i ∧ rows.length = i)) (fun v4 _ => nf - (intOf v4).toNat)
  case atStart => exact ⟨0, by omega, rfl, none, 0, [], HI0.out, rfl, rfl⟩
  case round =>
    clear p1 HI0
    obtain ⟨i, hi, rfl, HR⟩ := hrel
    obtain ⟨va, vc, rows, hI, hm, hl⟩ := HR.out
    have HI : Hid (ACpI w1 wr QB (.slice a2 ng c2) (.slice va i vc) main params globals rows ∧ rows.map (·.1) = funcs.take i ∧ rows.length = i) := ⟨hI, hm, hl⟩
    clear HR hI hm hl
    have p1 := keep_cell HI.out.1.bel HP1.out
    by_cases hin : i < nf
    · obtain rfl := HFA.out (by omega)
      have j0 : (0 : Int) ≤ i := by omega
      have j1 : (i : Int) < nf := by omega
      have hget := List.getElem?_eq_getElem (l := funcs) (show i < funcs.length by rw [← HNF.out]; exact hin)
      generalize funcs[i]'(by rw [← HNF.out]; exact hin) = f at hget
      have HGET : Hid (funcs[i]? = some f) := hget
      have HBX : Hid (Below w.heap.size w wr) := bel_trans HW0.out HI.out.1.bel
      obtain ⟨cv, hcd0, hnm0, c0, c1⟩ := HFC.out i f hget
      have hfb : fb < w1.heap.size := Nat.lt_of_lt_of_le (block_lt_of_cell c0) HW0.out.size
      have hpb : w.heap.size < w1.heap.size := Nat.lt_of_succ_lt (xheap_lt RR.out)
      obtain ⟨hcd, d0, d1⟩ : ACodeAt wr cv f.code ∧ wr.cell? ⟨fb, fo + i * 2, none⟩ = some (.string f.name) ∧ wr.cell? ⟨fb, fo + i * 2 + 1, none⟩ = some cv := ⟨hcd0.keep HBX.out, keep_cell HBX.out c0, keep_cell HBX.out c1⟩
      have hcd' := hcd
      obtain ⟨ca, cc, rfl, _⟩ := hcd'
      obtain ⟨n, hn⟩ : ∃ n, f.code.length = n := ⟨_, rfl⟩
      have HN : Hid (n = f.code.length) := hn.symm
      rw [hn] at hcd d1
      clear hget hcd0 c0 c1 hn
      go_upto_region 5 with fail
      refine acp_r5 w.heap.size QB fb fo nf fc i n cc vc va ca f (.slice a2 ng c2) main params globals rows _ _ _ _ _ _ _ _ _ _ _ _ _ _ _ _ _ _ _ _ _ _ _ _ _ _ _ _ _ _ _ _ _ _ _ _ _ _ _ _ w1 wr (fun _ _ d _ _ h => by cases d <;> exact h) p1 d0 d1 j0 j1 hpb hfb HN hcd hnm0 HI.out.2.2 (by omega) HI.out.1 (fun _ _ _ _ _ _ _ _ _ _ _ _ _ _ _ _ _ _ _ _ g2 cap2 cv W hst => ?_)
      have HIN := hid hst
      clear hst hcd d0 d1 hnm0 p1 HN HBX
      go_wp2
      go_roundw
      case rel => exact ⟨i + 1, by omega, by simp, _, _, _, HIN.out, by rw [List.map_append, HI.out.2.1, List.take_add_one, HGET.out]; rfl, by rw [List.length_append, HI.out.2.2]; rfl⟩
      case measure => simp [intOf]; omega
    · obtain rfl : nf = i := by omega
      have HE := HI.out
      have q0 := xheap_cell (o := 0) HI.out.1.box rfl
      have q1 := xheap_cell (o := 1) HI.out.1.box rfl
      have q2 := xheap_cell (o := 2) HI.out.1.box rfl
      have q3 := xheap_cell (o := 3) HI.out.1.box rfl
      have HRR := hid (xkeep_heap HI.out.1.bel RR.out)
      have r0 := xheap_cell (o := 0) HRR.out rfl
      have r1 := xheap_cell (o := 1) HRR.out rfl
      have r2 := xheap_cell (o := 2) HRR.out rfl
      have r3 := xheap_cell (o := 3) HRR.out rfl
      have s0 := xheap_frozen (o := 0) HRR.out
      have s1 := xheap_frozen (o := 1) HRR.out
      have s2 := xheap_frozen (o := 2) HRR.out
      have s3 := xheap_frozen (o := 3) HRR.out
      have HS1 : Hid (w.heap.size + 1 < w1.heap.size) := xheap_lt RR.out
      have HPV : Hid (APgV ((((wr.setCell ⟨w.heap.size + 1, 0, none⟩ (.slice a2 ng c2)).setCell ⟨w.heap.size + 1, 1, none⟩ (.slice va nf vc)).setCell ⟨w.heap.size + 1, 2, none⟩ (.int .i64 main)).setCell ⟨w.heap.size + 1, 3, none⟩ (.int .i64 params)) (.agg #[.slice a2 ng c2, .slice va nf vc, .int .i64 main, .int .i64 params]) ⟨globals, funcs, main, params⟩) := by
        refine ACpI.done (p := ⟨globals, funcs, main, params⟩) HI.out.1 ?_ ?_ (fun k hk => ?_)
        · rw [HI.out.2.1, List.take_of_length_le (by rw [HNF.out]; omega)]
        · show funcs.length * 40 ≤ _
          rw [← HNF.out]; exact hnf
        · have := HS1.out
          rw [xheap_set_other (by omega), xheap_set_other (by omega), xheap_set_other (by omega), xheap_set_other (by omega)]
      have HBE : Hid (Below w.heap.size w ((((wr.setCell ⟨w.heap.size + 1, 0, none⟩ (.slice a2 ng c2)).setCell ⟨w.heap.size + 1, 1, none⟩ (.slice va nf vc)).setCell ⟨w.heap.size + 1, 2, none⟩ (.int .i64 main)).setCell ⟨w.heap.size + 1, 3, none⟩ (.int .i64 params))) := ((((bel_trans HW0.out HI.out.1.bel).setCell (by simp) _).setCell (by simp) _).setCell (by simp) _).setCell (by simp) _
      clear HE
      go_wp2
      exact end_APg _ (by simp [results, Tryz.results7, go_sem, r0, r1, r2, r3]) rfl HPV.out HBE.out
theorem acopy_any {w : World} {v : Value} {p : APg} (h : APgV w v p) : Calls Tryz.prog 7 #[v] w (retAPg p w) := by
  obtain ⟨gv, fv, rfl, hg, hf⟩ := h
  obtain ⟨ga, gc, rfl, _⟩ := ail_len hg
  obtain ⟨fa, fc, fb, fo, rfl, hl, ha, hc⟩ := hf.parts
  exact acopy_walk ga fa _ gc _ fc fb fo p.main p.params p.globals p.funcs w rfl hg hl rfl ha hc
end Go.Proofs.YtofnnpchobgapaaGreatDoor

