
import Derived.Test.YtfeglcpipcjaeaaGreatDoorFyI
namespace Go.Proofs.YtfeglcpipcjaeaaGreatDoor
open Go.ChangeShapes Go.WideShapes Go.ChangeAt Go.RowKit Go.Proofs.Tryz
set_option linter.unusedSimpArgs false
set_option linter.unusedVariables false
set_option maxRecDepth 100000
set_option maxHeartbeats 40000000

structure SmH (w W : World) : Prop where
 h : ∀ q : Nat, W.heap[q]? = w.heap[q]?
 s : W.heap.size = w.heap.size
 os : W.os = w.os
 tape : W.tape = w.tape
 output : W.output = w.output
theorem SmH.bel {w W : World} (h : SmH w W) : Below w.heap.size w W := ⟨h.os, h.tape, h.output, by rw [h.s]; exact Nat.le_refl _, fun k _ => h.h k⟩
theorem Q1.same {w1 : World} {LB N R i : Nat} {rb : Nat → Nat} {t : Nat → Nat → Bool} {W W' : World} (h : Q1 w1 LB N R i rb t W) (hs : SmH W W') : Q1 w1 LB N R i rb t W' :=
 ⟨⟨hs.os.trans h.bel.os, hs.tape.trans h.bel.tape, hs.output.trans h.bel.output, by rw [hs.s]; exact h.bel.size, fun k hk => (hs.h k).trans (h.bel.block k hk)⟩, hs.s.trans h.sz, fun j hj => ⟨by rw [World.cell?_of_block (w := W) (hs.h LB)]; exact (h.c j hj).1, by rw [World.frozen?_of_block (w := W) (hs.h LB)]; exact (h.c j hj).2⟩, fun j hj => (h.v j hj).of (hs.h _)⟩
theorem flowLeast_walk (v : Value) (f : Fn) (W : World) (hf : FnV W v f) (hsh : ShTab W) (hu : sumU f.code ≤ 100000000) (HAW : Hid (∀ w1, Below W.heap.size W w1 → Calls prog 7 #[] w1 (fun e W' => e = .returned (.bool true) ∧ Below w1.heap.size w1 W'))) :
  Calls prog 4 #[v] W (fun e W' => e = .returned (.bool true) ∧ Below W.heap.size W W') := by
 have hf' := hf;obtain ⟨pv, cv, rfl, hp, hc, hn⟩ := hf;obtain ⟨pa, pc, rfl, _⟩ := hp.partsF;obtain ⟨ca, cap, cb, co, rfl, h88, hca, hins⟩ := hc.parts;have HFV : Hid (∀ w1, Below W.heap.size W w1 → FnV w1 (.agg #[.string f.name, .slice pa f.params.length pc, .int .i64 f.regs, .int .i64 f.frame, .int .i64 f.entry, .slice ca f.code.length cap]) f) := fun w1 hb => hf'.keep hb;have HSH : Hid (∀ w1, Below W.heap.size W w1 → ShTab w1) := fun w1 hb => hsh.keep hb;have HCA := hidF hca;have HIN : Hid (∀ w1, Below W.heap.size W w1 → ∀ (i : Nat) x, f.code[i]? = some x → InsAt w1 cb (co + i * 9) x) := fun w1 hb i x hx => (hins i x hx).keep hb;clear hf' hp hc hn hca hins hsh;obtain ⟨w1, hw1⟩ : ∃ w1, W.alloc (.cells #[.string f.name, .slice pa f.params.length pc, .int .i64 f.regs, .int .i64 f.frame, .int .i64 f.entry, .slice ca f.code.length cap] 25) = w1 := ⟨_, rfl⟩;have HB : Hid (Below W.heap.size W w1) := by rw [← hw1]; exact bel_alloc (Below.refl _ _) _
 have d0 : w1.cell? ⟨W.heap.size, 0, none⟩ = some (.string f.name) := by rw [← hw1]; simp
 have d1 : w1.cell? ⟨W.heap.size, 1, none⟩ = some (.slice pa f.params.length pc) := by rw [← hw1]; simp
 have d2 : w1.cell? ⟨W.heap.size, 2, none⟩ = some (.int .i64 f.regs) := by rw [← hw1]; simp
 have d3 : w1.cell? ⟨W.heap.size, 3, none⟩ = some (.int .i64 f.frame) := by rw [← hw1]; simp
 have d4 : w1.cell? ⟨W.heap.size, 4, none⟩ = some (.int .i64 f.entry) := by rw [← hw1]; simp
 have d5 : w1.cell? ⟨W.heap.size, 5, none⟩ = some (.slice ca f.code.length cap) := by rw [← hw1]; simp
 go_enter func4, ntmps4
 go_upto_region 3 with (go_at_call 7; refine (HAW.out w1 HB.out).mono ?_; rintro e w2 ⟨rfl, hb2⟩)
 have HB2 := hidF (bel_trans HB.out hb2);replace d0 := keep_cell hb2 d0;replace d1 := keep_cell hb2 d1;replace d2 := keep_cell hb2 d2;replace d3 := keep_cell hb2 d3;replace d4 := keep_cell hb2 d4;replace d5 := keep_cell hb2 d5;clear hb2 hw1 HB;obtain ⟨q1, hq1⟩ : ∃ q1, decide ((f.code.length : Int) ≤ 50) = q1 := ⟨_, rfl⟩;obtain ⟨q2, hq2⟩ : ∃ q2, decide (f.regs ≤ 30) = q2 := ⟨_, rfl⟩;have HFW := hidF (few_walk f.name pa f.params.length pc f.regs f.frame f.entry ca f.code.length cap w2 q1 q2 hq1 hq2)
 cases hq : (q1 && q2) with
 | false =>
  rw [hq] at HFW;clear hq hq1 hq2
  go_wp2_with (go_at_call 8; refine HFW.out.mono ?_; rintro e w3 ⟨rfl, hb3⟩)
  have HB3 := hidF (bel_trans HB2.out hb3);go_ret;exact ⟨rfl, HB3.out⟩
 | true =>
  rw [hq] at HFW
  have hN : f.code.length ≤ 50 := by
   rw [Bool.and_eq_true] at hq;have := of_decide_eq_true (hq1.trans hq.1)
   omega
  have hG : f.regs ≤ 30 := by
   rw [Bool.and_eq_true] at hq;exact of_decide_eq_true (hq2.trans hq.2)
  clear hq hq1 hq2
  cases hr : RightF f with
  | false =>
   have HRR : Hid (∀ w1, Below W.heap.size W w1 → Calls prog 10 #[.agg #[.string f.name, .slice pa f.params.length pc, .int .i64 f.regs, .int .i64 f.frame, .int .i64 f.entry, .slice ca f.code.length cap]] w1 (retP (.bool false) w1)) := fun w1 hb => by have := rRight_any (HFV.out w1 hb); rw [hr] at this; exact this
   clear hr
   go_wp2_with (first | (go_at_call 8; refine HFW.out.mono ?_; rintro e w3 ⟨rfl, hb3⟩; have HB3 := hidF (bel_trans HB2.out hb3); replace d0 := keep_cell hb3 d0; replace d1 := keep_cell hb3 d1; replace d2 := keep_cell hb3 d2; replace d3 := keep_cell hb3 d3; replace d4 := keep_cell hb3 d4; replace d5 := keep_cell hb3 d5) | (go_at_call 10; refine (HRR.out w3 HB3.out).mono ?_; rintro e w4 ⟨rfl, hb4⟩; have HB4 := hidF (bel_trans HB3.out hb4)))
   go_ret;exact ⟨rfl, HB4.out⟩
  | true =>
   have HRR : Hid (∀ w1, Below W.heap.size W w1 → Calls prog 10 #[.agg #[.string f.name, .slice pa f.params.length pc, .int .i64 f.regs, .int .i64 f.frame, .int .i64 f.entry, .slice ca f.code.length cap]] w1 (retP (.bool true) w1)) := fun w1 hb => by have := rRight_any (HFV.out w1 hb); rw [hr] at this; exact this
   obtain ⟨h0, h1, h2, h3⟩ := right_parts hr;have hok := codeOk_of hr hu;obtain ⟨R, hR⟩ : ∃ R, f.regs.toNat = R := ⟨_, rfl⟩;have hrg : f.regs = (R : Int) := by omega
   have HEQ : Hid (∀ x ∈ f.code, usX x = usR x ∧ wrX x = wrR x) := fun x hx => ⟨us_eq h0 (h3 x hx), wr_eq h0 (h3 x hx)⟩;rw [hR] at hok;have HOK := hidF hok;have hR30 : R ≤ 30 := by omega
   have HLV : Hid (∀ w3, Below W.heap.size W w3 → Calls prog 9 #[.agg #[.string f.name, .slice pa f.params.length pc, .int .i64 f.regs, .int .i64 f.frame, .int .i64 f.entry, .slice ca f.code.length cap]] w3 (fun e W' => ∃ NB rv, e = .returned (.tuple #[.slice (some ⟨NB, 0, none⟩) f.code.length f.code.length, .int .i64 0]) ∧ NI w3.heap.size NB f.code.length rv (lvL usX wrX sxF f.code R) W' ∧ Below w3.heap.size w3 W')) := fun w3 hb => (flive_any (HFV.out w3 hb) (HSH.out w3 hb) hu).mono (fun e W' h => by unfold retL at h; rw [if_pos hr, hR] at h; exact h);have HRG := hidF hrg;clear hr h0 h1 h2 h3 hok hG hR hrg
   go_upto_region 5 with (first | (go_at_call 8; refine HFW.out.mono ?_; rintro e w3 ⟨rfl, hb3⟩; have HB3 := hidF (bel_trans HB2.out hb3); replace d0 := keep_cell hb3 d0; replace d1 := keep_cell hb3 d1; replace d2 := keep_cell hb3 d2; replace d3 := keep_cell hb3 d3; replace d4 := keep_cell hb3 d4; replace d5 := keep_cell hb3 d5) | (go_at_call 10; refine (HRR.out w3 HB3.out).mono ?_; rintro e w4 ⟨rfl, hb4⟩))
   have HB4 := hidF (bel_trans HB3.out hb4);replace d0 := keep_cell hb4 d0;replace d1 := keep_cell hb4 d1;replace d2 := keep_cell hb4 d2;replace d3 := keep_cell hb4 d3;replace d4 := keep_cell hb4 d4;replace d5 := keep_cell hb4 d5;clear hb3 hb4 HB3 HFW HRR HB2
   go_upto_region 6 with (go_at_call 9; refine (HLV.out w4 HB4.out).mono ?_; rintro e w5 ⟨NB, rv, rfl, hni, hb5⟩)
   have HB5 := hidF (bel_trans HB4.out hb5);replace d0 := keep_cell hb5 d0;replace d1 := keep_cell hb5 d1;replace d2 := keep_cell hb5 d2;replace d3 := keep_cell hb5 d3;replace d4 := keep_cell hb5 d4;replace d5 := keep_cell hb5 d5;have HRO := hidF (hni.ro (fun i _ => by have := lvL_length usX wrX sxF f.code R i; omega));rw [HRG.out] at d2;clear hb5 HB4 hni HLV;obtain ⟨N, hNN⟩ : ∃ N, f.code.length = N := ⟨_, rfl⟩;obtain ⟨pn, hpn⟩ : ∃ pn, f.params.length = pn := ⟨_, rfl⟩;rw [hNN] at HRO d5 HCA hN;rw [hNN, hpn];rw [hpn] at d1;have HNN := hidF hNN;have HPN := hidF hpn;have mk1 := mk_bools R (by omega);have mk2 := mk_brows N (by omega);clear hNN hpn
   go_upto_region 9 with fail
   obtain ⟨LB, hLB⟩ : ∃ LB, w5.heap.size = LB := ⟨_, rfl⟩;rw [hLB];have HS5 := hidF hLB;obtain ⟨rb, hrb⟩ : ∃ rb : Nat → Nat, rb = fun j => LB + 1 + j := ⟨_, rfl⟩;have HRB : Hid (∀ j, rb j = LB + 1 + j) := fun j => by rw [hrb]
   have HQ0 : Hid (Q1 w5 LB N R 0 rb (tkL f.code R 0 0) (w5.alloc (.cells (madeCells #[.slice none 0 0] N) 34))) := by
    refine ⟨bel_alloc (Below.refl _ _) _, by rw [World.size_alloc, hLB], fun j hj => ?_, fun j hj => by omega⟩;have := made_at w5 (.slice none 0 0) N 34 j hj;rw [hLB] at this;simpa using this
   have HD : Hid (w5.cell? ⟨W.heap.size, 0, none⟩ = some (.string f.name) ∧ w5.cell? ⟨W.heap.size, 1, none⟩ = some (.slice pa pn pc) ∧ w5.cell? ⟨W.heap.size, 2, none⟩ = some (.int .i64 (R : Int)) ∧ w5.cell? ⟨W.heap.size, 3, none⟩ = some (.int .i64 f.frame) ∧ w5.cell? ⟨W.heap.size, 4, none⟩ = some (.int .i64 f.entry) ∧ w5.cell? ⟨W.heap.size, 5, none⟩ = some (.slice ca N cap)) := ⟨d0, d1, d2, d3, d4, d5⟩;have hWL : W.heap.size < LB := by have h5 : W.heap.size < w5.heap.size := block_lt_of_cell d0; omega
   clear hrb d0 d1 d2 d3 d4 d5 hLB
   generalize w5.alloc (.cells (madeCells #[.slice none 0 0] N) 34) = wa at *
   go_wp2
   go_loopw [6] (fun v6 wz => ∃ n : Nat, n ≤ N ∧ v6 = .int .i64 n ∧ Hid (Q1 w5 LB N R n rb (tkL f.code R n 0) wz)) (fun v6 _ => N - (intOf v6).toNat)
   case atStart => exact ⟨0, by omega, rfl, HQ0⟩
   case round =>
    clear HQ0;obtain ⟨n, hn, rfl, HQ1⟩ := hrel
    rename World => wz
    by_cases hin : n < N
    ·have n0 : (0 : Int) ≤ n := by omega
     have n1 : (n : Int) < N := by omega
     have c2 := keep_cell HQ1.out.bel HD.out.2.2.1;obtain ⟨cl, fl⟩ := HQ1.out.c n hin;rw [if_neg (by omega)] at cl;have hLz : LB < wz.heap.size := block_lt_of_cell cl;have HQ2 := hidF (HQ1.out.next (t' := tkL f.code R n 0) HRB.out HS5.out hin (fun _ _ _ => rfl) (fun r => tkL_zero _ _ _ _));obtain ⟨ra, rc, rb2, ro, hrv, _, hra, hrc⟩ := (HRO.out.il n hin).parts;rw [up_length] at hrv hra;obtain ⟨rn, hrn⟩ : ∃ rn, (lvL usX wrX sxF f.code R n).length = rn := ⟨_, rfl⟩;rw [hrn] at hrv hra;have hrn30 : rn ≤ 30 := by have := lvL_length usX wrX sxF f.code R n; omega
     have HCR : Hid (∀ wk, Q1 w5 LB N R (n + 1) rb (tkL f.code R n 0) wk ∨ True → Below w5.heap.size w5 wk → wk.cell? ⟨NB, n, none⟩ = some (.slice ra rn rc)) := fun wk _ hb => by rw [← hrv]; exact keep_cell hb (HRO.out.c n hin)
     have HRA := hidF hra;have hNB5 : NB < LB := by have := HRO.out.nb (by omega); have := HS5.out; omega
     have HRC : Hid (∀ (i : Nat) (x : Nat), (lvL usX wrX sxF f.code R n)[i]? = some x → w5.cell? ⟨rb2, ro + i, none⟩ = some (.int .i64 (x : Int))) := fun i x hx => hrc i x (by rw [up_get, hx]; rfl);have HRN := hidF hrn;clear hrv hra hrc hrn HQ1;go_wp2
     go_loopw [7] (fun v7 wk => ∃ k : Nat, k ≤ rn ∧ v7 = .int .i64 k ∧ Hid (Q1 w5 LB N R (n + 1) rb (tkL f.code R n k) wk)) (fun v7 _ => rn - (intOf v7).toNat)
     case atStart => exact ⟨0, by omega, rfl, HQ2⟩
     case round =>
      clear HQ2 c2 cl fl hLz;obtain ⟨k, hk, rfl, HQ⟩ := hrel
      rename World => wk
      have cr := HCR.out wk (.inr trivial) HQ.out.bel
      by_cases hkn : k < rn
      ·have k0 : (0 : Int) ≤ k := by omega
       have k1 : (k : Int) < rn := by omega
       have hgx := List.getElem?_eq_getElem (l := lvL usX wrX sxF f.code R n) (show k < (lvL usX wrX sxF f.code R n).length by rw [HRN.out]; exact hkn)
       generalize (lvL usX wrX sxF f.code R n)[k]'(by rw [HRN.out]; exact hkn) = x at hgx
       have hxR : x < R := (mem_lvL.1 (List.mem_of_getElem? hgx)).1;obtain rfl := HRA.out (by omega);have cx := keep_cell HQ.out.bel (HRC.out k x hgx);have HGX := hidF hgx;have c2 := keep_cell HQ.out.bel HD.out.2.2.1;have hrb2 : rb2 < LB := by have h5 : rb2 < w5.heap.size := block_lt_of_cell (HRC.out k x hgx); have := HS5.out; omega
       rcases k with _ | k'
       ·clear hgx
        have cx0 : wk.cell? ⟨rb2, ro, none⟩ = some (.int .i64 (x : Int)) := cx
        go_upto_region 16 with fail
        refine wp_calm ?_;refine le_r16a W.heap.size NB N n rb2 ro rn rc R x _ _ _ _ _ _ _ _ _ _ _ _ _ _ _ _ _ _ _ _ _ _ _ _ _ _ _ _ _ _ _ _ _ _ _ _ _ _ _ _ _ _ _ _ _ _ _ _ _ _ _ _ _ _ _ _ _ _ _ _ _ _ _ _ _ _ _ _ _ _ _ _ _ _ _ _ _ _ _ _ _ _ _ _ _ _ _ _ _ _ _ _ _ _ _ _ _ _ _ _ _ _ _ _ _ _ _ _ _ _ _ _ _ _ _ _ _ _ _ _ _ _ _ _ _ _ _ _ _ _ _ _ _ _ _ _ _ _ _ _ _ _ _ _ _ _ _ _ _ _ _ _ _ _ _ _ _ _ _ _ _ _ _ _ _ _ _ _ _ _ _ _ _ _ _ _ _ _ _ _ _ _ _ _ _ _ _ _ _ _ _ _ _ _ _ (fun c a dd v x h => by cases h.1) cr cx0 c2 hin hkn (by omega) hxR ?_;intro y63 y64 y65 y66 y67 y68 y69 y70 y71 y72 y73 y74 y75 y76 y77 y78 y79 y80 y81 y82 y83 y84 y85 y86 y87 y88 y89 y90 y91 y92 y93 y94 y95 y96 y97 y98 y99 y100 y101 y102 y103 W16 hw1 hw2 hw3 hw4 hw5;clear cx0 c2;refine ⟨rfl, ?_⟩;have HQ2 := hidF (HQ.out.same ⟨hw1, hw2, hw3, hw4, hw5⟩);have hbs : Below wk.heap.size wk W16 := SmH.bel ⟨hw1, hw2, hw3, hw4, hw5⟩;replace cr := keep_cell hbs cr;replace cx := keep_cell hbs cx;clear hw1 hw2 hw3 hw4 hw5 hbs;obtain ⟨hc18, hz18⟩ := HQ2.out.v n (by omega) x hxR;have hl18 := (HQ2.out.c n hin).1;rw [if_pos (by omega)] at hl18;have hrbn : rb n = LB + 1 + n := HRB.out n
        go_upto_region 18 with fail
        refine wp_calm ?_;refine le_r18 NB LB N n rb2 ro rn rc R x 0 (rb n) _ _ _ _ _ _ _ _ _ _ _ _ _ _ _ _ _ _ _ _ _ _ _ _ _ _ _ _ _ _ _ _ _ _ _ _ _ _ _ _ _ _ _ _ _ _ _ _ _ _ _ _ _ _ _ _ _ _ _ _ _ _ _ _ _ _ _ _ _ _ _ _ _ _ _ _ _ _ _ _ _ _ _ _ _ _ _ _ _ _ _ _ _ _ _ _ _ _ _ _ _ _ _ _ _ _ _ _ _ _ _ _ _ _ _ _ _ _ _ _ _ _ _ _ _ _ _ _ _ _ _ _ _ _ _ _ _ _ _ _ _ _ _ _ _ _ _ _ _ _ _ _ _ _ _ _ _ _ _ _ _ _ _ _ _ _ _ _ _ _ _ _ _ _ _ _ _ _ _ _ _ _ _ _ _ _ _ _ _ _ _ _ _ _ _ _ (fun c a dd v x h => by cases h.1) cr cx hl18 hc18 hz18 hin hkn hxR ⟨by omega, by omega, by omega⟩ ?_;intro y105 y106 y107 y108 y109 y110 y111 y112 y113 y114 y115 y116 W18 hw1 hw2 hw3 hw4 hw5;refine ⟨rfl, ?_⟩;have HQ3 : Hid (Q1 w5 LB N R (n + 1) rb (tkL f.code R n (0 + 1)) W18) := (HQ2.out.set HRB.out HS5.out (by omega) hxR (tkL_succ HGX.out)).same ⟨hw1, hw2, hw3, hw4, hw5⟩;clear hw1 hw2 hw3 hw4 hw5 hc18 hz18 hl18 cr cx hrbn;go_wp2
        go_roundw
        case rel => exact ⟨0 + 1, by omega, by simp, HQ3⟩
        case measure => simp [intOf]; omega
       ·have hgy := List.getElem?_eq_getElem (l := lvL usX wrX sxF f.code R n) (show k' < (lvL usX wrX sxF f.code R n).length by rw [HRN.out]; omega)
        generalize (lvL usX wrX sxF f.code R n)[k']'(by rw [HRN.out]; omega) = y at hgy
        have hyx : y < x := lvL_rise hgy hgx;have cy := keep_cell HQ.out.bel (HRC.out k' y hgy);obtain ⟨K, hKK⟩ : ∃ K, k' + 1 = K := ⟨_, rfl⟩;have HKK := hidF hKK.symm;rw [hKK] at cx hkn k0 k1 hk HQ HGX;rw [hKK];clear hgx hgy hKK
        go_upto_region 16 with fail
        refine wp_calm ?_;refine le_r16b W.heap.size NB N n rb2 ro rn rc R x y k' K _ _ _ _ _ _ _ _ _ _ _ _ _ _ _ _ _ _ _ _ _ _ _ _ _ _ _ _ _ _ _ _ _ _ _ _ _ _ _ _ _ _ _ _ _ _ _ _ _ _ _ _ _ _ _ _ _ _ _ _ _ _ _ _ _ _ _ _ _ _ _ _ _ _ _ _ _ _ _ _ _ _ _ _ _ _ _ _ _ _ _ _ _ _ _ _ _ _ _ _ _ _ _ _ _ _ _ _ _ _ _ _ _ _ _ _ _ _ _ _ _ _ _ _ _ _ _ _ _ _ _ _ _ _ _ _ _ _ _ _ _ _ _ _ _ _ _ _ _ _ _ _ _ _ _ _ _ _ _ _ _ _ _ _ _ _ _ _ _ _ _ _ _ _ _ _ _ _ _ _ _ _ _ _ _ _ _ _ _ _ _ _ _ _ _ (fun c a dd v x h => by cases h.1) cr cx c2 cy hyx HKK hin hkn (by omega) hxR ?_;intro y63 y64 y65 y66 y67 y68 y69 y70 y71 y72 y73 y74 y75 y76 y77 y78 y79 y80 y81 y82 y83 y84 y85 y86 y87 y88 y89 y90 y91 y92 y93 y94 y95 y96 y97 y98 y99 y100 y101 y102 y103 W16 hw1 hw2 hw3 hw4 hw5;clear cy c2 hyx;refine ⟨rfl, ?_⟩;have HQ2 := hidF (HQ.out.same ⟨hw1, hw2, hw3, hw4, hw5⟩);have hbs : Below wk.heap.size wk W16 := SmH.bel ⟨hw1, hw2, hw3, hw4, hw5⟩;replace cr := keep_cell hbs cr;replace cx := keep_cell hbs cx;clear hw1 hw2 hw3 hw4 hw5 hbs;obtain ⟨hc18, hz18⟩ := HQ2.out.v n (by omega) x hxR;have hl18 := (HQ2.out.c n hin).1;rw [if_pos (by omega)] at hl18;have hrbn : rb n = LB + 1 + n := HRB.out n
        go_upto_region 18 with fail
        refine wp_calm ?_;refine le_r18 NB LB N n rb2 ro rn rc R x K (rb n) _ _ _ _ _ _ _ _ _ _ _ _ _ _ _ _ _ _ _ _ _ _ _ _ _ _ _ _ _ _ _ _ _ _ _ _ _ _ _ _ _ _ _ _ _ _ _ _ _ _ _ _ _ _ _ _ _ _ _ _ _ _ _ _ _ _ _ _ _ _ _ _ _ _ _ _ _ _ _ _ _ _ _ _ _ _ _ _ _ _ _ _ _ _ _ _ _ _ _ _ _ _ _ _ _ _ _ _ _ _ _ _ _ _ _ _ _ _ _ _ _ _ _ _ _ _ _ _ _ _ _ _ _ _ _ _ _ _ _ _ _ _ _ _ _ _ _ _ _ _ _ _ _ _ _ _ _ _ _ _ _ _ _ _ _ _ _ _ _ _ _ _ _ _ _ _ _ _ _ _ _ _ _ _ _ _ _ _ _ _ _ _ _ _ _ _ (fun c a dd v x h => by cases h.1) cr cx hl18 hc18 hz18 hin hkn hxR ⟨by omega, by omega, by omega⟩ ?_;intro y105 y106 y107 y108 y109 y110 y111 y112 y113 y114 y115 y116 W18 hw1 hw2 hw3 hw4 hw5;refine ⟨rfl, ?_⟩;have HQ3 : Hid (Q1 w5 LB N R (n + 1) rb (tkL f.code R n (K + 1)) W18) := (HQ2.out.set HRB.out HS5.out (by omega) hxR (tkL_succ HGX.out)).same ⟨hw1, hw2, hw3, hw4, hw5⟩;clear hw1 hw2 hw3 hw4 hw5 hc18 hz18 hl18 cr cx hrbn;go_wp2
        go_roundw
        case rel => exact ⟨K + 1, by omega, by simp, HQ3⟩
        case measure => simp [intOf]; omega
      ·obtain rfl : rn = k := by omega
       have HQN : Hid (Q1 w5 LB N R (n + 1) rb (tkL f.code R (n + 1) 0) wk) := HQ.out.ext (fun j r hj => by rw [← HRN.out]; exact tkL_full f.code R n j r hj);go_wp2
       go_roundw
       case rel => exact ⟨n + 1, by omega, by simp, HQN⟩
       case measure => simp [intOf]; omega
    ·obtain rfl : N = n := by omega
     have HTB : Hid (TB w5.heap.size LB N R rb (ttL f.code R) wz) := (HQ1.out.ext (fun j r hj => tkL_lt hj)).tb HRB.out HS5.out;have HB6 := hidF HQ1.out.bel;clear HQ1
     have HD6 : Hid (wz.cell? ⟨W.heap.size, 0, none⟩ = some (.string f.name) ∧ wz.cell? ⟨W.heap.size, 1, none⟩ = some (.slice pa pn pc) ∧ wz.cell? ⟨W.heap.size, 2, none⟩ = some (.int .i64 (R : Int)) ∧ wz.cell? ⟨W.heap.size, 3, none⟩ = some (.int .i64 f.frame) ∧ wz.cell? ⟨W.heap.size, 4, none⟩ = some (.int .i64 f.entry) ∧ wz.cell? ⟨W.heap.size, 5, none⟩ = some (.slice ca N cap)) := by
      obtain ⟨d0, d1, d2, d3, d4, d5⟩ := HD.out;exact ⟨keep_cell HB6.out d0, keep_cell HB6.out d1, keep_cell HB6.out d2, keep_cell HB6.out d3, keep_cell HB6.out d4, keep_cell HB6.out d5⟩
     have hLz : LB < wz.heap.size ∨ N = 0 := by
      rcases Nat.eq_zero_or_pos N with h | h
      ·exact .inr h
      ·exact .inl (block_lt_of_cell (HTB.out.c 0 h))
     have HWZ : Hid (Below W.heap.size W wz) := bel_trans HB5.out HB6.out;clear HD HB6 HRO;go_wp2
     go_loopw [8] (fun v8 wn => ∃ n : Nat, n ≤ N ∧ v8 = .int .i64 n ∧ Hid (Below wz.heap.size wz wn)) (fun v8 _ => N - (intOf v8).toNat)
     case atStart => exact ⟨0, by omega, rfl, Below.refl _ _⟩
     case round =>
      obtain ⟨n, hn, rfl, HBn⟩ := hrel
      rename World => wn
      by_cases hin : n < N
      ·have n0 : (0 : Int) ≤ n := by omega
       have n1 : (n : Int) < N := by omega
       have hget := List.getElem?_eq_getElem (l := f.code) (show n < f.code.length by rw [HNN.out]; exact hin)
       generalize f.code[n]'(by rw [HNN.out]; exact hin) = xi at hget
       have hm := List.mem_of_getElem? hget;obtain rfl := HCA.out (by omega);have hbn : Below W.heap.size W wn := bel_trans HWZ.out HBn.out;obtain ⟨v, hil, e0, e1, e2, e3, e4, e5, e6, e7, e8⟩ := HIN.out wn hbn n xi hget;obtain ⟨va, vc, rfl, _⟩ := hil.partsF;obtain ⟨vn, hvn⟩ : ∃ vn, xi.args.length = vn := ⟨_, rfl⟩;rw [hvn] at hil e6;have HIL := hidF hil;have HINn := hidF (HIN.out wn hbn n xi hget);have HSXX : Hid (∀ y ∈ sxF xi, 0 ≤ y ∧ y < N) := by have h := HOK.out.sx xi hm; rw [HNN.out] at h; exact h
       have HFIX : Hid (∀ r, r < R → ttL f.code R n r = ((usR xi).contains (r : Int) || (anyF (ttL f.code R) (sxF xi) r && (writesF xi.op xi.d != (r : Int))))) := fun r hr => lv_fix HNN.out (by have h := HOK.out.sx; rw [HNN.out] at h; exact h) HEQ.out hr hget;obtain ⟨g0, g1, g2, g3, g4, g5⟩ := HD6.out;replace g0 := keep_cell HBn.out g0;replace g1 := keep_cell HBn.out g1;replace g2 := keep_cell HBn.out g2;replace g3 := keep_cell HBn.out g3;replace g4 := keep_cell HBn.out g4;replace g5 := keep_cell HBn.out g5;have HTn := hidF (HTB.out.below HBn.out);have hLn : LB < wn.heap.size := by have := HBn.out.size; omega
       have HBH := hidF (Behind_walk wn f.name pa pn pc f.frame f.entry R N cap cb co LB w5.heap.size n _ xi rb (ttL f.code R) (by omega) (by omega) hin rfl HINn HTn (hidF hLn) HSXX);clear hget hm hbn hil hvn
       go_upto_region 23 with (go_at_call 12; refine HBH.out.mono ?_; rintro e w7 ⟨ob, rfl, ho1, ho2, ho3, ho4, hb7⟩)
       have HOB := hidF (And.intro ho1 (And.intro ho2 ho3));have HB7 := hidF (bel_trans HBn.out hb7);have HB7n := hidF hb7;replace e0 := keep_cell hb7 e0;replace e1 := keep_cell hb7 e1;replace e2 := keep_cell hb7 e2;replace e3 := keep_cell hb7 e3;replace e4 := keep_cell hb7 e4;replace e5 := keep_cell hb7 e5;replace e6 := keep_cell hb7 e6;replace e7 := keep_cell hb7 e7;replace e8 := keep_cell hb7 e8;replace g0 := keep_cell hb7 g0;replace g1 := keep_cell hb7 g1;replace g2 := keep_cell hb7 g2;replace g3 := keep_cell hb7 g3;replace g4 := keep_cell hb7 g4;replace g5 := keep_cell hb7 g5;clear ho1 ho2 ho3 ho4 hb7 HBH HBn HTn
       go_upto_region 24 with (go_at_call 13; refine (rUses_any xi.op xi.sub xi.a xi.b xi.d xi.k (.slice va vn vc) xi.args xi.s xi.t w7 (HIL.out.of2 (fun b o s n c e h => HB7n.out.block b h))).mono ?_; rintro e w8 ⟨uv, rfl, hul, hb8⟩)
       obtain ⟨ua, uc, ub, uo, rfl, hu8, hua, huc⟩ := hul.parts;obtain ⟨ul, hulq⟩ : ∃ ul, usR xi = ul := ⟨_, rfl⟩;have hulq2 : usesF xi.op xi.a xi.b xi.args = ul := hulq;rw [hulq2] at hua huc hu8;rw [hulq2];rw [hulq] at HFIX;obtain ⟨un, hun⟩ : ∃ un, ul.length = un := ⟨_, rfl⟩;rw [hun] at hua hu8;rw [hun];have HUA := hidF hua;have HUC := hidF huc;have HUN := hidF hun;have HB8 := hidF (bel_trans HB7.out hb8);have HOM : Hid (MetAt w8 ob R (anyF (ttL f.code R) (sxF xi))) := HOB.out.2.2.of (hb8.block ob HOB.out.2.1);replace e0 := keep_cell hb8 e0;replace e1 := keep_cell hb8 e1;replace e2 := keep_cell hb8 e2;replace e3 := keep_cell hb8 e3;replace e4 := keep_cell hb8 e4;replace e5 := keep_cell hb8 e5;replace e6 := keep_cell hb8 e6;replace e7 := keep_cell hb8 e7;replace e8 := keep_cell hb8 e8;replace g2 := keep_cell hb8 g2;replace g5 := keep_cell hb8 g5;have HG := hidF (And.intro g2 (And.intro g5 (And.intro e0 (And.intro e1 (And.intro e2 (And.intro e3 (And.intro e4 (And.intro e5 (And.intro e6 (And.intro e7 e8))))))))));have HT8 := hidF (HTB.out.below HB8.out);obtain ⟨ot, hot⟩ : ∃ ot, anyF (ttL f.code R) (sxF xi) = ot := ⟨_, rfl⟩;rw [hot] at HOM HFIX;obtain ⟨wv, hwv⟩ : ∃ wv, writesF xi.op xi.d = wv := ⟨_, rfl⟩;rw [hwv] at HFIX;have HWC : Hid (∀ W, Calls prog 14 #[insV xi.op xi.sub xi.a xi.b xi.d xi.k (.slice va vn vc) xi.s xi.t] W (retP (.int .i64 wv) W)) := fun W => by rw [← hwv]; exact rWrites_any xi.op xi.sub xi.a xi.b xi.d xi.k (.slice va vn vc) xi.s xi.t W
       clear hul hb8 hua huc hun hulq hulq2 HB7 HB7n HOB HIL HINn g0 g1 g2 g3 g4 g5 e0 e1 e2 e3 e4 e5 e6 e7 e8 hot hwv HSXX;go_wp2
       go_loopw [11] (fun v11 wr => ∃ r : Nat, r ≤ R ∧ v11 = .int .i64 r ∧ Hid (Below w8.heap.size w8 wr)) (fun v11 _ => R - (intOf v11).toNat)
       case atStart => exact ⟨0, by omega, rfl, Below.refl _ _⟩
       case round =>
        obtain ⟨r, hr, rfl, HBr⟩ := hrel
        rename World => wr
        have c2 := keep_cell HBr.out HG.out.1
        by_cases hrR : r < R
        ·have r0 : (0 : Int) ≤ r := by omega
         have r1 : (r : Int) < R := by omega
         go_wp2
         go_loopw [12, 13] (fun v12 v13 wq => ∃ k : Nat, k ≤ un ∧ v13 = .int .i64 k ∧ v12 = .bool ((ul.take k).contains (r : Int)) ∧ wq = wr) (fun _ v13 _ => un - (intOf v13).toNat)
         case atStart => exact ⟨0, by omega, rfl, by simp, rfl⟩
         case round =>
          obtain ⟨k, hk, rfl, rfl, hwq⟩ := hrel;replace hwq := hwq.symm;subst hwq
          by_cases hkn : k < un
          ·have k0 : (0 : Int) ≤ k := by omega
           have k1 : (k : Int) < un := by omega
           have hg := List.getElem?_eq_getElem (l := ul) (show k < ul.length by rw [HUN.out]; exact hkn)
           generalize ul[k]'(by rw [HUN.out]; exact hkn) = y at hg
           obtain rfl := HUA.out (by omega);have cu := keep_cell HBr.out (HUC.out k y hg)
           have HTK : Hid ((ul.take (k + 1)).contains (r : Int) = ((ul.take k).contains (r : Int) || (y == (r : Int)))) := by
            show _ = _
            rw [List.take_add_one, hg]
            by_cases hyr : y = (r : Int)
            ·simp [hyr]
            ·have : ¬ (r : Int) = y := fun e => hyr e.symm
             simp [hyr, this]
           clear hg
           cases hq : (ul.take k).contains (r : Int) with
           | true =>
            rw [hq] at HTK;clear hq;go_wp2
            go_roundw
            case rel => exact ⟨k + 1, by omega, by simp, by rw [HTK.out]; simp, by first | trivial | rfl⟩
            case measure => simp [intOf]; omega
           | false =>
            rw [hq] at HTK;clear hq
            by_cases hyr : y = (r : Int)
            ·rw [hyr] at cu HTK
             clear hyr;go_wp2
             go_roundw
             case rel => exact ⟨k + 1, by omega, by simp, by rw [HTK.out]; simp, by first | trivial | rfl⟩
             case measure => simp [intOf]; omega
            ·have q1 : (y == (r : Int)) = false := by simpa using hyr
             have q2 : decide (y = (r : Int)) = false := by simpa using hyr
             rw [q1] at HTK;go_wp2
             go_roundw
             case rel => exact ⟨k + 1, by omega, by simp, by rw [HTK.out]; simp, by first | trivial | rfl⟩
             case measure => simp [intOf]; omega
          ·obtain rfl : un = k := by omega
           have htk : ul.take un = ul := by rw [← HUN.out, List.take_length]
           rw [htk];clear htk;have ct := (HT8.out.below HBr.out).c n hin;have cv := ((HT8.out.below HBr.out).v n hin r hrR).1;have cq := (HOM.out.of (HBr.out.block ob (by have h : ob < w8.heap.size := block_lt_of_cell (HOM.out r hrR).1; exact h)) r hrR).1;have hfix := HFIX.out r hrR;have HG2 := hidF (And.intro HG.out HBr.out)
           cases hrd : ul.contains (r : Int) with
           | true =>
            rw [hrd] at hfix;rw [show ttL f.code R n r = true by rw [hfix]; rfl] at cv;clear hfix hrd c2
            go_upto_region 32 with fail
            refine wp_calm ?_;refine le_r32a W.heap.size LB N n ob R r (rb n) _ _ _ _ _ _ _ _ _ _ _ _ _ _ _ _ _ _ _ _ _ _ _ _ _ _ _ _ _ _ _ _ _ _ _ _ _ _ _ _ _ _ _ _ _ _ _ _ _ _ _ _ _ _ _ _ _ _ _ _ _ _ _ _ _ _ _ _ _ _ _ _ _ _ _ _ _ _ _ _ _ _ _ _ _ _ _ _ _ _ _ _ _ _ _ _ _ _ _ _ _ _ _ _ _ _ _ _ _ _ _ _ _ _ _ _ _ _ _ _ _ _ _ _ _ _ _ _ _ _ _ _ _ _ _ _ _ _ _ _ _ _ _ _ _ _ _ _ _ _ _ _ _ _ _ _ _ _ _ _ _ _ _ _ _ _ _ _ _ _ _ _ _ _ _ _ _ _ _ _ _ _ _ _ _ _ _ _ _ _ _ _ _ (fun c a dd v x h => by cases h.1) ct cv hin hrR ?_;intro y154 y155 y156 y157 y158 y159 y160 y161 y162 y163 y164 y165 y166 y167 y168 y169 y170 y171 y172 y173 y174 y175 y176 y177 W32 hw1 hw2 hw3 hw4 hw5;refine ⟨rfl, ?_⟩;have HBN := hidF (bel_trans HBr.out (SmH.bel ⟨hw1, hw2, hw3, hw4, hw5⟩));clear hw1 hw2 hw3 hw4 hw5 ct cv cq;go_wp2
            go_roundw
            case rel => exact ⟨r + 1, by omega, by simp, HBN⟩
            case measure => simp [intOf]; omega
           | false =>
            rw [hrd] at hfix
            cases hou : ot r with
            | false =>
             rw [hou] at hfix cq;rw [show ttL f.code R n r = false by rw [hfix]; rfl] at cv;clear hfix hrd hou c2
             go_upto_region 32 with fail
             refine wp_calm ?_;refine le_r32b W.heap.size LB N n ob R r (rb n) _ _ _ _ _ _ _ _ _ _ _ _ _ _ _ _ _ _ _ _ _ _ _ _ _ _ _ _ _ _ _ _ _ _ _ _ _ _ _ _ _ _ _ _ _ _ _ _ _ _ _ _ _ _ _ _ _ _ _ _ _ _ _ _ _ _ _ _ _ _ _ _ _ _ _ _ _ _ _ _ _ _ _ _ _ _ _ _ _ _ _ _ _ _ _ _ _ _ _ _ _ _ _ _ _ _ _ _ _ _ _ _ _ _ _ _ _ _ _ _ _ _ _ _ _ _ _ _ _ _ _ _ _ _ _ _ _ _ _ _ _ _ _ _ _ _ _ _ _ _ _ _ _ _ _ _ _ _ _ _ _ _ _ _ _ _ _ _ _ _ _ _ _ _ _ _ _ _ _ _ _ _ _ _ _ _ _ _ _ _ _ _ _ (fun c a dd v x h => by cases h.1) ct cv cq hin hrR ?_;intro y154 y155 y156 y157 y158 y159 y160 y161 y162 y163 y164 y165 y166 y167 y168 y169 y170 y171 y172 y173 y174 y175 y176 y177 W32 hw1 hw2 hw3 hw4 hw5;refine ⟨rfl, ?_⟩;have HBN := hidF (bel_trans HBr.out (SmH.bel ⟨hw1, hw2, hw3, hw4, hw5⟩));clear hw1 hw2 hw3 hw4 hw5 ct cv cq;go_wp2
             go_roundw
             case rel => exact ⟨r + 1, by omega, by simp, HBN⟩
             case measure => simp [intOf]; omega
            | true =>
             rw [hou] at hfix cq;obtain ⟨_, h5, e0, e1, e2, e3, e4, e5, e6, e7, e8⟩ := HG.out
             cases hwq : (wv != (r : Int)) with
             | true =>
              rw [hwq] at hfix;rw [show ttL f.code R n r = true by rw [hfix]; rfl] at cv;clear hfix hrd hou c2
              go_upto_region 32 with fail
              refine wp_calm ?_;refine le_r32t W.heap.size LB N n ob R r (rb n) cb co cap vn vc va xi wv HWC hwq _ _ _ _ _ _ _ _ _ _ _ _ _ _ _ _ _ _ _ _ _ _ _ _ _ _ _ _ _ _ _ _ _ _ _ _ _ _ _ _ _ _ _ _ _ _ _ _ _ _ _ _ _ _ _ _ _ _ _ _ _ _ _ _ _ _ _ _ _ _ _ _ _ _ _ _ _ _ _ _ _ _ _ _ _ _ _ _ _ _ _ _ _ _ _ _ _ _ _ _ _ _ _ _ _ _ _ _ _ _ _ _ _ _ _ _ _ _ _ _ _ _ _ _ _ _ _ _ _ _ _ _ _ _ _ _ _ _ _ _ _ _ _ _ _ _ _ _ _ _ _ _ _ _ _ _ _ _ _ _ _ _ _ _ _ _ _ _ _ _ _ _ _ _ _ _ _ _ _ _ _ _ _ _ _ _ _ _ _ _ _ _ _ (fun c a dd v x h => by cases h.1) ct cv cq (keep_cell HBr.out h5) (keep_cell HBr.out e0) (keep_cell HBr.out e1) (keep_cell HBr.out e2) (keep_cell HBr.out e3) (keep_cell HBr.out e4) (keep_cell HBr.out e5) (keep_cell HBr.out e6) (keep_cell HBr.out e7) (keep_cell HBr.out e8) hin hrR ?_;intro y154 y155 y156 y157 y158 y159 y160 y161 y162 y163 y164 y165 y166 y167 y168 y169 y170 y171 y172 y173 y174 y175 y176 y177 W32 hw1;refine ⟨rfl, ?_⟩;have HBN := hidF (bel_trans HBr.out hw1);clear hw1 ct cv cq h5 e0 e1 e2 e3 e4 e5 e6 e7 e8 hwq;go_wp2
              go_roundw
              case rel => exact ⟨r + 1, by omega, by simp, HBN⟩
              case measure => simp [intOf]; omega
             | false =>
              rw [hwq] at hfix;rw [show ttL f.code R n r = false by rw [hfix]; rfl] at cv;clear hfix hrd hou c2
              go_upto_region 32 with fail
              refine wp_calm ?_;refine le_r32f W.heap.size LB N n ob R r (rb n) cb co cap vn vc va xi wv HWC hwq _ _ _ _ _ _ _ _ _ _ _ _ _ _ _ _ _ _ _ _ _ _ _ _ _ _ _ _ _ _ _ _ _ _ _ _ _ _ _ _ _ _ _ _ _ _ _ _ _ _ _ _ _ _ _ _ _ _ _ _ _ _ _ _ _ _ _ _ _ _ _ _ _ _ _ _ _ _ _ _ _ _ _ _ _ _ _ _ _ _ _ _ _ _ _ _ _ _ _ _ _ _ _ _ _ _ _ _ _ _ _ _ _ _ _ _ _ _ _ _ _ _ _ _ _ _ _ _ _ _ _ _ _ _ _ _ _ _ _ _ _ _ _ _ _ _ _ _ _ _ _ _ _ _ _ _ _ _ _ _ _ _ _ _ _ _ _ _ _ _ _ _ _ _ _ _ _ _ _ _ _ _ _ _ _ _ _ _ _ _ _ _ _ (fun c a dd v x h => by cases h.1) ct cv cq (keep_cell HBr.out h5) (keep_cell HBr.out e0) (keep_cell HBr.out e1) (keep_cell HBr.out e2) (keep_cell HBr.out e3) (keep_cell HBr.out e4) (keep_cell HBr.out e5) (keep_cell HBr.out e6) (keep_cell HBr.out e7) (keep_cell HBr.out e8) hin hrR ?_;intro y154 y155 y156 y157 y158 y159 y160 y161 y162 y163 y164 y165 y166 y167 y168 y169 y170 y171 y172 y173 y174 y175 y176 y177 W32 hw1;refine ⟨rfl, ?_⟩;have HBN := hidF (bel_trans HBr.out hw1);clear hw1 ct cv cq h5 e0 e1 e2 e3 e4 e5 e6 e7 e8 hwq;go_wp2
              go_roundw
              case rel => exact ⟨r + 1, by omega, by simp, HBN⟩
              case measure => simp [intOf]; omega
        ·obtain rfl : R = r := by omega
         have HBN := hidF (bel_trans HB8.out HBr.out);go_wp2
         go_roundw
         case rel => exact ⟨n + 1, by omega, by simp, HBN⟩
         case measure => simp [intOf]; omega
      ·obtain rfl : N = n := by omega
       have HBX := hidF (bel_trans HWZ.out HBn.out);go_wp2;go_ret;exact ⟨rfl, HBX.out⟩
end Go.Proofs.YtfeglcpipcjaeaaGreatDoor
