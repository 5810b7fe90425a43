import Derived.Test.YtlonbaefdffbeaaGreatDoorATyp2
namespace Go.Proofs.YtlonbaefdffbeaaGreatDoor
open Go.ChangeShapes Go.WideShapes Go.ChangeAt Go.RowKit Go.Proofs.Tryz
set_option linter.unusedSimpArgs false
set_option linter.unusedVariables false
set_option maxHeartbeats 4000000

theorem TwTab.chg {PB : Nat} {w W : World} (h : TwTab w) (hc : Chg PB w W) (hP : 2 ≠ PB) : TwTab W := by
 have h0 := h.tw 0 (by omega);have hl : 2 < w.heap.size := block_lt_of_cell (a := ⟨2, 0, none⟩) h0;exact h.keep (fun k hk => by subst hk; exact hc.block _ hl hP)
theorem beginF_lt (c : PC) (s : PSt) (n : Nat) (h : beginF c s n = true) : s.e = 0 ∧ n < c.ws.length := by
 unfold beginF at h
 split at h
 ·rename_i h0
  refine ⟨h0, ?_⟩
  by_cases hn : n < c.ws.length
  ·exact hn
  ·rw [List.getElem?_eq_none (by omega)] at h
   cases h
 ·cases h
theorem typ_any (c : PC) (s : PSt) (w : World) (hp : PAt w c s) (ht : TwTab w) (hT : 2 ≠ c.PB) : Calls prog 61 #[.pointer (some ⟨c.PB, 0, none⟩)] w (retSh c (typF c s).2 (typF c s).1 w) := by
 have PL := hp.lt;have w9 : (c.ws.length : Int) ≤ 65536 := by have := hp.wds.lim; omega
 have i0 : (0 : Int) ≤ (s.i : Int) := by omega
 have gz : w.heap.size ≠ c.PB := by omega
 have gz3 : c.PB ≠ w.heap.size := by omega
 have hA : Below w.heap.size w (w.alloc (.cells #[.string ⟨#[]⟩, .int .i64 0, .bool false, .int .i64 0] 85)) := bel_alloc (Below.refl _ _) _;have HP : Hid (PAt w c s) := hp;have p3 := hp.c3;have HPA : Hid (PAt (w.alloc (.cells #[.string ⟨#[]⟩, .int .i64 0, .bool false, .int .i64 0] 85)) c s) := hp.below hA;have HBG : Hid (Calls prog 90 #[.pointer (some ⟨c.PB, 0, none⟩), .int .i64 (s.i : Int)] (w.alloc (.cells #[.string ⟨#[]⟩, .int .i64 0, .bool false, .int .i64 0] 85)) (fun e W => e = .returned (.bool (beginF c s s.i)) ∧ W = (w.alloc (.cells #[.string ⟨#[]⟩, .int .i64 0, .bool false, .int .i64 0] 85)))) := begins_any c s s.i _ (hp.below hA) (ht.chg (.of hA) hT) (by have := hp.lim; have := hp.wds.lim; omega);have HA : Hid (Chg c.PB w (w.alloc (.cells #[.string ⟨#[]⟩, .int .i64 0, .bool false, .int .i64 0] 85))) := .of hA;have hz0 : (w.alloc (.cells #[.string ⟨#[]⟩, .int .i64 0, .bool false, .int .i64 0] 85)).heap[w.heap.size]? = some (.cells #[.string ⟨#[]⟩, .int .i64 0, .bool false, .int .i64 0] 85 (0, 0)) := World.alloc_heap_new w _;have HZ0 : Hid ((w.alloc (.cells #[.string ⟨#[]⟩, .int .i64 0, .bool false, .int .i64 0] 85)).heap[w.heap.size]? = some (.cells #[.string ⟨#[]⟩, .int .i64 0, .bool false, .int .i64 0] 85 (0, 0))) := hz0
 cases hbg : beginF c s s.i with
 | false =>
  rw [hbg] at HBG;have e1 : typF c s = (noSh, refuseF c s) := by unfold typF; rw [hbg, if_neg (by decide)]
  rw [e1];have HR : Hid (∀ W, PAt W c s → Calls prog 91 #[pp c] W (pret (.tuple #[]) c (refuseF c s) W)) := fun W h => refuse_any c s W h;obtain ⟨s1, hs1⟩ : ∃ s1, refuseF c s = s1 := ⟨_, rfl⟩;rw [hs1] at HR ⊢;clear hp ht hA hz0 hbg e1 hs1
  go_enter func61, ntmps61
  go_wp2_with fail
  refine HBG.out.mono ?_;rintro e w1 ⟨rfl, rfl⟩;dsimp only;go_wp2_with fail
  refine (HR.out _ HPA.out).mono ?_;rintro e w2 ⟨rfl, hp2, hg2⟩;have HP2 : Hid (PAt w2 c s1) := hp2;have HG2 : Hid (Chg c.PB w w2) := HA.out.trans hg2;have b1 : w2.heap[w.heap.size]? = some (.cells #[.string ⟨#[]⟩, .int .i64 0, .bool false, .int .i64 0] 85 (0, 0)) := zero_blk HZ0.out hg2 gz;have l1 : w.heap.size < w2.heap.size := (zge b1).1;have r0 : w2.cell? ⟨w.heap.size, 0, none⟩ = some (.string ⟨#[]⟩) := heap_cell b1 (by simp);have gr0 : w2.frozen? ⟨w.heap.size, 0, none⟩ = false := heap_frozen b1;have r1 : w2.cell? ⟨w.heap.size, 1, none⟩ = some (.int .i64 0) := heap_cell b1 (by simp);have gr1 : w2.frozen? ⟨w.heap.size, 1, none⟩ = false := heap_frozen b1;have r2 : w2.cell? ⟨w.heap.size, 2, none⟩ = some (.bool false) := heap_cell b1 (by simp);have gr2 : w2.frozen? ⟨w.heap.size, 2, none⟩ = false := heap_frozen b1;have r3 : w2.cell? ⟨w.heap.size, 3, none⟩ = some (.int .i64 0) := heap_cell b1 (by simp);have gr3 : w2.frozen? ⟨w.heap.size, 3, none⟩ = false := heap_frozen b1;clear hp2 hg2 b1;dsimp only;go_wp2;refine end_Sh (t := noSh) ?hr ?hd ?hp ?hb
  case hr => simp [results, results61, go_sem, r0, r1, r2, r3, shV, l1, noSh]
  case hd => rfl
  case hp => exact HP.out.over HP2.out (by intro k hk; (repeat (first | with_reducible rfl | with_reducible refine (heap_set_other (by omega)).trans ?_ | refine (Below.heap_alloc _ _ k (by first | omega | (simp only [size_set, World.size_alloc]; omega))).trans ?_)))
  case hb => (have hg := HG2.out; (repeat (first | with_reducible exact Chg.refl _ _ | with_reducible assumption | with_reducible exact HG.out | with_reducible refine Chg.alloc ?_ _ | with_reducible refine Chg.drew ?_ | with_reducible refine Chg.drewN ?_ _ | with_reducible refine Chg.set ?_ _ _ | with_reducible refine Chg.setNew ?_ (by first | exact Nat.le_refl _ | (simp; done) | (simp; omega)) _ _)))
 | true =>
  rw [hbg] at HBG;have e1 : typF c s = (⟨(baseF c s).1, (starsOf c (baseF c s).2 0).1, false, 0⟩, (starsOf c (baseF c s).2 0).2) := by unfold typF; rw [hbg, if_pos rfl]
  rw [e1];have hlt := beginF_lt c s s.i hbg;have i1 : (s.i : Int) < (c.ws.length : Int) := by omega
  have HI : Hid (s.i + 1 ≤ c.ws.length) := hlt.2;have HW : Hid (∀ W, PAt W c s → Calls prog 60 #[pp c] W (retWd (wordF c s) W)) := fun W h => word_any c s W h;have hxs := wordF_siz hp.wds s;obtain ⟨R, hR⟩ : ∃ R, starsOf c (baseF c s).2 0 = R := ⟨_, rfl⟩;rw [hR];obtain ⟨bb, hbb⟩ : ∃ bb, (baseF c s).1 = bb := ⟨_, rfl⟩;rw [hbb]
  cases hst : ((wordF c s).s.toList == (⟨#[115, 116, 114, 117, 99, 116]⟩ : ByteArray).toList) with
  | false =>
   have eb : baseF c s = ((wordF c s).s, { s with i := s.i + 1 }) := by unfold baseF; rw [hst, if_neg (by decide)]
   rw [eb] at hR hbb;obtain ⟨x, hx⟩ : ∃ x, wordF c s = x := ⟨_, rfl⟩;rw [hx] at HW hst hxs hbb;have HBB : Hid (x.s = bb) := hbb;clear hbb;have hst2 : (x.s.toList == [115, 116, 114, 117, 99, 116]) = false := by rw [ByteArray.toList_eq] at hst ⊢; rw [ByteArray.toList_eq] at hst; exact hst
   have fs := field_s x.k x.n x.pl x.pc x.s;obtain ⟨s1, hs1⟩ : ∃ s1 : PSt, { s with i := s.i + 1 } = s1 := ⟨_, rfl⟩;rw [hs1] at hR;have HR : Hid (starsOf c s1 0 = R) := hR;have HS1 : Hid ({ s with i := s.i + 1 } = s1) := hs1;clear hs1 hp ht hA hz0 hbg e1 hx hlt hR eb
   go_enter func61, ntmps61
   go_wp2_with fail
   refine HBG.out.mono ?_;rintro e w0 ⟨rfl, rfl⟩;dsimp only;go_wp2_with fail
   refine (HW.out _ HPA.out).mono ?_;rintro e w1 ⟨rfl, hb1⟩;have HP1 : Hid (PAt w1 c s) := HPA.out.below hb1;have HG1 : Hid (Chg c.PB w w1) := HA.out.trans (.of hb1);have c2 : w1.heap[w.heap.size]? = some (.cells #[.string ⟨#[]⟩, .int .i64 0, .bool false, .int .i64 0] 85 (0, 0)) := (hb1.block _ (by simp)).trans HZ0.out;have HC2 : Hid (w1.heap[w.heap.size]? = some (.cells #[.string ⟨#[]⟩, .int .i64 0, .bool false, .int .i64 0] 85 (0, 0))) := c2;have lH1 : w.heap.size < w1.heap.size := (zge c2).1;have gB : w1.heap.size ≠ c.PB := by omega
   have gB2 : c.PB ≠ w1.heap.size := by omega
   have hBH : w1.heap.size ≠ w.heap.size := by omega
   have hHB : w.heap.size ≠ w1.heap.size := by omega
   have p0 := HP1.out.c0;have p1 := HP1.out.c1;have p2 := HP1.out.c2;have p3 := HP1.out.c3;have p4 := HP1.out.c4;have p5 := HP1.out.c5;have p6 := HP1.out.c6;have p7 := HP1.out.c7;have p8 := HP1.out.c8;have p9 := HP1.out.c9;have fz := HP1.out.fz;have PL1 := HP1.out.lt;clear hb1 c2;dsimp only;go_wp2
   have HX : Hid (PAt ((w1.setCell ⟨c.PB, 3, none⟩ (.int .i64 ((s.i : Int) + 1))).alloc (.cells #[.string x.s, .int .i64 0, .bool false, .int .i64 0] 85)) c s1 ∧ Chg c.PB w ((w1.setCell ⟨c.PB, 3, none⟩ (.int .i64 ((s.i : Int) + 1))).alloc (.cells #[.string x.s, .int .i64 0, .bool false, .int .i64 0] 85)) ∧ ((w1.setCell ⟨c.PB, 3, none⟩ (.int .i64 ((s.i : Int) + 1))).alloc (.cells #[.string x.s, .int .i64 0, .bool false, .int .i64 0] 85)).heap[w1.heap.size]? = some (.cells #[.string x.s, .int .i64 0, .bool false, .int .i64 0] 85 (0, 0)) ∧ ((w1.setCell ⟨c.PB, 3, none⟩ (.int .i64 ((s.i : Int) + 1))).alloc (.cells #[.string x.s, .int .i64 0, .bool false, .int .i64 0] 85)).heap[w.heap.size]? = some (.cells #[.string ⟨#[]⟩, .int .i64 0, .bool false, .int .i64 0] 85 (0, 0))) := by
    have hg := HG1.out;have hch : Chg c.PB w ((w1.setCell ⟨c.PB, 3, none⟩ (.int .i64 ((s.i : Int) + 1))).alloc (.cells #[.string x.s, .int .i64 0, .bool false, .int .i64 0] 85)) := (hg.set _ _).alloc _;refine ⟨?_, hch, ?_, ?_⟩
    ·rw [← HS1.out]
     exact ⟨by go_simp, by go_simp, by go_simp, by go_simp, by go_simp, by go_simp, by go_simp, by go_simp, by go_simp, by go_simp, fun i => by go_simp, HP.out.wds.chg hch, HI.out⟩
    ·have := World.alloc_heap_new (w1.setCell ⟨c.PB, 3, none⟩ (.int .i64 ((s.i : Int) + 1))) (.cells #[.string x.s, .int .i64 0, .bool false, .int .i64 0] 85)
     rw [size_set] at this;exact this
    ·exact (Below.heap_alloc _ _ _ (by rw [size_set]; exact lH1)).trans ((heap_set_other gz).trans HC2.out)
   clear p0 p1 p2 p3 p4 p5 p6 p7 p8 p9 fz;refine wp_namedA (fun W => PAt W c s1 ∧ Chg c.PB w W ∧ W.heap[w1.heap.size]? = some (.cells #[.string bb, .int .i64 0, .bool false, .int .i64 0] 85 (0, 0)) ∧ W.heap[w.heap.size]? = some (.cells #[.string ⟨#[]⟩, .int .i64 0, .bool false, .int .i64 0] 85 (0, 0))) (HBB.out ▸ HX.out) ?_;rintro W hW;have HW0 : Hid (PAt W c s1 ∧ Chg c.PB w W ∧ W.heap[w1.heap.size]? = some (.cells #[.string bb, .int .i64 0, .bool false, .int .i64 0] 85 (0, 0)) ∧ W.heap[w.heap.size]? = some (.cells #[.string ⟨#[]⟩, .int .i64 0, .bool false, .int .i64 0] 85 (0, 0))) := hW;clear hW
   go_loopg [] (c.ws.length) (fun k wr => ∃ (st : PSt) (n : Int), c.ws.length - st.i ≤ k ∧ Hid (PAt wr c st ∧ Chg c.PB w wr ∧ wr.heap[w1.heap.size]? = some (.cells #[.string bb, .int .i64 n, .bool false, .int .i64 0] 85 (0, 0)) ∧ wr.heap[w.heap.size]? = some (.cells #[.string ⟨#[]⟩, .int .i64 0, .bool false, .int .i64 0] 85 (0, 0)) ∧ starsOf c st n = R))
   case atStart => exact ⟨s1, 0, by omega, ⟨HW0.out.1, HW0.out.2.1, HW0.out.2.2.1, HW0.out.2.2.2, HR.out⟩⟩
   case round =>
    obtain ⟨st, n, hk, HI⟩ := hrel;have HT : Hid (∀ W, PAt W c st → Calls prog 63 #[pp c, .string ⟨#[42]⟩] W (pret (.bool (takeF c st ⟨#[42]⟩).1) c (takeF c st ⟨#[42]⟩).2 W)) := fun W h => take_any c st _ W h (by decide)
    cases his : isF c st ⟨#[42]⟩ with
    | true =>
     have hlt2 := isF_lt c st _ (by decide) his;have et : takeF c st ⟨#[42]⟩ = (true, { st with i := st.i + 1 }) := by unfold takeF; rw [if_pos his]
     rw [et] at HT;have HS : Hid (starsOf c { st with i := st.i + 1 } (wrap64 (n + 1)) = R) := (starsOf_more c st n his).symm.trans HI.out.2.2.2.2;clear et his;go_wp2_with fail
     refine (HT.out _ HI.out.1).mono ?_;rintro e w5 ⟨rfl, hp5, hg5⟩;have c1 : w5.heap[w1.heap.size]? = some (.cells #[.string bb, .int .i64 n, .bool false, .int .i64 0] 85 (0, 0)) := zero_blk HI.out.2.2.1 hg5 gB;have c2 : w5.heap[w.heap.size]? = some (.cells #[.string ⟨#[]⟩, .int .i64 0, .bool false, .int .i64 0] 85 (0, 0)) := zero_blk HI.out.2.2.2.1 hg5 gz;have lB : w1.heap.size < w5.heap.size := (zge c1).1;have HC : Hid (PAt w5 c { st with i := st.i + 1 } ∧ Chg c.PB w w5 ∧ w5.heap[w1.heap.size]? = some (.cells #[.string bb, .int .i64 n, .bool false, .int .i64 0] 85 (0, 0)) ∧ w5.heap[w.heap.size]? = some (.cells #[.string ⟨#[]⟩, .int .i64 0, .bool false, .int .i64 0] 85 (0, 0))) := ⟨hp5, HI.out.2.1.trans hg5, c1, c2⟩;have d1 : w5.cell? ⟨w1.heap.size, 1, none⟩ = some (.int .i64 n) := heap_cell c1 (by simp);have e1 : w5.frozen? ⟨w1.heap.size, 1, none⟩ = false := heap_frozen c1;clear hp5 hg5 c1 c2;dsimp only;go_wp2
     go_roundg (c.ws.length - (st.i + 1))
     case measure => omega
     case rel =>
      refine ⟨{ st with i := st.i + 1 }, wrap64 (n + 1), Nat.le_refl _, ⟨?_, ?_, ?_, ?_, HS.out⟩⟩
      ·exact HP.out.over HC.out.1 (by intro k hk; (repeat (first | with_reducible rfl | with_reducible refine (heap_set_other (by omega)).trans ?_ | refine (Below.heap_alloc _ _ k (by first | omega | (simp only [size_set, World.size_alloc]; omega))).trans ?_)))
      ·exact HC.out.2.1.setNew (by omega) _ _
      ·exact Eq.trans (heap_set_same (o := 1) HC.out.2.2.1 _) (by simp)
      ·exact (heap_set_other (by omega)).trans HC.out.2.2.2
    | false =>
     have et : takeF c st ⟨#[42]⟩ = (false, st) := by unfold takeF; rw [if_neg (by rw [his]; decide)]
     rw [et] at HT;have hRe : (n, st) = R := (starsOf_end c st n HI.out.1.lim his).symm.trans HI.out.2.2.2.2;clear et his;go_wp2_with fail
     refine (HT.out _ HI.out.1).mono ?_;rintro e w5 ⟨rfl, hp5, hg5⟩;have c1 : w5.heap[w1.heap.size]? = some (.cells #[.string bb, .int .i64 n, .bool false, .int .i64 0] 85 (0, 0)) := zero_blk HI.out.2.2.1 hg5 gB;have c2 : w5.heap[w.heap.size]? = some (.cells #[.string ⟨#[]⟩, .int .i64 0, .bool false, .int .i64 0] 85 (0, 0)) := zero_blk HI.out.2.2.2.1 hg5 gz;have lB : w1.heap.size < w5.heap.size := (zge c1).1;have lH : w.heap.size < w5.heap.size := (zge c2).1;have HP5 : Hid (PAt w5 c st) := hp5;have HG5 : Hid (Chg c.PB w w5) := HI.out.2.1.trans hg5;have r0 : w5.cell? ⟨w.heap.size, 0, none⟩ = some (.string ⟨#[]⟩) := heap_cell c2 (by simp);have gr0 : w5.frozen? ⟨w.heap.size, 0, none⟩ = false := heap_frozen c2;have r1 : w5.cell? ⟨w.heap.size, 1, none⟩ = some (.int .i64 0) := heap_cell c2 (by simp);have gr1 : w5.frozen? ⟨w.heap.size, 1, none⟩ = false := heap_frozen c2;have r2 : w5.cell? ⟨w.heap.size, 2, none⟩ = some (.bool false) := heap_cell c2 (by simp);have gr2 : w5.frozen? ⟨w.heap.size, 2, none⟩ = false := heap_frozen c2;have r3 : w5.cell? ⟨w.heap.size, 3, none⟩ = some (.int .i64 0) := heap_cell c2 (by simp);have gr3 : w5.frozen? ⟨w.heap.size, 3, none⟩ = false := heap_frozen c2;have q0 : w5.cell? ⟨w1.heap.size, 0, none⟩ = some (.string bb) := heap_cell c1 (by simp);have gq0 : w5.frozen? ⟨w1.heap.size, 0, none⟩ = false := heap_frozen c1;have q1 : w5.cell? ⟨w1.heap.size, 1, none⟩ = some (.int .i64 n) := heap_cell c1 (by simp);have gq1 : w5.frozen? ⟨w1.heap.size, 1, none⟩ = false := heap_frozen c1;have q2 : w5.cell? ⟨w1.heap.size, 2, none⟩ = some (.bool false) := heap_cell c1 (by simp);have gq2 : w5.frozen? ⟨w1.heap.size, 2, none⟩ = false := heap_frozen c1;have q3 : w5.cell? ⟨w1.heap.size, 3, none⟩ = some (.int .i64 0) := heap_cell c1 (by simp);have gq3 : w5.frozen? ⟨w1.heap.size, 3, none⟩ = false := heap_frozen c1;clear hp5 hg5 c1 c2;dsimp only;go_wp2;have HRE : R = (n, st) := hRe.symm;rw [HRE];refine end_Sh (t := ⟨bb, n, false, 0⟩) ?hr ?hd ?hp ?hb
     case hr => simp [results, results61, go_sem, r0, r1, r2, r3, q0, q1, q2, q3, shV, lB, lH, hBH, hHB]
     case hd => rfl
     case hp => exact HP.out.over HP5.out (by intro k hk; (repeat (first | with_reducible rfl | with_reducible refine (heap_set_other (by omega)).trans ?_ | refine (Below.heap_alloc _ _ k (by first | omega | (simp only [size_set, World.size_alloc]; omega))).trans ?_)))
     case hb => (have hg := HG5.out; (repeat (first | with_reducible exact Chg.refl _ _ | with_reducible assumption | with_reducible exact HG.out | with_reducible refine Chg.alloc ?_ _ | with_reducible refine Chg.drew ?_ | with_reducible refine Chg.drewN ?_ _ | with_reducible refine Chg.set ?_ _ _ | with_reducible refine Chg.setNew ?_ (by first | exact Nat.le_refl _ | (simp; done) | (simp; omega)) _ _)))
  | true =>
   have eb : baseF c s = ((wordF c s).s ++ (⟨#[32]⟩ ++ (needKF c { s with i := s.i + 1 } 1).1.s), (needKF c { s with i := s.i + 1 } 1).2) := by unfold baseF; rw [hst, if_pos rfl]
   rw [eb] at hR hbb;obtain ⟨x, hx⟩ : ∃ x, wordF c s = x := ⟨_, rfl⟩;rw [hx] at HW hst hxs hbb

   have hst2 : (x.s.toList == [115, 116, 114, 117, 99, 116]) = true := by rw [ByteArray.toList_eq] at hst ⊢; rw [ByteArray.toList_eq] at hst; exact hst
   have fs := field_s x.k x.n x.pl x.pc x.s;obtain ⟨s0, hs1⟩ : ∃ s1 : PSt, { s with i := s.i + 1 } = s1 := ⟨_, rfl⟩;rw [hs1] at hR hbb;have HK : Hid (∀ W, PAt W c s0 → Calls prog 92 #[pp c, .int .i64 1] W (retWP (needKF c s0 1).1 c (needKF c s0 1).2 W)) := fun W h => needKind_any c s0 1 W h (by decide)
   have hys : (needKF c s0 1).1.s.size ≤ 65536 := by
    unfold needKF
    split
    ·exact wordF_siz hp.wds s0
    ·exact Nat.zero_le _
   obtain ⟨y, hy⟩ : ∃ y, (needKF c s0 1).1 = y := ⟨_, rfl⟩;obtain ⟨s1, hs2⟩ : ∃ s1, (needKF c s0 1).2 = s1 := ⟨_, rfl⟩;rw [hy, hs2] at HK;rw [hs2] at hR;rw [hy] at hbb hys;have HR : Hid (starsOf c s1 0 = R) := hR;have fy := field_s y.k y.n y.pl y.pc y.s;have HBB : Hid (x.s ++ (⟨#[32]⟩ ++ y.s) = bb) := hbb;have z1 : ¬ 9223372036854775807 < (⟨#[32]⟩ : ByteArray).size + y.s.size := by show ¬ 9223372036854775807 < 1 + y.s.size; omega
   have z2 : ¬ 9223372036854775807 < x.s.size + ((⟨#[32]⟩ : ByteArray) ++ y.s).size := by rw [ByteArray.size_append]; show ¬ 9223372036854775807 < x.s.size + (1 + y.s.size); omega
   have z3 : ¬ 9223372036854775807 < 1 + y.s.size := by omega
   have z4 : ¬ 9223372036854775807 < x.s.size + (1 + y.s.size) := by omega
   clear hbb hy hs2;have HS1 : Hid ({ s with i := s.i + 1 } = s0) := hs1;clear hs1 hp ht hA hz0 hbg e1 hx hlt hR eb
   go_enter func61, ntmps61
   go_wp2_with fail
   refine HBG.out.mono ?_;rintro e w0 ⟨rfl, rfl⟩;dsimp only;go_wp2_with fail
   refine (HW.out _ HPA.out).mono ?_;rintro e w1 ⟨rfl, hb1⟩;have HP1 : Hid (PAt w1 c s) := HPA.out.below hb1;have HG1 : Hid (Chg c.PB w w1) := HA.out.trans (.of hb1);have c2 : w1.heap[w.heap.size]? = some (.cells #[.string ⟨#[]⟩, .int .i64 0, .bool false, .int .i64 0] 85 (0, 0)) := (hb1.block _ (by simp)).trans HZ0.out;have HC2 : Hid (w1.heap[w.heap.size]? = some (.cells #[.string ⟨#[]⟩, .int .i64 0, .bool false, .int .i64 0] 85 (0, 0))) := c2;have lH1 : w.heap.size < w1.heap.size := (zge c2).1;have gB : w1.heap.size ≠ c.PB := by omega
   have gB2 : c.PB ≠ w1.heap.size := by omega
   have hBH : w1.heap.size ≠ w.heap.size := by omega
   have hHB : w.heap.size ≠ w1.heap.size := by omega
   have p0 := HP1.out.c0;have p1 := HP1.out.c1;have p2 := HP1.out.c2;have p3 := HP1.out.c3;have p4 := HP1.out.c4;have p5 := HP1.out.c5;have p6 := HP1.out.c6;have p7 := HP1.out.c7;have p8 := HP1.out.c8;have p9 := HP1.out.c9;have fz := HP1.out.fz;have PL1 := HP1.out.lt;clear hb1 c2;dsimp only
   have HX : Hid (PAt ((w1.setCell ⟨c.PB, 3, none⟩ (.int .i64 ((s.i : Int) + 1))).alloc (.cells #[.string x.s, .int .i64 0, .bool false, .int .i64 0] 85)) c s0 ∧ Chg c.PB w ((w1.setCell ⟨c.PB, 3, none⟩ (.int .i64 ((s.i : Int) + 1))).alloc (.cells #[.string x.s, .int .i64 0, .bool false, .int .i64 0] 85)) ∧ ((w1.setCell ⟨c.PB, 3, none⟩ (.int .i64 ((s.i : Int) + 1))).alloc (.cells #[.string x.s, .int .i64 0, .bool false, .int .i64 0] 85)).heap[w1.heap.size]? = some (.cells #[.string x.s, .int .i64 0, .bool false, .int .i64 0] 85 (0, 0)) ∧ ((w1.setCell ⟨c.PB, 3, none⟩ (.int .i64 ((s.i : Int) + 1))).alloc (.cells #[.string x.s, .int .i64 0, .bool false, .int .i64 0] 85)).heap[w.heap.size]? = some (.cells #[.string ⟨#[]⟩, .int .i64 0, .bool false, .int .i64 0] 85 (0, 0))) := by
    have hg := HG1.out;have hch : Chg c.PB w ((w1.setCell ⟨c.PB, 3, none⟩ (.int .i64 ((s.i : Int) + 1))).alloc (.cells #[.string x.s, .int .i64 0, .bool false, .int .i64 0] 85)) := (hg.set _ _).alloc _;refine ⟨?_, hch, ?_, ?_⟩
    ·rw [← HS1.out]
     exact ⟨by go_simp, by go_simp, by go_simp, by go_simp, by go_simp, by go_simp, by go_simp, by go_simp, by go_simp, by go_simp, fun i => by go_simp, HP.out.wds.chg hch, HI.out⟩
    ·have := World.alloc_heap_new (w1.setCell ⟨c.PB, 3, none⟩ (.int .i64 ((s.i : Int) + 1))) (.cells #[.string x.s, .int .i64 0, .bool false, .int .i64 0] 85)
     rw [size_set] at this;exact this
    ·exact (Below.heap_alloc _ _ _ (by rw [size_set]; exact lH1)).trans ((heap_set_other gz).trans HC2.out)
   have HXD : Hid (∀ W, Below ((w1.setCell ⟨c.PB, 3, none⟩ (.int .i64 ((s.i : Int) + 1))).alloc (.cells #[.string x.s, .int .i64 0, .bool false, .int .i64 0] 85)).heap.size ((w1.setCell ⟨c.PB, 3, none⟩ (.int .i64 ((s.i : Int) + 1))).alloc (.cells #[.string x.s, .int .i64 0, .bool false, .int .i64 0] 85)) W → PAt W c s0) := fun W h => HX.out.1.below h;have hx0 : ((w1.setCell ⟨c.PB, 3, none⟩ (.int .i64 ((s.i : Int) + 1))).alloc (.cells #[.string x.s, .int .i64 0, .bool false, .int .i64 0] 85)).cell? ⟨w1.heap.size, 0, none⟩ = some (.string x.s) := heap_cell HX.out.2.2.1 (by simp);go_wp2_with fail
   refine wp_region_held_drew (S := (fun _ => True)) (by kernel_rfl) (trivial) (fun hHeld => ?_);refine wpAnyH_take (i := 0) (oi := ?o0) (v := ?v0) ?i0 (by kernel_rfl) (by kernel_rfl) (by kernel_rfl) ?q0 ?y0 hHeld ?_
   case i0 => simp only [zga, zgs, zgz]; rfl
   case q0 => exact fun _ _ _ h => h
   case y0 => refine .inl ⟨by rfl, ?_⟩; intro w' hSw; (try dsimp only at hSw); go_simp; try with_reducible rfl
   simp only [Act.put, zsa, zsz, zss];refine wpAnyH_take (i := 2) (oi := ?o1) (v := ?v1) ?i1 (by kernel_rfl) (by kernel_rfl) (by kernel_rfl) ?q1 ?y1 hHeld ?_
   case i1 => simp only [zga, zgs, zgz]; rfl
   case q1 => exact fun _ _ _ h => h
   case y1 => refine .inl ⟨by rfl, ?_⟩; intro w' hSw; (try dsimp only at hSw); go_simp; try with_reducible rfl
   simp only [Act.put, zsa, zsz, zss];refine wpAnyH_ready (rs := [1, 3]) (by kernel_rfl) (by simp) ?_;refine (AllReadyH.cons (o := ?o2) ?i2 (fun K hK => ?g2) (AllReadyH.cons (o := ?o3) ?i3 (fun K hK => ?g3) AllReadyH.nil))
   case i2 => simp only [zga, zgs, zgz]; rfl
   case i3 => simp only [zga, zgs, zgz]; rfl
   case g2 =>
    go_simp;refine hK.out _ _ (trivial) (fun hN => ?_);clear hK K hHeld;have hHeld := hN;clear hN
    try simp only [Act.put, zsa, zsz, zss]
    refine zr (r := 3) (o := ?o4) (by kernel_rfl) ?i4 (fun K hK => ?g4)
    case i4 => simp only [zga, zgs, zgz]; rfl
    case g4 =>
     go_simp;refine (HK.out _ (HXD.out _ ((Below.refl _ _).drew))).mono ?_;rintro e w2 ⟨rfl, hp2, hg2⟩;replace hg2 := hg2.undrew;have c1 : w2.heap[w1.heap.size]? = some (.cells #[.string x.s, .int .i64 0, .bool false, .int .i64 0] 85 (0, 0)) := zero_blk HX.out.2.2.1 hg2 gB;have c2 : w2.heap[w.heap.size]? = some (.cells #[.string ⟨#[]⟩, .int .i64 0, .bool false, .int .i64 0] 85 (0, 0)) := zero_blk HX.out.2.2.2 hg2 gz;have lB2 : w1.heap.size < w2.heap.size := (zge c1).1;have d0 : w2.cell? ⟨w1.heap.size, 0, none⟩ = some (.string x.s) := heap_cell c1 (by simp);have f0 : w2.frozen? ⟨w1.heap.size, 0, none⟩ = false := heap_frozen c1;have HW2 : Hid (PAt w2 c s1 ∧ Chg c.PB w w2 ∧ w2.heap[w1.heap.size]? = some (.cells #[.string x.s, .int .i64 0, .bool false, .int .i64 0] 85 (0, 0)) ∧ w2.heap[w.heap.size]? = some (.cells #[.string ⟨#[]⟩, .int .i64 0, .bool false, .int .i64 0] 85 (0, 0))) := ⟨hp2, HX.out.2.1.trans hg2, c1, c2⟩;clear hp2 hg2 c1 c2;go_wp2_with fail
     refine hK.out _ _ (trivial) (fun hN => ?_);clear hK K hHeld;have hHeld := hN;clear hN
     try simp only [Act.put, zsa, zsz, zss]
     refine wpAnyH_take (i := 4) (oi := ?o5) (v := ?v5) ?i5 (by kernel_rfl) (by kernel_rfl) (by kernel_rfl) ?q5 ?y5 hHeld ?_
     case i5 => simp only [zga, zgs, zgz]; rfl
     case q5 => exact fun _ _ _ h => h
     case y5 => refine .inl ⟨by rfl, ?_⟩; intro w' hSw; (try dsimp only at hSw); go_simp; try with_reducible rfl
     simp only [Act.put, zsa, zsz, zss];refine wpAnyH_take (i := 5) (oi := ?o6) (v := ?v6) ?i6 (by kernel_rfl) (by kernel_rfl) (by kernel_rfl) ?q6 ?y6 hHeld ?_
     case i6 => simp only [zga, zgs, zgz]; rfl
     case q6 => exact fun _ _ _ h => h
     case y6 => refine .inl ⟨by rfl, ?_⟩; intro w' hSw; (try dsimp only at hSw); go_simp; try with_reducible rfl
     simp only [Act.put, zsa, zsz, zss];refine wpAnyH_take (i := 6) (oi := ?o7) (v := ?v7) ?i7 (by kernel_rfl) (by kernel_rfl) (by kernel_rfl) ?q7 ?y7 hHeld ?_
     case i7 => simp only [zga, zgs, zgz]; rfl
     case q7 => exact fun _ _ _ h => h
     case y7 => refine .inl ⟨by rfl, ?_⟩; intro w' hSw; (try dsimp only at hSw); go_simp; try with_reducible rfl
     simp only [Act.put, zsa, zsz, zss];refine wpAnyH_take (i := 7) (oi := ?o8) (v := ?v8) ?i8 (by kernel_rfl) (by kernel_rfl) (by kernel_rfl) ?q8 ?y8 hHeld ?_
     case i8 => simp only [zga, zgs, zgz]; rfl
     case q8 => exact fun _ _ _ h => h
     case y8 => refine .inl ⟨by rfl, ?_⟩; intro w' hSw; (try dsimp only at hSw); go_simp; try with_reducible rfl
     simp only [Act.put, zsa, zsz, zss];refine zr (r := 8) (o := ?o9) (by kernel_rfl) ?i9 (fun K hK => ?g9)
     case i9 => simp only [zga, zgs, zgz]; rfl
     case g9 =>
      go_simp;refine hK.out _ _ (trivial) (fun hN => ?_);clear hK K hHeld;have hHeld := hN;clear hN
      try simp only [Act.put, zsa, zsz, zss]
      refine wpAnyH_done (by kernel_rfl) ?_ _;clear hHeld;go_wp2
      have HX2 : Hid (PAt (w2.setCell ⟨w1.heap.size, 0, none⟩ (.string (x.s ++ (⟨#[32]⟩ ++ y.s)))) c s1 ∧ Chg c.PB w (w2.setCell ⟨w1.heap.size, 0, none⟩ (.string (x.s ++ (⟨#[32]⟩ ++ y.s)))) ∧ (w2.setCell ⟨w1.heap.size, 0, none⟩ (.string (x.s ++ (⟨#[32]⟩ ++ y.s)))).heap[w1.heap.size]? = some (.cells #[.string (x.s ++ (⟨#[32]⟩ ++ y.s)), .int .i64 0, .bool false, .int .i64 0] 85 (0, 0)) ∧ (w2.setCell ⟨w1.heap.size, 0, none⟩ (.string (x.s ++ (⟨#[32]⟩ ++ y.s)))).heap[w.heap.size]? = some (.cells #[.string ⟨#[]⟩, .int .i64 0, .bool false, .int .i64 0] 85 (0, 0))) := by
       exact ⟨HP.out.over HW2.out.1 (by intro k hk; (repeat (first | with_reducible rfl | with_reducible refine (heap_set_other (by omega)).trans ?_ | refine (Below.heap_alloc _ _ k (by first | omega | (simp only [size_set, World.size_alloc]; omega))).trans ?_))), HW2.out.2.1.setNew (by omega) _ _, Eq.trans (heap_set_same (o := 0) HW2.out.2.2.1 _) (by simp), (heap_set_other (by omega)).trans HW2.out.2.2.2⟩
      refine wp_namedA (fun W => PAt W c s1 ∧ Chg c.PB w W ∧ W.heap[w1.heap.size]? = some (.cells #[.string bb, .int .i64 0, .bool false, .int .i64 0] 85 (0, 0)) ∧ W.heap[w.heap.size]? = some (.cells #[.string ⟨#[]⟩, .int .i64 0, .bool false, .int .i64 0] 85 (0, 0))) (HBB.out ▸ HX2.out) ?_;rintro W hW;have HW0 : Hid (PAt W c s1 ∧ Chg c.PB w W ∧ W.heap[w1.heap.size]? = some (.cells #[.string bb, .int .i64 0, .bool false, .int .i64 0] 85 (0, 0)) ∧ W.heap[w.heap.size]? = some (.cells #[.string ⟨#[]⟩, .int .i64 0, .bool false, .int .i64 0] 85 (0, 0))) := hW;clear hW
      go_loopg [] (c.ws.length) (fun k wr => ∃ (st : PSt) (n : Int), c.ws.length - st.i ≤ k ∧ Hid (PAt wr c st ∧ Chg c.PB w wr ∧ wr.heap[w1.heap.size]? = some (.cells #[.string bb, .int .i64 n, .bool false, .int .i64 0] 85 (0, 0)) ∧ wr.heap[w.heap.size]? = some (.cells #[.string ⟨#[]⟩, .int .i64 0, .bool false, .int .i64 0] 85 (0, 0)) ∧ starsOf c st n = R))
      case atStart => exact ⟨s1, 0, by omega, ⟨HW0.out.1, HW0.out.2.1, HW0.out.2.2.1, HW0.out.2.2.2, HR.out⟩⟩
      case round =>
       obtain ⟨st, n, hk, HI⟩ := hrel;have HT : Hid (∀ W, PAt W c st → Calls prog 63 #[pp c, .string ⟨#[42]⟩] W (pret (.bool (takeF c st ⟨#[42]⟩).1) c (takeF c st ⟨#[42]⟩).2 W)) := fun W h => take_any c st _ W h (by decide)
       cases his : isF c st ⟨#[42]⟩ with
       | true =>
        have hlt2 := isF_lt c st _ (by decide) his;have et : takeF c st ⟨#[42]⟩ = (true, { st with i := st.i + 1 }) := by unfold takeF; rw [if_pos his]
        rw [et] at HT;have HS : Hid (starsOf c { st with i := st.i + 1 } (wrap64 (n + 1)) = R) := (starsOf_more c st n his).symm.trans HI.out.2.2.2.2;clear et his;go_wp2_with fail
        refine (HT.out _ HI.out.1).mono ?_;rintro e w5 ⟨rfl, hp5, hg5⟩;have c1 : w5.heap[w1.heap.size]? = some (.cells #[.string bb, .int .i64 n, .bool false, .int .i64 0] 85 (0, 0)) := zero_blk HI.out.2.2.1 hg5 gB;have c2 : w5.heap[w.heap.size]? = some (.cells #[.string ⟨#[]⟩, .int .i64 0, .bool false, .int .i64 0] 85 (0, 0)) := zero_blk HI.out.2.2.2.1 hg5 gz;have lB : w1.heap.size < w5.heap.size := (zge c1).1;have HC : Hid (PAt w5 c { st with i := st.i + 1 } ∧ Chg c.PB w w5 ∧ w5.heap[w1.heap.size]? = some (.cells #[.string bb, .int .i64 n, .bool false, .int .i64 0] 85 (0, 0)) ∧ w5.heap[w.heap.size]? = some (.cells #[.string ⟨#[]⟩, .int .i64 0, .bool false, .int .i64 0] 85 (0, 0))) := ⟨hp5, HI.out.2.1.trans hg5, c1, c2⟩;have d1 : w5.cell? ⟨w1.heap.size, 1, none⟩ = some (.int .i64 n) := heap_cell c1 (by simp);have e1 : w5.frozen? ⟨w1.heap.size, 1, none⟩ = false := heap_frozen c1;clear hp5 hg5 c1 c2;dsimp only;go_wp2
        go_roundg (c.ws.length - (st.i + 1))
        case measure => omega
        case rel =>
         refine ⟨{ st with i := st.i + 1 }, wrap64 (n + 1), Nat.le_refl _, ⟨?_, ?_, ?_, ?_, HS.out⟩⟩
         ·exact HP.out.over HC.out.1 (by intro k hk; (repeat (first | with_reducible rfl | with_reducible refine (heap_set_other (by omega)).trans ?_ | refine (Below.heap_alloc _ _ k (by first | omega | (simp only [size_set, World.size_alloc]; omega))).trans ?_)))
         ·exact HC.out.2.1.setNew (by omega) _ _
         ·exact Eq.trans (heap_set_same (o := 1) HC.out.2.2.1 _) (by simp)
         ·exact (heap_set_other (by omega)).trans HC.out.2.2.2
       | false =>
        have et : takeF c st ⟨#[42]⟩ = (false, st) := by unfold takeF; rw [if_neg (by rw [his]; decide)]
        rw [et] at HT;have hRe : (n, st) = R := (starsOf_end c st n HI.out.1.lim his).symm.trans HI.out.2.2.2.2;clear et his;go_wp2_with fail
        refine (HT.out _ HI.out.1).mono ?_;rintro e w5 ⟨rfl, hp5, hg5⟩;have c1 : w5.heap[w1.heap.size]? = some (.cells #[.string bb, .int .i64 n, .bool false, .int .i64 0] 85 (0, 0)) := zero_blk HI.out.2.2.1 hg5 gB;have c2 : w5.heap[w.heap.size]? = some (.cells #[.string ⟨#[]⟩, .int .i64 0, .bool false, .int .i64 0] 85 (0, 0)) := zero_blk HI.out.2.2.2.1 hg5 gz;have lB : w1.heap.size < w5.heap.size := (zge c1).1;have lH : w.heap.size < w5.heap.size := (zge c2).1;have HP5 : Hid (PAt w5 c st) := hp5;have HG5 : Hid (Chg c.PB w w5) := HI.out.2.1.trans hg5;have r0 : w5.cell? ⟨w.heap.size, 0, none⟩ = some (.string ⟨#[]⟩) := heap_cell c2 (by simp);have gr0 : w5.frozen? ⟨w.heap.size, 0, none⟩ = false := heap_frozen c2;have r1 : w5.cell? ⟨w.heap.size, 1, none⟩ = some (.int .i64 0) := heap_cell c2 (by simp);have gr1 : w5.frozen? ⟨w.heap.size, 1, none⟩ = false := heap_frozen c2;have r2 : w5.cell? ⟨w.heap.size, 2, none⟩ = some (.bool false) := heap_cell c2 (by simp);have gr2 : w5.frozen? ⟨w.heap.size, 2, none⟩ = false := heap_frozen c2;have r3 : w5.cell? ⟨w.heap.size, 3, none⟩ = some (.int .i64 0) := heap_cell c2 (by simp);have gr3 : w5.frozen? ⟨w.heap.size, 3, none⟩ = false := heap_frozen c2;have q0 : w5.cell? ⟨w1.heap.size, 0, none⟩ = some (.string bb) := heap_cell c1 (by simp);have gq0 : w5.frozen? ⟨w1.heap.size, 0, none⟩ = false := heap_frozen c1;have q1 : w5.cell? ⟨w1.heap.size, 1, none⟩ = some (.int .i64 n) := heap_cell c1 (by simp);have gq1 : w5.frozen? ⟨w1.heap.size, 1, none⟩ = false := heap_frozen c1;have q2 : w5.cell? ⟨w1.heap.size, 2, none⟩ = some (.bool false) := heap_cell c1 (by simp);have gq2 : w5.frozen? ⟨w1.heap.size, 2, none⟩ = false := heap_frozen c1;have q3 : w5.cell? ⟨w1.heap.size, 3, none⟩ = some (.int .i64 0) := heap_cell c1 (by simp);have gq3 : w5.frozen? ⟨w1.heap.size, 3, none⟩ = false := heap_frozen c1;clear hp5 hg5 c1 c2;dsimp only;go_wp2;have HRE : R = (n, st) := hRe.symm;rw [HRE];refine end_Sh (t := ⟨bb, n, false, 0⟩) ?hr ?hd ?hp ?hb
        case hr => simp [results, results61, go_sem, r0, r1, r2, r3, q0, q1, q2, q3, shV, lB, lH, hBH, hHB]
        case hd => rfl
        case hp => exact HP.out.over HP5.out (by intro k hk; (repeat (first | with_reducible rfl | with_reducible refine (heap_set_other (by omega)).trans ?_ | refine (Below.heap_alloc _ _ k (by first | omega | (simp only [size_set, World.size_alloc]; omega))).trans ?_)))
        case hb => (have hg := HG5.out; (repeat (first | with_reducible exact Chg.refl _ _ | with_reducible assumption | with_reducible exact HG.out | with_reducible refine Chg.alloc ?_ _ | with_reducible refine Chg.drew ?_ | with_reducible refine Chg.drewN ?_ _ | with_reducible refine Chg.set ?_ _ _ | with_reducible refine Chg.setNew ?_ (by first | exact Nat.le_refl _ | (simp; done) | (simp; omega)) _ _)))
   case g3 =>
    go_simp;refine (HK.out _ (HXD.out _ ((Below.refl _ _).drew))).mono ?_;rintro e w2 ⟨rfl, hp2, hg2⟩;replace hg2 := hg2.undrew;have c1 : w2.heap[w1.heap.size]? = some (.cells #[.string x.s, .int .i64 0, .bool false, .int .i64 0] 85 (0, 0)) := zero_blk HX.out.2.2.1 hg2 gB;have c2 : w2.heap[w.heap.size]? = some (.cells #[.string ⟨#[]⟩, .int .i64 0, .bool false, .int .i64 0] 85 (0, 0)) := zero_blk HX.out.2.2.2 hg2 gz;have lB2 : w1.heap.size < w2.heap.size := (zge c1).1;have d0 : w2.cell? ⟨w1.heap.size, 0, none⟩ = some (.string x.s) := heap_cell c1 (by simp);have f0 : w2.frozen? ⟨w1.heap.size, 0, none⟩ = false := heap_frozen c1;have HW2 : Hid (PAt w2 c s1 ∧ Chg c.PB w w2 ∧ w2.heap[w1.heap.size]? = some (.cells #[.string x.s, .int .i64 0, .bool false, .int .i64 0] 85 (0, 0)) ∧ w2.heap[w.heap.size]? = some (.cells #[.string ⟨#[]⟩, .int .i64 0, .bool false, .int .i64 0] 85 (0, 0))) := ⟨hp2, HX.out.2.1.trans hg2, c1, c2⟩;clear hp2 hg2 c1 c2;go_wp2_with fail
    refine hK.out _ _ (trivial) (fun hN => ?_);clear hK K hHeld;have hHeld := hN;clear hN
    try simp only [Act.put, zsa, zsz, zss]
    refine wpAnyH_take (i := 4) (oi := ?o10) (v := ?v10) ?i10 (by kernel_rfl) (by kernel_rfl) (by kernel_rfl) ?q10 ?y10 hHeld ?_
    case i10 => simp only [zga, zgs, zgz]; rfl
    case q10 => exact fun _ _ _ h => h
    case y10 => refine .inl ⟨by rfl, ?_⟩; intro w' hSw; (try dsimp only at hSw); go_simp; try with_reducible rfl
    simp only [Act.put, zsa, zsz, zss];refine wpAnyH_take (i := 5) (oi := ?o11) (v := ?v11) ?i11 (by kernel_rfl) (by kernel_rfl) (by kernel_rfl) ?q11 ?y11 hHeld ?_
    case i11 => simp only [zga, zgs, zgz]; rfl
    case q11 => exact fun _ _ _ h => h
    case y11 => refine .inl ⟨by rfl, ?_⟩; intro w' hSw; (try dsimp only at hSw); go_simp; try with_reducible rfl
    simp only [Act.put, zsa, zsz, zss];refine zr (r := 1) (o := ?o12) (by kernel_rfl) ?i12 (fun K hK => ?g12)
    case i12 => simp only [zga, zgs, zgz]; rfl
    case g12 =>
     go_simp;refine hK.out _ _ (trivial) (fun hN => ?_);clear hK K hHeld;have hHeld := hN;clear hN
     try simp only [Act.put, zsa, zsz, zss]
     refine wpAnyH_take (i := 6) (oi := ?o13) (v := ?v13) ?i13 (by kernel_rfl) (by kernel_rfl) (by kernel_rfl) ?q13 ?y13 hHeld ?_
     case i13 => simp only [zga, zgs, zgz]; rfl
     case q13 => exact fun _ _ _ h => h
     case y13 => refine .inl ⟨by rfl, ?_⟩; intro w' hSw; (try dsimp only at hSw); go_simp; try with_reducible rfl
     simp only [Act.put, zsa, zsz, zss];refine wpAnyH_take (i := 7) (oi := ?o14) (v := ?v14) ?i14 (by kernel_rfl) (by kernel_rfl) (by kernel_rfl) ?q14 ?y14 hHeld ?_
     case i14 => simp only [zga, zgs, zgz]; rfl
     case q14 => exact fun _ _ _ h => h
     case y14 => refine .inl ⟨by rfl, ?_⟩; intro w' hSw; (try dsimp only at hSw); go_simp; try with_reducible rfl
     simp only [Act.put, zsa, zsz, zss];refine zr (r := 8) (o := ?o15) (by kernel_rfl) ?i15 (fun K hK => ?g15)
     case i15 => simp only [zga, zgs, zgz]; rfl
     case g15 =>
      go_simp;refine hK.out _ _ (trivial) (fun hN => ?_);clear hK K hHeld;have hHeld := hN;clear hN
      try simp only [Act.put, zsa, zsz, zss]
      refine wpAnyH_done (by kernel_rfl) ?_ _;clear hHeld;go_wp2
      have HX2 : Hid (PAt (w2.setCell ⟨w1.heap.size, 0, none⟩ (.string (x.s ++ (⟨#[32]⟩ ++ y.s)))) c s1 ∧ Chg c.PB w (w2.setCell ⟨w1.heap.size, 0, none⟩ (.string (x.s ++ (⟨#[32]⟩ ++ y.s)))) ∧ (w2.setCell ⟨w1.heap.size, 0, none⟩ (.string (x.s ++ (⟨#[32]⟩ ++ y.s)))).heap[w1.heap.size]? = some (.cells #[.string (x.s ++ (⟨#[32]⟩ ++ y.s)), .int .i64 0, .bool false, .int .i64 0] 85 (0, 0)) ∧ (w2.setCell ⟨w1.heap.size, 0, none⟩ (.string (x.s ++ (⟨#[32]⟩ ++ y.s)))).heap[w.heap.size]? = some (.cells #[.string ⟨#[]⟩, .int .i64 0, .bool false, .int .i64 0] 85 (0, 0))) := by
       exact ⟨HP.out.over HW2.out.1 (by intro k hk; (repeat (first | with_reducible rfl | with_reducible refine (heap_set_other (by omega)).trans ?_ | refine (Below.heap_alloc _ _ k (by first | omega | (simp only [size_set, World.size_alloc]; omega))).trans ?_))), HW2.out.2.1.setNew (by omega) _ _, Eq.trans (heap_set_same (o := 0) HW2.out.2.2.1 _) (by simp), (heap_set_other (by omega)).trans HW2.out.2.2.2⟩
      refine wp_namedA (fun W => PAt W c s1 ∧ Chg c.PB w W ∧ W.heap[w1.heap.size]? = some (.cells #[.string bb, .int .i64 0, .bool false, .int .i64 0] 85 (0, 0)) ∧ W.heap[w.heap.size]? = some (.cells #[.string ⟨#[]⟩, .int .i64 0, .bool false, .int .i64 0] 85 (0, 0))) (HBB.out ▸ HX2.out) ?_;rintro W hW;have HW0 : Hid (PAt W c s1 ∧ Chg c.PB w W ∧ W.heap[w1.heap.size]? = some (.cells #[.string bb, .int .i64 0, .bool false, .int .i64 0] 85 (0, 0)) ∧ W.heap[w.heap.size]? = some (.cells #[.string ⟨#[]⟩, .int .i64 0, .bool false, .int .i64 0] 85 (0, 0))) := hW;clear hW
      go_loopg [] (c.ws.length) (fun k wr => ∃ (st : PSt) (n : Int), c.ws.length - st.i ≤ k ∧ Hid (PAt wr c st ∧ Chg c.PB w wr ∧ wr.heap[w1.heap.size]? = some (.cells #[.string bb, .int .i64 n, .bool false, .int .i64 0] 85 (0, 0)) ∧ wr.heap[w.heap.size]? = some (.cells #[.string ⟨#[]⟩, .int .i64 0, .bool false, .int .i64 0] 85 (0, 0)) ∧ starsOf c st n = R))
      case atStart => exact ⟨s1, 0, by omega, ⟨HW0.out.1, HW0.out.2.1, HW0.out.2.2.1, HW0.out.2.2.2, HR.out⟩⟩
      case round =>
       obtain ⟨st, n, hk, HI⟩ := hrel;have HT : Hid (∀ W, PAt W c st → Calls prog 63 #[pp c, .string ⟨#[42]⟩] W (pret (.bool (takeF c st ⟨#[42]⟩).1) c (takeF c st ⟨#[42]⟩).2 W)) := fun W h => take_any c st _ W h (by decide)
       cases his : isF c st ⟨#[42]⟩ with
       | true =>
        have hlt2 := isF_lt c st _ (by decide) his;have et : takeF c st ⟨#[42]⟩ = (true, { st with i := st.i + 1 }) := by unfold takeF; rw [if_pos his]
        rw [et] at HT;have HS : Hid (starsOf c { st with i := st.i + 1 } (wrap64 (n + 1)) = R) := (starsOf_more c st n his).symm.trans HI.out.2.2.2.2;clear et his;go_wp2_with fail
        refine (HT.out _ HI.out.1).mono ?_;rintro e w5 ⟨rfl, hp5, hg5⟩;have c1 : w5.heap[w1.heap.size]? = some (.cells #[.string bb, .int .i64 n, .bool false, .int .i64 0] 85 (0, 0)) := zero_blk HI.out.2.2.1 hg5 gB;have c2 : w5.heap[w.heap.size]? = some (.cells #[.string ⟨#[]⟩, .int .i64 0, .bool false, .int .i64 0] 85 (0, 0)) := zero_blk HI.out.2.2.2.1 hg5 gz;have lB : w1.heap.size < w5.heap.size := (zge c1).1;have HC : Hid (PAt w5 c { st with i := st.i + 1 } ∧ Chg c.PB w w5 ∧ w5.heap[w1.heap.size]? = some (.cells #[.string bb, .int .i64 n, .bool false, .int .i64 0] 85 (0, 0)) ∧ w5.heap[w.heap.size]? = some (.cells #[.string ⟨#[]⟩, .int .i64 0, .bool false, .int .i64 0] 85 (0, 0))) := ⟨hp5, HI.out.2.1.trans hg5, c1, c2⟩;have d1 : w5.cell? ⟨w1.heap.size, 1, none⟩ = some (.int .i64 n) := heap_cell c1 (by simp);have e1 : w5.frozen? ⟨w1.heap.size, 1, none⟩ = false := heap_frozen c1;clear hp5 hg5 c1 c2;dsimp only;go_wp2
        go_roundg (c.ws.length - (st.i + 1))
        case measure => omega
        case rel =>
         refine ⟨{ st with i := st.i + 1 }, wrap64 (n + 1), Nat.le_refl _, ⟨?_, ?_, ?_, ?_, HS.out⟩⟩
         ·exact HP.out.over HC.out.1 (by intro k hk; (repeat (first | with_reducible rfl | with_reducible refine (heap_set_other (by omega)).trans ?_ | refine (Below.heap_alloc _ _ k (by first | omega | (simp only [size_set, World.size_alloc]; omega))).trans ?_)))
         ·exact HC.out.2.1.setNew (by omega) _ _
         ·exact Eq.trans (heap_set_same (o := 1) HC.out.2.2.1 _) (by simp)
         ·exact (heap_set_other (by omega)).trans HC.out.2.2.2
       | false =>
        have et : takeF c st ⟨#[42]⟩ = (false, st) := by unfold takeF; rw [if_neg (by rw [his]; decide)]
        rw [et] at HT;have hRe : (n, st) = R := (starsOf_end c st n HI.out.1.lim his).symm.trans HI.out.2.2.2.2;clear et his;go_wp2_with fail
        refine (HT.out _ HI.out.1).mono ?_;rintro e w5 ⟨rfl, hp5, hg5⟩;have c1 : w5.heap[w1.heap.size]? = some (.cells #[.string bb, .int .i64 n, .bool false, .int .i64 0] 85 (0, 0)) := zero_blk HI.out.2.2.1 hg5 gB;have c2 : w5.heap[w.heap.size]? = some (.cells #[.string ⟨#[]⟩, .int .i64 0, .bool false, .int .i64 0] 85 (0, 0)) := zero_blk HI.out.2.2.2.1 hg5 gz;have lB : w1.heap.size < w5.heap.size := (zge c1).1;have lH : w.heap.size < w5.heap.size := (zge c2).1;have HP5 : Hid (PAt w5 c st) := hp5;have HG5 : Hid (Chg c.PB w w5) := HI.out.2.1.trans hg5;have r0 : w5.cell? ⟨w.heap.size, 0, none⟩ = some (.string ⟨#[]⟩) := heap_cell c2 (by simp);have gr0 : w5.frozen? ⟨w.heap.size, 0, none⟩ = false := heap_frozen c2;have r1 : w5.cell? ⟨w.heap.size, 1, none⟩ = some (.int .i64 0) := heap_cell c2 (by simp);have gr1 : w5.frozen? ⟨w.heap.size, 1, none⟩ = false := heap_frozen c2;have r2 : w5.cell? ⟨w.heap.size, 2, none⟩ = some (.bool false) := heap_cell c2 (by simp);have gr2 : w5.frozen? ⟨w.heap.size, 2, none⟩ = false := heap_frozen c2;have r3 : w5.cell? ⟨w.heap.size, 3, none⟩ = some (.int .i64 0) := heap_cell c2 (by simp);have gr3 : w5.frozen? ⟨w.heap.size, 3, none⟩ = false := heap_frozen c2;have q0 : w5.cell? ⟨w1.heap.size, 0, none⟩ = some (.string bb) := heap_cell c1 (by simp);have gq0 : w5.frozen? ⟨w1.heap.size, 0, none⟩ = false := heap_frozen c1;have q1 : w5.cell? ⟨w1.heap.size, 1, none⟩ = some (.int .i64 n) := heap_cell c1 (by simp);have gq1 : w5.frozen? ⟨w1.heap.size, 1, none⟩ = false := heap_frozen c1;have q2 : w5.cell? ⟨w1.heap.size, 2, none⟩ = some (.bool false) := heap_cell c1 (by simp);have gq2 : w5.frozen? ⟨w1.heap.size, 2, none⟩ = false := heap_frozen c1;have q3 : w5.cell? ⟨w1.heap.size, 3, none⟩ = some (.int .i64 0) := heap_cell c1 (by simp);have gq3 : w5.frozen? ⟨w1.heap.size, 3, none⟩ = false := heap_frozen c1;clear hp5 hg5 c1 c2;dsimp only;go_wp2;have HRE : R = (n, st) := hRe.symm;rw [HRE];refine end_Sh (t := ⟨bb, n, false, 0⟩) ?hr ?hd ?hp ?hb
        case hr => simp [results, results61, go_sem, r0, r1, r2, r3, q0, q1, q2, q3, shV, lB, lH, hBH, hHB]
        case hd => rfl
        case hp => exact HP.out.over HP5.out (by intro k hk; (repeat (first | with_reducible rfl | with_reducible refine (heap_set_other (by omega)).trans ?_ | refine (Below.heap_alloc _ _ k (by first | omega | (simp only [size_set, World.size_alloc]; omega))).trans ?_)))
        case hb => (have hg := HG5.out; (repeat (first | with_reducible exact Chg.refl _ _ | with_reducible assumption | with_reducible exact HG.out | with_reducible refine Chg.alloc ?_ _ | with_reducible refine Chg.drew ?_ | with_reducible refine Chg.drewN ?_ _ | with_reducible refine Chg.set ?_ _ _ | with_reducible refine Chg.setNew ?_ (by first | exact Nat.le_refl _ | (simp; done) | (simp; omega)) _ _)))
end Go.Proofs.YtlonbaefdffbeaaGreatDoor
