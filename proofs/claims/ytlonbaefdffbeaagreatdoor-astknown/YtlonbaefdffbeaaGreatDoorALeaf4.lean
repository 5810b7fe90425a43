import Derived.Test.YtlonbaefdffbeaaGreatDoorALeaf3
namespace Go.Proofs.YtlonbaefdffbeaaGreatDoor
open Go.ChangeShapes Go.WideShapes Go.ChangeAt Go.RowKit Go.Proofs.Tryz
set_option linter.unusedSimpArgs false
set_option linter.unusedVariables false
set_option maxHeartbeats 1000000

def needKF (c : PC) (s : PSt) (k : Int) : Wd × PSt := if (wordF c s).k = k then (wordF c s, { s with i := s.i + 1 }) else (⟨0, ⟨#[]⟩, 0, 0, 0⟩, refuseF c s)
theorem wordF_kind (c : PC) (s : PSt) (h : ¬ (wordF c s).k = 0) : s.e = 0 ∧ s.i < c.ws.length := by
 unfold wordF at h
 by_cases h0 : s.e = 0
 ·refine ⟨h0, ?_⟩
  rw [if_pos h0] at h
  by_cases hi : s.i < c.ws.length
  ·exact hi
  ·rw [List.getElem?_eq_none (by omega)] at h
   exact absurd rfl h
 ·rw [if_neg h0] at h
  exact absurd rfl h
def retWP (x : Wd) (c : PC) (s : PSt) (w : World) : Ending → World → Prop := fun e W => e = .returned (.agg #[.int .i64 x.k, .string x.s, .int .i64 x.n, .int .i64 x.pl, .int .i64 x.pc]) ∧ PAt W c s ∧ Chg c.PB w W
theorem end_WP {P : Program} {fn : Func} {a : Act} {w w' : World} {x : Wd} {c : PC} {s : PSt} (hr : (results fn a.tmps).run P w' = .ok (.agg #[.int .i64 x.k, .string x.s, .int .i64 x.n, .int .i64 x.pl, .int .i64 x.pc]) w') (hd : a.defers = []) (hp : PAt w' c s) (hb : Chg c.PB w w') :
  bodyPost P fn (retWP x c s w) .ret a w' := bodyPost_ret hr hd ⟨rfl, hp, hb⟩
theorem needKind_any (c : PC) (s : PSt) (k : Int) (w : World) (hp : PAt w c s) (hk : ¬ k = 0) : Calls prog 92 #[.pointer (some ⟨c.PB, 0, none⟩), .int .i64 k] w (retWP (needKF c s k).1 c (needKF c s k).2 w) := by
 have HP : Hid (PAt w c s) := hp;have PL := hp.lt;have w9 : (c.ws.length : Int) ≤ 65536 := by have := hp.wds.lim; omega
 have i0 : (0 : Int) ≤ (s.i : Int) := by omega
 have HW : Hid (∀ W, PAt W c s → Calls prog 60 #[pp c] W (retWd (wordF c s) W)) := fun W h => word_any c s W h;have HR : Hid (∀ W, PAt W c s → Calls prog 91 #[pp c] W (pret (.tuple #[]) c (refuseF c s) W)) := fun W h => refuse_any c s W h;have hA : Below w.heap.size w (w.alloc (.cells #[.int .i64 0, .string ⟨#[]⟩, .int .i64 0, .int .i64 0, .int .i64 0] 93)) := (Below.refl _ _).alloc (Nat.le_refl _) _;have hpA := hp.below hA;clear hp
 by_cases h : (wordF c s).k = k
 ·have e1 : needKF c s k = (wordF c s, { s with i := s.i + 1 }) := by unfold needKF; rw [if_pos h]
  rw [e1];have hlt := wordF_kind c s (by rw [h]; exact hk);have i1 : (s.i : Int) < (c.ws.length : Int) := by omega
  have HI : Hid (s.i + 1 ≤ c.ws.length) := hlt.2;obtain ⟨x, hx⟩ : ∃ x, wordF c s = x := ⟨_, rfl⟩;rw [hx] at HW h ⊢;subst h;clear hx hk hlt e1
  go_enter func92, ntmps92
  go_wp2_with fail
  refine (HW.out _ hpA).mono ?_;rintro e w1 ⟨rfl, hb1⟩;have HP1 : Hid (PAt w1 c s) := hpA.below hb1;have hz : w1.heap[w.heap.size]? = some (.cells #[.int .i64 0, .string ⟨#[]⟩, .int .i64 0, .int .i64 0, .int .i64 0] 93 (0, 0)) := (hb1.block _ (by simp)).trans (World.alloc_heap_new w _);have wl : w.heap.size < w1.heap.size := (zge hz).1;have hne : c.PB ≠ w.heap.size := by omega
  have hne2 : w.heap.size ≠ c.PB := by omega
  have r0 : w1.cell? ⟨w.heap.size, 0, none⟩ = some (.int .i64 0) := heap_cell hz (by simp);have gr0 : w1.frozen? ⟨w.heap.size, 0, none⟩ = false := heap_frozen hz;have r1 : w1.cell? ⟨w.heap.size, 1, none⟩ = some (.string ⟨#[]⟩) := heap_cell hz (by simp);have gr1 : w1.frozen? ⟨w.heap.size, 1, none⟩ = false := heap_frozen hz;have r2 : w1.cell? ⟨w.heap.size, 2, none⟩ = some (.int .i64 0) := heap_cell hz (by simp);have gr2 : w1.frozen? ⟨w.heap.size, 2, none⟩ = false := heap_frozen hz;have r3 : w1.cell? ⟨w.heap.size, 3, none⟩ = some (.int .i64 0) := heap_cell hz (by simp);have gr3 : w1.frozen? ⟨w.heap.size, 3, none⟩ = false := heap_frozen hz;have r4 : w1.cell? ⟨w.heap.size, 4, none⟩ = some (.int .i64 0) := heap_cell hz (by simp);have gr4 : w1.frozen? ⟨w.heap.size, 4, none⟩ = false := heap_frozen hz;have p0 := HP1.out.c0;have p1 := HP1.out.c1;have p2 := HP1.out.c2;have p3 := HP1.out.c3;have p4 := HP1.out.c4;have p5 := HP1.out.c5;have p6 := HP1.out.c6;have p7 := HP1.out.c7;have p8 := HP1.out.c8;have p9 := HP1.out.c9;have fz := HP1.out.fz;have PL1 := HP1.out.lt;dsimp only;go_wp2;have hg : Chg c.PB w w1 := (Chg.of hA).trans (.of hb1);refine end_WP (x := x) ?hr ?hd ?hp ?hb
  case hr => simp [results, results92, go_sem, r0, r1, r2, r3, r4, wl, hne, hne2]
  case hd => rfl
  case hp => exact ⟨by go_simp, by go_simp, by go_simp, by go_simp, by go_simp, by go_simp, by go_simp, by go_simp, by go_simp, by go_simp, fun i => by go_simp, HP.out.wds.chg (by (repeat (first | with_reducible exact Chg.refl _ _ | with_reducible assumption | with_reducible exact HG.out | with_reducible refine Chg.alloc ?_ _ | with_reducible refine Chg.drew ?_ | with_reducible refine Chg.drewN ?_ _ | with_reducible refine Chg.set ?_ _ _ | with_reducible refine Chg.setNew ?_ (by first | exact Nat.le_refl _ | (simp; done) | (simp; omega)) _ _))), HI.out⟩
  case hb => (repeat (first | with_reducible exact Chg.refl _ _ | with_reducible assumption | with_reducible exact HG.out | with_reducible refine Chg.alloc ?_ _ | with_reducible refine Chg.drew ?_ | with_reducible refine Chg.drewN ?_ _ | with_reducible refine Chg.set ?_ _ _ | with_reducible refine Chg.setNew ?_ (by first | exact Nat.le_refl _ | (simp; done) | (simp; omega)) _ _))
 ·have e1 : needKF c s k = (⟨0, ⟨#[]⟩, 0, 0, 0⟩, refuseF c s) := by unfold needKF; rw [if_neg h]
  rw [e1];obtain ⟨x, hx⟩ : ∃ x, wordF c s = x := ⟨_, rfl⟩;rw [hx] at HW h;have q : (x.k == k) = false := by simpa using h
  clear hx hk h e1
  go_enter func92, ntmps92
  go_wp2_with fail
  refine (HW.out _ hpA).mono ?_;rintro e w1 ⟨rfl, hb1⟩;have hp1 := hpA.below hb1;have hz : w1.heap[w.heap.size]? = some (.cells #[.int .i64 0, .string ⟨#[]⟩, .int .i64 0, .int .i64 0, .int .i64 0] 93 (0, 0)) := (hb1.block _ (by simp)).trans (World.alloc_heap_new w _);have wl : w.heap.size < w1.heap.size := (zge hz).1;dsimp only;go_wp2_with fail
  refine (HR.out _ (hp1.below ((Below.refl _ _).alloc (Nat.le_refl _) _))).mono ?_;rintro e w2 ⟨rfl, hp2, hg2⟩;have hg : Chg c.PB w w2 := (((Chg.of hA).trans (.of hb1)).alloc _).trans hg2;have hz2 : w2.heap[w.heap.size]? = some (.cells #[.int .i64 0, .string ⟨#[]⟩, .int .i64 0, .int .i64 0, .int .i64 0] 93 (0, 0)) := (hg2.block _ (by simp; omega) (by omega)).trans ((Below.heap_alloc _ _ _ wl).trans hz);have wl2 : w.heap.size < w2.heap.size := (zge hz2).1;have HP2 : Hid (PAt w2 c (refuseF c s)) := hp2;have hne2 : w.heap.size ≠ c.PB := by omega
  have hne : c.PB ≠ w.heap.size := by omega
  have p0 := HP2.out.c0;have p1 := HP2.out.c1;have p2 := HP2.out.c2;have p3 := HP2.out.c3;have p4 := HP2.out.c4;have p5 := HP2.out.c5;have p6 := HP2.out.c6;have p7 := HP2.out.c7;have p8 := HP2.out.c8;have p9 := HP2.out.c9;have fz := HP2.out.fz;have PL2 := HP2.out.lt;have r0 : w2.cell? ⟨w.heap.size, 0, none⟩ = some (.int .i64 0) := heap_cell hz2 (by simp);have gr0 : w2.frozen? ⟨w.heap.size, 0, none⟩ = false := heap_frozen hz2;have r1 : w2.cell? ⟨w.heap.size, 1, none⟩ = some (.string ⟨#[]⟩) := heap_cell hz2 (by simp);have gr1 : w2.frozen? ⟨w.heap.size, 1, none⟩ = false := heap_frozen hz2;have r2 : w2.cell? ⟨w.heap.size, 2, none⟩ = some (.int .i64 0) := heap_cell hz2 (by simp);have gr2 : w2.frozen? ⟨w.heap.size, 2, none⟩ = false := heap_frozen hz2;have r3 : w2.cell? ⟨w.heap.size, 3, none⟩ = some (.int .i64 0) := heap_cell hz2 (by simp);have gr3 : w2.frozen? ⟨w.heap.size, 3, none⟩ = false := heap_frozen hz2;have r4 : w2.cell? ⟨w.heap.size, 4, none⟩ = some (.int .i64 0) := heap_cell hz2 (by simp);have gr4 : w2.frozen? ⟨w.heap.size, 4, none⟩ = false := heap_frozen hz2;clear hp1 hp2 hz hz2 hb1 hg2;dsimp only;go_wp2;refine end_WP (x := ⟨0, ⟨#[]⟩, 0, 0, 0⟩) ?hr ?hd ?hp ?hb
  case hr => simp [results, results92, go_sem, r0, r1, r2, r3, r4, wl2, hne2]
  case hd => rfl
  case hp => exact ⟨by go_simp, by go_simp, by go_simp, by go_simp, by go_simp, by go_simp, by go_simp, by go_simp, by go_simp, by go_simp, fun i => by go_simp, HP.out.wds.chg (by (repeat (first | with_reducible exact Chg.refl _ _ | with_reducible assumption | with_reducible exact HG.out | with_reducible refine Chg.alloc ?_ _ | with_reducible refine Chg.drew ?_ | with_reducible refine Chg.drewN ?_ _ | with_reducible refine Chg.set ?_ _ _ | with_reducible refine Chg.setNew ?_ (by first | exact Nat.le_refl _ | (simp; done) | (simp; omega)) _ _))), HP2.out.lim⟩
  case hb => (repeat (first | with_reducible exact Chg.refl _ _ | with_reducible assumption | with_reducible exact HG.out | with_reducible refine Chg.alloc ?_ _ | with_reducible refine Chg.drew ?_ | with_reducible refine Chg.drewN ?_ _ | with_reducible refine Chg.set ?_ _ _ | with_reducible refine Chg.setNew ?_ (by first | exact Nat.le_refl _ | (simp; done) | (simp; omega)) _ _))
end Go.Proofs.YtlonbaefdffbeaaGreatDoor
