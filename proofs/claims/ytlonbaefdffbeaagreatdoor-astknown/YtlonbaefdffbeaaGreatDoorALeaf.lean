import Derived.Test.YtlonbaefdffbeaaGreatDoorABase
namespace Go.Proofs.YtlonbaefdffbeaaGreatDoor
open Go.ChangeShapes Go.WideShapes Go.ChangeAt Go.RowKit Go.Proofs.Tryz
set_option linter.unusedSimpArgs false
set_option linter.unusedVariables false
set_option maxHeartbeats 1000000

theorem bel_drewN {b : Nat} {w W : World} (h : Below b w W) (n : Nat) : Below b w (W.drewN n) := ⟨h.os, h.tape, h.output, h.size, h.block⟩
def retWd (x : Wd) (w : World) : Ending → World → Prop := fun e W => e = .returned (.agg #[.int .i64 x.k, .string x.s, .int .i64 x.n, .int .i64 x.pl, .int .i64 x.pc]) ∧ Below w.heap.size w W
theorem end_Wd {P : Program} {fn : Func} {a : Act} {w w' : World} {x : Wd} (hr : (results fn a.tmps).run P w' = .ok (.agg #[.int .i64 x.k, .string x.s, .int .i64 x.n, .int .i64 x.pl, .int .i64 x.pc]) w') (hd : a.defers = []) (hb : Below w.heap.size w w') :
  bodyPost P fn (retWd x w) .ret a w' := bodyPost_ret hr hd ⟨rfl, hb⟩
theorem word_any (c : PC) (s : PSt) (w : World) (hp : PAt w c s) : Calls prog 60 #[.pointer (some ⟨c.PB, 0, none⟩)] w (retWd (wordF c s) w) := by
 have p0 := hp.c0;have p1 := hp.c1;have p2 := hp.c2;have p3 := hp.c3;have p9 := hp.c9;have PL := hp.lt;have HP : Hid (PAt w c s) := hp;obtain ⟨e, he⟩ : ∃ e, s.e = e := ⟨_, rfl⟩;rw [he] at p9;have i0 : (0 : Int) ≤ (s.i : Int) := by omega
 have w9 : (c.ws.length : Int) ≤ 65536 := by have := hp.wds.lim; omega
 clear hp
 go_enter func60, ntmps60
 by_cases h0 : e = 0
 ·subst h0
  by_cases hi : s.i < c.ws.length
  ·have i1 : (s.i : Int) < (c.ws.length : Int) := by omega
   have g1 : decide ((c.ws.length : Int) ≤ (s.i : Int)) = false := by simp; omega
   have g2 : decide (c.ws.length ≤ s.i) = false := by simp; omega
   obtain ⟨x, hx⟩ : ∃ x, c.ws[s.i]? = some x := ⟨_, List.getElem?_eq_getElem hi⟩;have ew : wordF c s = x := by unfold wordF; rw [he, if_pos rfl, hx]; rfl
   rw [ew];have ha := HP.out.wds.adr (by intro h; rw [h] at hi; simp at hi);rw [ha] at p0;obtain ⟨x0, x1, x2, x3, x4⟩ := HP.out.wds.row _ _ hx;have hcap := HP.out.wds.cap;have hgl : c.g < w.heap.size := block_lt_of_cell x0;clear ew hx ha
   go_wp2_with (first | go_quiet (fail) | go_region)
   exact end_Wd (by simp [results, results60, go_sem]) rfl (by (repeat (first | with_reducible exact Below.refl _ _ | with_reducible refine bel_alloc ?_ _ | with_reducible refine bel_set ?_ (by first | exact Nat.le_refl _ | (simp; done) | (simp; omega)) _ | with_reducible refine Below.drew ?_ | with_reducible refine bel_drewN ?_ _)))
  ·have i1 : (c.ws.length : Int) ≤ (s.i : Int) := by omega
   have g1 : decide ((c.ws.length : Int) ≤ (s.i : Int)) = true := by simp; omega
   have g2 : decide (c.ws.length ≤ s.i) = true := by simp; omega
   have ew : wordF c s = ⟨0, ⟨#[]⟩, 0, c.el, c.ec⟩ := by unfold wordF; rw [he, if_pos rfl, List.getElem?_eq_none (by omega)]; rfl
   rw [ew];clear ew
   go_wp2_with (first | go_quiet (fail) | go_region)
   exact end_Wd (by simp [results, results60, go_sem]) rfl (by (repeat (first | with_reducible exact Below.refl _ _ | with_reducible refine bel_alloc ?_ _ | with_reducible refine bel_set ?_ (by first | exact Nat.le_refl _ | (simp; done) | (simp; omega)) _ | with_reducible refine Below.drew ?_ | with_reducible refine bel_drewN ?_ _)))
 ·have q0 : (e == 0) = false := by simpa using h0
  have ew : wordF c s = ⟨0, ⟨#[]⟩, 0, c.el, c.ec⟩ := by unfold wordF; rw [he, if_neg h0]
  rw [ew];clear ew
  go_wp2_with (first | go_quiet (fail) | go_region)
  exact end_Wd (by simp [results, results60, go_sem]) rfl (by (repeat (first | with_reducible exact Below.refl _ _ | with_reducible refine bel_alloc ?_ _ | with_reducible refine bel_set ?_ (by first | exact Nat.le_refl _ | (simp; done) | (simp; omega)) _ | with_reducible refine Below.drew ?_ | with_reducible refine bel_drewN ?_ _)))
end Go.Proofs.YtlonbaefdffbeaaGreatDoor
