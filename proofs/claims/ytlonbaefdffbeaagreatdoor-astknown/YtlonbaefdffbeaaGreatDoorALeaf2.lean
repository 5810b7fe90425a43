import Derived.Test.YtlonbaefdffbeaaGreatDoorALeaf
namespace Go.Proofs.YtlonbaefdffbeaaGreatDoor
open Go.ChangeShapes Go.WideShapes Go.ChangeAt Go.RowKit Go.Proofs.Tryz
set_option linter.unusedSimpArgs false
set_option linter.unusedVariables false
set_option maxHeartbeats 1000000

theorem fail_any (c : PC) (s : PSt) (e pl pc : Int) (w : World) (hp : PAt w c s) : Calls prog 96 #[.pointer (some ⟨c.PB, 0, none⟩), .int .i64 e, .agg #[.int .i64 pl, .int .i64 pc]] w (pret (.tuple #[]) c (failF e pl pc s) w) := by
 have p0 := hp.c0;have p1 := hp.c1;have p2 := hp.c2;have p3 := hp.c3;have p4 := hp.c4;have p5 := hp.c5;have p6 := hp.c6;have p7 := hp.c7;have p8 := hp.c8;have p9 := hp.c9;have PL := hp.lt;have fz := hp.fz;have HP : Hid (PAt w c s) := hp;clear hp
 go_enter func96, ntmps96
 by_cases h0 : s.e = 0
 ·rw [h0] at p9
  have ef : failF e pl pc s = { s with e := e, fl := pl, fc := pc } := by unfold failF; rw [if_pos h0]
  rw [ef];clear ef h0
  go_wp2_with (go_region)
  all_goals refine bodyPost_ret (results_none rfl _ _ _) rfl ⟨rfl, ⟨by go_simp, by go_simp, by go_simp, by go_simp, by go_simp, by go_simp, by go_simp, by go_simp, by go_simp, by go_simp, fun i => by go_simp, HP.out.wds.chg (by (repeat (first | with_reducible exact Chg.refl _ _ | with_reducible assumption | with_reducible exact HG.out | with_reducible refine Chg.alloc ?_ _ | with_reducible refine Chg.drew ?_ | with_reducible refine Chg.drewN ?_ _ | with_reducible refine Chg.set ?_ _ _ | with_reducible refine Chg.setNew ?_ (by first | exact Nat.le_refl _ | (simp; done) | (simp; omega)) _ _))), HP.out.lim⟩, by (repeat (first | with_reducible exact Chg.refl _ _ | with_reducible assumption | with_reducible exact HG.out | with_reducible refine Chg.alloc ?_ _ | with_reducible refine Chg.drew ?_ | with_reducible refine Chg.drewN ?_ _ | with_reducible refine Chg.set ?_ _ _ | with_reducible refine Chg.setNew ?_ (by first | exact Nat.le_refl _ | (simp; done) | (simp; omega)) _ _))⟩
 ·have q0 : (s.e == 0) = false := by simpa using h0
  have ef : failF e pl pc s = s := by unfold failF; rw [if_neg h0]
  rw [ef];clear ef h0;go_wp2;refine bodyPost_ret (results_none rfl _ _ _) rfl ⟨rfl, HP.out.below (by (repeat (first | with_reducible exact Below.refl _ _ | with_reducible assumption | with_reducible refine bel_alloc ?_ _ | with_reducible refine bel_set ?_ (by first | exact Nat.le_refl _ | (simp; done) | (simp; omega)) _ | with_reducible refine Below.drew ?_ | with_reducible refine bel_drewN ?_ _))), by (repeat (first | with_reducible exact Chg.refl _ _ | with_reducible assumption | with_reducible exact HG.out | with_reducible refine Chg.alloc ?_ _ | with_reducible refine Chg.drew ?_ | with_reducible refine Chg.drewN ?_ _ | with_reducible refine Chg.set ?_ _ _ | with_reducible refine Chg.setNew ?_ (by first | exact Nat.le_refl _ | (simp; done) | (simp; omega)) _ _))⟩
theorem field_s (k n pl pc : Int) (s : ByteArray) (W : World) : (Instr.field 93 (.agg #[.int .i64 k, .string s, .int .i64 n, .int .i64 pl, .int .i64 pc]) 1).run prog W = .ok (.string s) W := by
 kernel_rfl
theorem field_at (k n pl pc : Int) (s : ByteArray) (W : World) : (Instr.field 93 (.agg #[.int .i64 k, .string s, .int .i64 n, .int .i64 pl, .int .i64 pc]) 3).run prog W = .ok (.agg #[.int .i64 pl, .int .i64 pc]) W := by
 kernel_rfl
theorem is_any (c : PC) (s : PSt) (t : ByteArray) (w : World) (hp : PAt w c s) : Calls prog 94 #[.pointer (some ⟨c.PB, 0, none⟩), .string t] w (retP (.bool (isF c s t)) w) := by
 have HF : Hid (∀ W, Below w.heap.size w W → Calls prog 60 #[pp c] W (retWd (wordF c s) W)) := fun W hb => word_any c s W (hp.below hb);unfold isF;obtain ⟨x, hx⟩ : ∃ x, wordF c s = x := ⟨_, rfl⟩;rw [hx] at HF ⊢;have fs := field_s x.k x.n x.pl x.pc x.s;clear hp hx
 go_enter func94, ntmps94
 go_wp2_with (go_at_call 60; refine (HF.out _ (Below.refl _ _)).mono ?_; rintro e w1 ⟨rfl, hb1⟩)
 go_ret;exact ⟨rfl, hb1⟩
def takeF (c : PC) (s : PSt) (t : ByteArray) : Bool × PSt := if isF c s t = true then (true, { s with i := s.i + 1 }) else (false, s)
theorem isF_lt (c : PC) (s : PSt) (t : ByteArray) (ht : 0 < t.size) (h : isF c s t = true) : s.e = 0 ∧ s.i < c.ws.length := by
 have hn : ∀ x : Wd, x.s = ⟨#[]⟩ → ¬ (x.s.toList == t.toList) = true := fun x hx h2 => by
  rw [hx] at h2;have h3 : (⟨#[]⟩ : ByteArray).toList = t.toList := by simpa using h2
  rw [ByteArray.toList_eq, ByteArray.toList_eq] at h3;have : t.size = 0 := by show t.data.toList.length = 0; rw [← h3]; rfl
  omega
 unfold isF wordF at h
 by_cases h0 : s.e = 0
 ·refine ⟨h0, ?_⟩
  rw [if_pos h0] at h
  by_cases hi : s.i < c.ws.length
  ·exact hi
  ·rw [List.getElem?_eq_none (by omega)] at h
   exact absurd h (hn _ rfl)
 ·rw [if_neg h0] at h
  exact absurd h (hn _ rfl)
theorem take_any (c : PC) (s : PSt) (t : ByteArray) (w : World) (hp : PAt w c s) (ht : 0 < t.size) : Calls prog 63 #[.pointer (some ⟨c.PB, 0, none⟩), .string t] w (pret (.bool (takeF c s t).1) c (takeF c s t).2 w) := by
 have p0 := hp.c0;have p1 := hp.c1;have p2 := hp.c2;have p3 := hp.c3;have p4 := hp.c4;have p5 := hp.c5;have p6 := hp.c6;have p7 := hp.c7;have p8 := hp.c8;have p9 := hp.c9;have PL := hp.lt;have fz := hp.fz;have w9 : (c.ws.length : Int) ≤ 65536 := by have := hp.wds.lim; omega
 have i0 : (0 : Int) ≤ (s.i : Int) := by omega
 have HP : Hid (PAt w c s) := hp;have HF : Hid (∀ W, Below w.heap.size w W → Calls prog 94 #[pp c, .string t] W (retP (.bool (isF c s t)) W)) := fun W hb => is_any c s t W (hp.below hb)
 cases h : isF c s t with
 | false =>
  rw [h] at HF;have et : takeF c s t = (false, s) := by unfold takeF; rw [h]; rfl
  rw [et];clear hp h et
  go_enter func63, ntmps63
  go_wp2_with (go_at_call 94; refine (HF.out _ (Below.refl _ _)).mono ?_; rintro e w1 ⟨rfl, hb1⟩)
  go_ret;exact ⟨rfl, HP.out.below hb1, .of hb1⟩
 | true =>
  rw [h] at HF;have hlt := isF_lt c s t ht h;have i1 : (s.i : Int) < (c.ws.length : Int) := by omega
  have et : takeF c s t = (true, { s with i := s.i + 1 }) := by unfold takeF; rw [h]; rfl
  rw [et];have HI : Hid (s.i + 1 ≤ c.ws.length) := hlt.2;clear hp h et hlt
  go_enter func63, ntmps63
  go_wp2_with (go_at_call 94; refine (HF.out _ (Below.refl _ _)).mono ?_; rintro e w1 ⟨rfl, hb1⟩; have hp := HP.out.below hb1; have PL1 := hp.lt; replace p0 := hp.c0; replace p1 := hp.c1; replace p2 := hp.c2; replace p3 := hp.c3; replace p4 := hp.c4; replace p5 := hp.c5; replace p6 := hp.c6; replace p7 := hp.c7; replace p8 := hp.c8; replace p9 := hp.c9; replace fz := hp.fz; have HP1 : Hid (PAt w1 c s) := hp; clear hp)
  go_ret;have hg : Chg c.PB w w1 := .of hb1;exact ⟨rfl, ⟨by go_simp, by go_simp, by go_simp, by go_simp, by go_simp, by go_simp, by go_simp, by go_simp, by go_simp, by go_simp, fun i => by go_simp, HP1.out.wds.chg (by (repeat (first | with_reducible exact Chg.refl _ _ | with_reducible assumption | with_reducible exact HG.out | with_reducible refine Chg.alloc ?_ _ | with_reducible refine Chg.drew ?_ | with_reducible refine Chg.drewN ?_ _ | with_reducible refine Chg.set ?_ _ _ | with_reducible refine Chg.setNew ?_ (by first | exact Nat.le_refl _ | (simp; done) | (simp; omega)) _ _))), HI.out⟩, by (repeat (first | with_reducible exact Chg.refl _ _ | with_reducible assumption | with_reducible exact HG.out | with_reducible refine Chg.alloc ?_ _ | with_reducible refine Chg.drew ?_ | with_reducible refine Chg.drewN ?_ _ | with_reducible refine Chg.set ?_ _ _ | with_reducible refine Chg.setNew ?_ (by first | exact Nat.le_refl _ | (simp; done) | (simp; omega)) _ _))⟩
end Go.Proofs.YtlonbaefdffbeaaGreatDoor
