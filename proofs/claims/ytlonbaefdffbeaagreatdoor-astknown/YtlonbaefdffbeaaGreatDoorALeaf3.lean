import Derived.Test.YtlonbaefdffbeaaGreatDoorALeaf2
namespace Go.Proofs.YtlonbaefdffbeaaGreatDoor
open Go.ChangeShapes Go.WideShapes Go.ChangeAt Go.RowKit Go.Proofs.Tryz
set_option linter.unusedSimpArgs false
set_option linter.unusedVariables false
set_option maxHeartbeats 1000000

theorem refuse_any (c : PC) (s : PSt) (w : World) (hp : PAt w c s) : Calls prog 91 #[.pointer (some ⟨c.PB, 0, none⟩)] w (pret (.tuple #[]) c (refuseF c s) w) := by
 have HP : Hid (PAt w c s) := hp;have HW : Hid (∀ W, PAt W c s → Calls prog 60 #[pp c] W (retWd (wordF c s) W)) := fun W h => word_any c s W h;unfold refuseF;obtain ⟨x, hx⟩ : ∃ x, wordF c s = x := ⟨_, rfl⟩;rw [hx] at HW ⊢;have fs := field_at x.k x.n x.pl x.pc x.s;have HF : Hid (∀ W, PAt W c s → Calls prog 96 #[pp c, .int .i64 4, .agg #[.int .i64 x.pl, .int .i64 x.pc]] W (pret (.tuple #[]) c (failF 4 x.pl x.pc s) W)) := fun W h => fail_any c s 4 x.pl x.pc W h;clear hp hx
 go_enter func91, ntmps91
 go_wp2_with (first | (go_at_call 60; refine (HW.out _ HP.out).mono ?_; rintro e w1 ⟨rfl, hb1⟩) | (go_at_call 96; refine (HF.out _ (HP.out.below hb1)).mono ?_; rintro e w2 ⟨rfl, hp2, hg2⟩))
 refine bodyPost_ret (results_none rfl _ _ _) rfl ⟨rfl, hp2, (Chg.of hb1).trans hg2⟩
def needF (c : PC) (s : PSt) (t : ByteArray) : PSt := if (takeF c s t).1 = true then (takeF c s t).2 else refuseF c s
theorem takeF_false {c : PC} {s : PSt} {t : ByteArray} (h : (takeF c s t).1 = false) : (takeF c s t).2 = s := by
 unfold takeF at h ⊢
 split at h
 ·cases h
 ·rename_i hn
  rw [if_neg hn]
theorem need_any (c : PC) (s : PSt) (t : ByteArray) (w : World) (hp : PAt w c s) (ht : 0 < t.size) : Calls prog 68 #[.pointer (some ⟨c.PB, 0, none⟩), .string t] w (pret (.tuple #[]) c (needF c s t) w) := by
 have HP : Hid (PAt w c s) := hp;have HT : Hid (∀ W, PAt W c s → Calls prog 63 #[pp c, .string t] W (pret (.bool (takeF c s t).1) c (takeF c s t).2 W)) := fun W h => take_any c s t W h ht;unfold needF
 cases h : (takeF c s t).1 with
 | true =>
  rw [h] at HT;rw [if_pos rfl];clear hp h
  go_enter func68, ntmps68
  go_wp2_with (go_at_call 63; refine (HT.out _ HP.out).mono ?_; rintro e w1 ⟨rfl, hp1, hg1⟩)
  refine bodyPost_ret (results_none rfl _ _ _) rfl ⟨rfl, hp1, hg1⟩
 | false =>
  rw [h, takeF_false h] at HT;rw [if_neg (by decide)];have HR : Hid (∀ W, PAt W c s → Calls prog 91 #[pp c] W (pret (.tuple #[]) c (refuseF c s) W)) := fun W h => refuse_any c s W h;clear hp h
  go_enter func68, ntmps68
  go_wp2_with (first | (go_at_call 63; refine (HT.out _ HP.out).mono ?_; rintro e w1 ⟨rfl, hp1, hg1⟩) | (go_at_call 91; refine (HR.out _ hp1).mono ?_; rintro e w2 ⟨rfl, hp2, hg2⟩))
  refine bodyPost_ret (results_none rfl _ _ _) rfl ⟨rfl, hp2, hg1.trans hg2⟩
def goesF (c : PC) (s : PSt) (t : ByteArray) : Bool := if s.e = 0 then !(isF c s t) else false
theorem goes_any (c : PC) (s : PSt) (t : ByteArray) (w : World) (hp : PAt w c s) : Calls prog 95 #[.pointer (some ⟨c.PB, 0, none⟩), .string t] w (retP (.bool (goesF c s t)) w) := by
 have HP : Hid (PAt w c s) := hp;have p9 := hp.c9;have HI : Hid (∀ W, PAt W c s → Calls prog 94 #[pp c, .string t] W (retP (.bool (isF c s t)) W)) := fun W h => is_any c s t W h;unfold goesF;clear hp
 by_cases h0 : s.e = 0
 ·rw [h0] at p9
  rw [if_pos h0];clear h0
  go_enter func95, ntmps95
  go_wp2_with (go_at_call 94; refine (HI.out _ HP.out).mono ?_; rintro e w1 ⟨rfl, hb1⟩)
  go_ret;exact ⟨rfl, hb1⟩
 ·have q0 : (s.e == 0) = false := by simpa using h0
  rw [if_neg h0];clear h0
  go_enter func95, ntmps95
  go_wp2_with (go_at_call 94; refine (HI.out _ HP.out).mono ?_; rintro e w1 ⟨rfl, hb1⟩)
  go_ret;exact ⟨rfl, Below.refl _ _⟩
def leaveF (s : PSt) : PSt := { s with depth := wrap64 (s.depth - 1) }
def upF (s : PSt) : PSt := { s with depth := wrap64 (s.depth + 1) }
def limF (c : PC) (s : PSt) (d : Int) : PSt := if 200 < d then failF 2 (wordF c s).pl (wordF c s).pc s else s
def enterF (c : PC) (s : PSt) : PSt := limF c (upF s) (wrap64 (s.depth + 1))
theorem enter_any (c : PC) (s : PSt) (w : World) (hp : PAt w c s) : Calls prog 138 #[.pointer (some ⟨c.PB, 0, none⟩)] w (pret (.tuple #[]) c (enterF c s) w) := by
 have p0 := hp.c0;have p1 := hp.c1;have p2 := hp.c2;have p3 := hp.c3;have p4 := hp.c4;have p5 := hp.c5;have p6 := hp.c6;have p7 := hp.c7;have p8 := hp.c8;have p9 := hp.c9;have PL := hp.lt;have fz := hp.fz;have HP : Hid (PAt w c s) := hp;clear hp;obtain ⟨d, hd⟩ : ∃ d, wrap64 (s.depth + 1) = d := ⟨_, rfl⟩
 have HS : Hid (PAt (w.setCell ⟨c.PB, 4, none⟩ (.int .i64 d)) c (upF s)) := by
  show PAt _ _ _
  unfold upF;rw [hd];exact ⟨by go_simp, by go_simp, by go_simp, by go_simp, by go_simp, by go_simp, by go_simp, by go_simp, by go_simp, by go_simp, fun i => by go_simp, HP.out.wds.chg (by (repeat (first | with_reducible exact Chg.refl _ _ | with_reducible assumption | with_reducible exact HG.out | with_reducible refine Chg.alloc ?_ _ | with_reducible refine Chg.drew ?_ | with_reducible refine Chg.drewN ?_ _ | with_reducible refine Chg.set ?_ _ _ | with_reducible refine Chg.setNew ?_ (by first | exact Nat.le_refl _ | (simp; done) | (simp; omega)) _ _))), HP.out.lim⟩
 unfold enterF limF;rw [hd];obtain ⟨s1, hs1⟩ : ∃ s1 : PSt, upF s = s1 := ⟨_, rfl⟩;rw [hs1] at HS ⊢;clear hs1
 by_cases h : 200 < d
 ·rw [if_pos h]
  have HW : Hid (∀ W, PAt W c s1 → Calls prog 60 #[pp c] W (retWd (wordF c s1) W)) := fun W h => word_any c s1 W h;obtain ⟨x, hx⟩ : ∃ x, wordF c s1 = x := ⟨_, rfl⟩;rw [hx] at HW ⊢;have fs := field_at x.k x.n x.pl x.pc x.s;have HF : Hid (∀ W, PAt W c s1 → Calls prog 96 #[pp c, .int .i64 2, .agg #[.int .i64 x.pl, .int .i64 x.pc]] W (pret (.tuple #[]) c (failF 2 x.pl x.pc s1) W)) := fun W h => fail_any c s1 2 x.pl x.pc W h;clear hx
  go_enter func138, ntmps138
  go_wp2_with (first | (go_at_call 60; refine (HW.out _ HS.out).mono ?_; rintro e w1 ⟨rfl, hb1⟩) | (go_at_call 96; refine (HF.out _ (HS.out.below hb1)).mono ?_; rintro e w2 ⟨rfl, hp2, hg2⟩))
  refine bodyPost_ret (results_none rfl _ _ _) rfl ⟨rfl, hp2, (((Chg.refl _ _).set _ _).trans (Chg.of hb1)).trans hg2⟩
 ·rw [if_neg h]
  go_enter func138, ntmps138
  go_wp2;refine bodyPost_ret (results_none rfl _ _ _) rfl ⟨rfl, HS.out, by (repeat (first | with_reducible exact Chg.refl _ _ | with_reducible assumption | with_reducible exact HG.out | with_reducible refine Chg.alloc ?_ _ | with_reducible refine Chg.drew ?_ | with_reducible refine Chg.drewN ?_ _ | with_reducible refine Chg.set ?_ _ _ | with_reducible refine Chg.setNew ?_ (by first | exact Nat.le_refl _ | (simp; done) | (simp; omega)) _ _))⟩
end Go.Proofs.YtlonbaefdffbeaaGreatDoor
