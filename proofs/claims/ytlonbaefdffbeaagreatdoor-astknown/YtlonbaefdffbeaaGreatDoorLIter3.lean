import Derived.Test.YtlonbaefdffbeaaGreatDoorLIter2
namespace Go.Proofs.YtlonbaefdffbeaaGreatDoor
open Go.ChangeShapes Go.WideShapes Go.ChangeAt Go.RowKit Go.Proofs.Tryz
set_option linter.unusedSimpArgs false
set_option linter.unusedVariables false
set_option maxRecDepth 100000
set_option maxHeartbeats 8000000

theorem next_gap (t : ByteArray) (i j : Nat) (h : gaps t (t.size + 1 - i) i = (j, false)) : nextW t i = (j, none) := by
 unfold nextW;rw [h];simp
theorem next_end (t : ByteArray) (i j : Nat) (h : gaps t (t.size + 1 - i) i = (j, true)) (hj : ¬ j < t.size) : nextW t i = (j, none) := by
 unfold nextW;rw [h];simp [hj]
theorem next_bad (t : ByteArray) (i j : Nat) (x : WW) (h : gaps t (t.size + 1 - i) i = (j, true)) (hw : wordW (t.extract j t.size) = (x, false)) : nextW t i = (j, none) := by
 unfold nextW;rw [h];simp [hw]
theorem next_word (t : ByteArray) (i j : Nat) (x : WW) (h : gaps t (t.size + 1 - i) i = (j, true)) (hj : j < t.size) (hw : wordW (t.extract j t.size) = (x, true)) : nextW t i = (j, some x) := by
 unfold nextW;rw [h];simp [hw, hj]
structure ItInv (t : ByteArray) (cb : Nat) (J : List (WW × Nat) → World → Prop) (pre : List (WW × Nat)) (i f : Nat) (W : World) : Prop where
 cut : CutIs W cb t i
 j : J pre W
 all : lexAll t = (pre ++ (lexF t f i).1, (lexF t f i).2)
 fuel : t.size < f + i
 len : pre.length ≤ i
 le : i ≤ t.size
theorem ItInv.done {t : ByteArray} {cb : Nat} {J : List (WW × Nat) → World → Prop} {pre : List (WW × Nat)} {i f j : Nat} {W : World} (h : ItInv t cb J pre i f W) (hn : nextW t i = (j, none)) : lexAll t = (pre, j) := by
 obtain ⟨f, rfl⟩ : ∃ g, f = g + 1 := ⟨f - 1, by have := h.fuel; have := h.le; omega⟩;rw [h.all, lexF_none t f i j hn, List.append_nil]
structure ItNext (t : ByteArray) (pre : List (WW × Nat)) (x : WW) (j f : Nat) : Prop where
 all : lexAll t = ((pre ++ [(x, j)]) ++ (lexF t f (j + x.s.size)).1, (lexF t f (j + x.s.size)).2)
 fuel : t.size < f + (j + x.s.size)
 len : (pre ++ [(x, j)]).length ≤ j + x.s.size
 le : j + x.s.size ≤ t.size
 rest : ∃ rest, (lexAll t).1 = pre ++ (x, j) :: rest
theorem ItInv.next {t : ByteArray} {cb : Nat} {J : List (WW × Nat) → World → Prop} {pre : List (WW × Nat)} {i f j : Nat} {x : WW} {W : World} (h : ItInv t cb J pre i f W) (hn : nextW t i = (j, some x)) : ∃ g, ItNext t pre x j g := by
 obtain ⟨f, rfl⟩ : ∃ g, f = g + 1 := ⟨f - 1, by have := h.fuel; have := h.le; omega⟩;have hw := nextW_word t i j x h.le hn;have ha := h.all;rw [lexF_some t f i j x hn] at ha;refine ⟨f, ?_, by have := h.fuel; omega, by have := h.len; simp; omega, hw.2.2, _, congrArg Prod.fst ha⟩;rw [ha];simp
theorem Moved.setNew {cb b : Nat} {a w : World} (h : Moved cb a w) (hb : a.heap.size ≤ b) (o : Nat) (u : Value) : Moved cb a (w.setCell ⟨b, o, none⟩ u) :=
 ⟨h.os, h.tape, h.output, by rw [size_set]; exact h.size, fun k hk hn => (heap_set_other (by omega)).trans (h.block k hk hn)⟩
def wordAt (x : WW) (p : Nat × Nat) : Value := .agg #[.int .i64 x.k, .string x.s, .int .i64 x.n, .int .i64 p.1, .int .i64 p.2]
def yieldEnd (J : World → Prop) (Jx : World → Prop) : Ending → World → Prop := fun e W => ∃ b, e = .returned (.bool b) ∧ (b = true → J W) ∧ (b = false → Jx W)
theorem words1_any (l bx cb : Nat) (t : ByteArray) (w : World) (J : List (WW × Nat) → World → Prop) (Jx : World → Prop) (hcut : CutIs w cb t 0) (h0 : J [] w) (hlim : t.size ≤ 281474976710656)
  (HJ : Hid (∀ pre W, J pre W → LexTab W ∧ ErrTab W ∧ W.cell? ⟨bx, 0, none⟩ = some (.pointer (some ⟨cb, 0, none⟩)) ∧ bx ≠ cb))
  (HM : Hid (∀ pre W W', J pre W → Moved cb W W' → J pre W'))
  (HY : Hid (∀ pre x j rest W, (lexAll t).1 = pre ++ (x, j) :: rest → J pre W → CutIs W cb t (j + x.s.size) → YieldAt Fence.wide 0 prog l #[.int .i64 pre.length, wordAt x (posOf t j)] W (yieldEnd (fun W' => J (pre ++ [(x, j)]) W' ∧ CutIs W' cb t (j + x.s.size)) Jx))) :
  Calls prog 52 #[.func (.yield l) #[] #[], .pointer (some ⟨bx, 0, none⟩)] w fun e W => e = .returned (.tuple #[]) ∧ ((J (lexAll t).1 W ∧ CutIs W cb t (lexAll t).2) ∨ Jx W) := by
 have H0 : Hid (ItInv t cb J [] 0 (t.size + 1) w) := ⟨hcut, h0, by simp [lexAll], by omega, by simp, by omega⟩;have HT : Hid ((t.size : Int) ≤ 4611686018427387904) := by show _ ≤ _; omega
 have HL : Hid (t.size ≤ 281474976710656) := hlim;clear hcut h0 hlim
 go_enter func52, ntmps52
 go_wp2
 go_loopw [3] (fun v wr => ∃ (pre : List (WW × Nat)) (i f : Nat), v = .int .i64 (pre.length : Int) ∧ Hid (ItInv t cb J pre i f wr)) (fun v _ => t.size + 1 - (intOf v).toNat)
 case atStart => exact ⟨[], 0, t.size + 1, rfl, H0⟩
 case round =>
  obtain ⟨pre, i, f, rfl, HA⟩ := hrel;clear H0;obtain ⟨G, hG⟩ : ∃ G, gaps t (t.size + 1 - i) i = G := ⟨_, rfl⟩;have HG : Hid (gaps t (t.size + 1 - i) i = G) := hG;clear hG;obtain ⟨q, hq⟩ : ∃ q, pre.length = q := ⟨_, rfl⟩;have HQ : Hid (pre.length = q) := hq;have q0 : (0 : Int) ≤ (q : Int) := by omega
  have q1 : (q : Int) ≤ 281474976710656 := by have := HA.out.len; have := HA.out.le; have := HL.out; omega
  rw [hq];clear hq;have hbx := (HJ.out pre wr HA.out.j).2.2.1;go_wp2_with fail
  refine (gaps_walk cb i t _ G ⟨HA.out.cut, Moved.refl _ _⟩ HA.out.le HT HG).mono ?_;rintro e w2 ⟨rfl, hc2, hm2⟩;have HB : Hid (CutIs w2 cb t G.1 ∧ J pre w2) := ⟨hc2, HM.out _ _ _ HA.out.j hm2⟩;clear hc2 hm2 hbx;have hbx := (HJ.out pre w2 HB.out.2).2.2.1;obtain ⟨j, g⟩ := G
  cases g
  ·go_wp2
   go_end0;have hd := HA.out.done (next_gap t i j HG.out);rw [hd];exact ⟨rfl, Or.inl ⟨HB.out.2, HB.out.1⟩⟩
  ·go_wp2_with fail
   refine (more_any cb _ t _ HB.out.1.c0 HB.out.1.c1).mono ?_;rintro e w3 ⟨rfl, hw⟩
   have HC : Hid (CutIs w3 cb t j ∧ J pre w3) := by
    rw [hw];exact ⟨HB.out.1, HM.out _ _ _ HB.out.2 (Moved.refl _ _).drew⟩
   clear hw hbx HB;have hbx := (HJ.out pre w3 HC.out.2).2.2.1
   by_cases hjs : j < t.size
   ·have qm : decide (j < t.size) = true := decide_eq_true hjs
    rw [qm];have HS : Hid (j < t.size) := hjs;clear hjs qm;obtain ⟨r, hr⟩ : ∃ r, t.extract j t.size = r := ⟨_, rfl⟩;obtain ⟨⟨⟨k, s, n⟩, ok⟩, hx⟩ : ∃ x, wordW r = x := ⟨_, rfl⟩;have HR : Hid (t.extract j t.size = r ∧ wordW r = (⟨k, s, n⟩, ok)) := ⟨hr, hx⟩;clear hr hx;have d0 := HC.out.1.c0;have d1 := HC.out.1.c1
    go_upto_region 3 with fail
    refine it_r3 bx cb (j : Int) k n ok t r s _ _ _ _ _ _ _ _ _ _ _ _ _ _ _ _ _ _ _ _ _ _ _ _ _ _ _ _ _ _ _ _ _ _ _ _ _ _ _ _ _ _ _ _ _ _ hbx d0 d1 (block_lt_of_cell hbx) (block_lt_of_cell d0) ?_ ?_ ?_
    ·intro W
     rw [run_slice_string_from_if W 9 t .i64 _ underlying9, if_pos ⟨by omega, by have := HS.out; omega⟩];rw [← HR.out.1]
     rfl
    ·intro W hW
     have hJ3 := HJ.out pre w3 HC.out.2;have hwd := lword_any r W (hJ3.1.keep hW) (hJ3.2.1.keep hW) (by rw [← HR.out.1, rest_size t j (by have := HS.out; omega)]; have := HS.out; omega) (by rw [← HR.out.1, rest_size t j (by have := HS.out; omega)]; have := HL.out; omega);rw [HR.out.2] at hwd;exact hwd
    ·intro W wb y14 y15 y16 y17 y18 y19 y20 y21 y22 y23 y24 y25 y26 hWA hBW hwb
     have HD : Hid (CutIs W cb t j ∧ J pre W) := ⟨HC.out.1.below hBW, HM.out _ _ _ HC.out.2 (Moved.of_below hBW)⟩;clear hbx d0 d1;have hbx := (HJ.out pre W HD.out.2).2.2.1
     cases ok
     ·go_wp2
      refine bodyPost_ret (results_none rfl _ _ _) rfl ?_;have hd := HA.out.done (next_bad t i j _ HG.out (by rw [HR.out.1]; exact HR.out.2));rw [hd];exact ⟨rfl, Or.inl ⟨HD.out.2, HD.out.1⟩⟩
     ·obtain ⟨g, HN0⟩ := HA.out.next (next_word t i j _ HG.out HS.out (by rw [HR.out.1]; exact HR.out.2))
      have HN : Hid (ItNext t pre ⟨k, s, n⟩ j g) := HN0;clear HN0;obtain ⟨⟨pl, pc⟩, hp⟩ : ∃ p, posOf t j = p := ⟨_, rfl⟩;have HP : Hid (posOf t j = (pl, pc)) := hp;have d0 := HD.out.1.c0;have d2 := HD.out.1.c2;have d3 := HD.out.1.c3;rw [hp] at d2 d3;clear hp;have a0 := hWA.c0;have a1 := hWA.c1;have a2 := hWA.c2;have a3 := hWA.c3;have a4 := hWA.c4;have f3 := hWA.f3;have f4 := hWA.f4;have n1 : wb ≠ cb := by have : cb < w3.heap.size := block_lt_of_cell HC.out.1.c0; omega
      have n2 : wb ≠ bx := by have : bx < w3.heap.size := block_lt_of_cell (HJ.out pre w3 HC.out.2).2.2.1; omega
      have HW4 : Hid (Moved cb w3 ((W.setCell ⟨wb, 3, none⟩ (.int .i64 pl)).setCell ⟨wb, 4, none⟩ (.int .i64 pc)) ∧ CutIs ((W.setCell ⟨wb, 3, none⟩ (.int .i64 pl)).setCell ⟨wb, 4, none⟩ (.int .i64 pc)) cb t j) := ⟨((Moved.of_below hBW).setNew hwb 3 _).setNew hwb 4 _, (heap_set_other (Ne.symm n1)).trans ((heap_set_other (Ne.symm n1)).trans HD.out.1)⟩;clear hWA hBW
      go_upto_region 7 with (first | (go_at_call 55; refine (pass_any cb j s.size t _ HW4.out.2 HN.out.le HT.out).mono ?_; rintro e w5 ⟨rfl, hq1, hq2⟩))
      have HX : Hid (CutIs w5 cb t (j + s.size) ∧ J pre w5) := ⟨hq1, HM.out _ _ _ HC.out.2 (HW4.out.1.trans hq2)⟩;have e0 : w5.cell? ⟨wb, 0, none⟩ = some (.int .i64 k) := hq2.cell (by go_simp) n1;have e1 : w5.cell? ⟨wb, 1, none⟩ = some (.string s) := hq2.cell (by go_simp) n1;have e2 : w5.cell? ⟨wb, 2, none⟩ = some (.int .i64 n) := hq2.cell (by go_simp) n1;have e3 : w5.cell? ⟨wb, 3, none⟩ = some (.int .i64 pl) := hq2.cell (by go_simp) n1;have e4 : w5.cell? ⟨wb, 4, none⟩ = some (.int .i64 pc) := hq2.cell (by go_simp) n1
      have hy := (match HN.out.rest with
       | ⟨rest, hr⟩ => HY.out pre ⟨k, s, n⟩ j rest w5 hr HX.out.2 HX.out.1)
      rw [HP.out, HQ.out] at hy;clear hq1 hq2 a0 a1 a2 a3 a4 f3 f4 d0 d2 d3 hbx HW4;refine it_r7 l wb (q : Int) k n pl pc s w5 _ _ _ _ _ _ _ _ _ _ _ _ _ _ _ _ _ _ _ _ _ _ _ _ _ _ _ _ _ _ _ _ _ _ _ _ _ _ _ _ _ _ _ _ e0 e1 e2 e3 e4 hy ?_ ?_
      ·rintro e W' ⟨b, hb, _⟩
       exact ⟨b, hb⟩
      ·intro b W' y39 y40 y41 y42 hR
       have HE : Hid (b = true → J (pre ++ [(⟨k, s, n⟩, j)]) W' ∧ CutIs W' cb t (j + s.size)) := fun hb => (match hR with
        | ⟨b', hb', h1, h2⟩ => h1 (by injection hb' with hb'; injection hb' with hb'; rw [← hb', hb]))
       have HF : Hid (b = false → Jx W') := fun hb => (match hR with
        | ⟨b', hb', h1, h2⟩ => h2 (by injection hb' with hb'; injection hb' with hb'; rw [← hb', hb]))
       clear hR hy
       cases b
       ·go_wp2
        refine bodyPost_ret (results_none rfl _ _ _) rfl ?_;exact ⟨rfl, Or.inr (HF.out (by first | trivial | rfl))⟩
       ·go_wp2
        go_roundw
        case rel => exact ⟨pre ++ [(⟨k, s, n⟩, j)], j + s.size, g, by have := HQ.out; simp [this], ⟨(HE.out (by first | trivial | rfl)).2, (HE.out (by first | trivial | rfl)).1, HN.out.all, HN.out.fuel, HN.out.len, HN.out.le⟩⟩
        case measure => (have h1 := HN.out.len; have h2 := HN.out.le; have h3 := HQ.out; have h4 : (ByteArray.size (WW.s ⟨k, s, n⟩)) = s.size := rfl; rw [h4] at h1 h2; simp [intOf] at h1 ⊢; omega)
   ·have qm : decide (j < t.size) = false := decide_eq_false hjs
    rw [qm];go_wp2;go_end0;have hd := HA.out.done (next_end t i j HG.out hjs);rw [hd];exact ⟨rfl, Or.inl ⟨HC.out.2, HC.out.1⟩⟩
end Go.Proofs.YtlonbaefdffbeaaGreatDoor

