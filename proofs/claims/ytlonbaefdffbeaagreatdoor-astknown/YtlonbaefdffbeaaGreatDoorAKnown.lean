import Derived.Test.YtlonbaefdffbeaaGreatDoorXTxt
namespace Go.Proofs.YtlonbaefdffbeaaGreatDoor
open Go.ChangeShapes Go.WideShapes Go.ChangeAt Go.RowKit Go.Proofs.Tryz
set_option linter.unusedSimpArgs false
set_option linter.unusedVariables false
set_option maxRecDepth 100000
set_option maxHeartbeats 8000000

open nodeT okT kdT
set_option linter.constructorNameAsVariable false
theorem parse_1 (gb : Nat → Nat × Nat) (w : World) (hT : PTab gb w) : Calls prog 10 #[.string tx1] w (fun e W => Below w.heap.size w W ∧ ∃ PB g cap a b, e = .returned (.tuple #[.pointer (some ⟨b, 0, none⟩), .agg #[.int .i64 0, .int .i64 0], .int .i64 0]) ∧ ProgAt W w.heap.size b (pr1 PB g cap a).1 (pr1 PB g cap a).2.nodes) := by
 refine (parse_any gb tx1 w hT).mono ?_;rintro e W ⟨hb, h⟩;rw [if_neg (by decide), le1, if_neg (by omega)] at h;obtain ⟨PB, g, cap, a, h⟩ := h;rw [pc1] at h
 rcases h with ⟨h, _⟩ | ⟨_, b, rfl, hp⟩
 ·exact absurd (e1_ok PB g cap a) h
 ·exact ⟨hb, PB, g, cap, a, b, rfl, hp⟩
theorem text_1 (PB g cap : Nat) (a : Option Addr) (lo b : Nat) (n : Int) (w : World) (h : ProgAt w lo b (pr1 PB g cap a).1 n) (ht : Tab10 w) : Calls prog 11 #[.pointer (some ⟨b, 0, none⟩)] w (fun e W => e = .returned (.string ex1) ∧ Below w.heap.size w W) := by
 have hl := e1_lim PB g cap a;simp only [Bool.and_eq_true, decide_eq_true_eq] at hl;have := Text_any lo b _ n w h ht (e1_oks PB g cap a) (e1_kds PB g cap a) hl.1.1 hl.1.2 hl.2;rw [e1_txt] at this;exact this
theorem parse_4 (gb : Nat → Nat × Nat) (w : World) (hT : PTab gb w) : Calls prog 10 #[.string tx4] w (fun e W => Below w.heap.size w W ∧ ∃ PB g cap a b, e = .returned (.tuple #[.pointer (some ⟨b, 0, none⟩), .agg #[.int .i64 0, .int .i64 0], .int .i64 0]) ∧ ProgAt W w.heap.size b (pr4 PB g cap a).1 (pr4 PB g cap a).2.nodes) := by
 refine (parse_any gb tx4 w hT).mono ?_;rintro e W ⟨hb, h⟩;rw [if_neg (by decide), le4, if_neg (by omega)] at h;obtain ⟨PB, g, cap, a, h⟩ := h;rw [pc4] at h
 rcases h with ⟨h, _⟩ | ⟨_, b, rfl, hp⟩
 ·exact absurd (e4_ok PB g cap a) h
 ·exact ⟨hb, PB, g, cap, a, b, rfl, hp⟩
theorem text_4 (PB g cap : Nat) (a : Option Addr) (lo b : Nat) (n : Int) (w : World) (h : ProgAt w lo b (pr4 PB g cap a).1 n) (ht : Tab10 w) : Calls prog 11 #[.pointer (some ⟨b, 0, none⟩)] w (fun e W => e = .returned (.string ex4) ∧ Below w.heap.size w W) := by
 have hl := e4_lim PB g cap a;simp only [Bool.and_eq_true, decide_eq_true_eq] at hl;have := Text_any lo b _ n w h ht (e4_oks PB g cap a) (e4_kds PB g cap a) hl.1.1 hl.1.2 hl.2;rw [e4_txt] at this;exact this
theorem parse_2 (gb : Nat → Nat × Nat) (w : World) (hT : PTab gb w) : Calls prog 10 #[.string tx2] w (fun e W => e = .returned (.tuple #[.pointer none, .agg #[.int .i64 1, .int .i64 7], .int .i64 4]) ∧ Below w.heap.size w W) := by
 refine (parse_any gb tx2 w hT).mono ?_;rintro e W ⟨hb, h⟩;rw [if_neg (by decide), le2, if_neg (by omega)] at h;obtain ⟨PB, g, cap, a, h⟩ := h;rw [pc2] at h;have hx := e2_bad PB g cap a;simp only [Prod.mk.injEq] at hx;obtain ⟨x1, x2, x3⟩ := hx
 change (¬ (pr2 PB g cap a).2.e = 0 ∧ e = .returned (.tuple #[.pointer none, .agg #[.int .i64 (pr2 PB g cap a).2.fl, .int .i64 (pr2 PB g cap a).2.fc], .int .i64 (pr2 PB g cap a).2.e])) ∨ ((pr2 PB g cap a).2.e = 0 ∧ _) at h
 rw [x1, x2, x3] at h
 rcases h with ⟨_, rfl⟩ | ⟨h, _⟩
 ·exact ⟨rfl, hb⟩
 ·exact absurd h (by decide)
theorem parse_3 (gb : Nat → Nat × Nat) (w : World) (hT : PTab gb w) : Calls prog 10 #[.string tx3] w (fun e W => e = .returned (.tuple #[.pointer none, .agg #[.int .i64 1, .int .i64 7], .int .i64 3]) ∧ Below w.heap.size w W) := by
 refine (parse_any gb tx3 w hT).mono ?_;rintro e W ⟨hb, h⟩;rw [if_neg (by decide), le3, if_pos (by decide), po3] at h;exact ⟨h, hb⟩
theorem fun_1 (PB g cap : Nat) (a : Option Addr) (lo b : Nat) (n : Int) (w : World) (h : ProgAt w lo b (pr1 PB g cap a).1 n) : Calls prog 16 #[.pointer (some ⟨b, 0, none⟩)] w (fun e W => Below w.heap.size w W ∧ ∃ g' cap', e = .returned (.slice (some ⟨g', 0, none⟩) 1 cap') ∧ 1 ≤ cap' ∧ g' < W.heap.size ∧ W.cell? ⟨g', 0, none⟩ = some (.string ⟨#[102]⟩)) := by
 have hl := e1_lim PB g cap a;simp only [Bool.and_eq_true, decide_eq_true_eq] at hl;have := Functions_any lo b _ n w h hl.1.1;rw [e1_fun] at this;refine this.mono ?_;rintro e W ⟨a', cap', rfl, hr, hb⟩;obtain ⟨g', rfl, h1, h2, h3, h4⟩ := row_str hr rfl (by simp);exact ⟨hb, g', cap', rfl, h3, h2, h4 0 _ rfl⟩
theorem nod_1 (PB g cap : Nat) (a : Option Addr) (lo b : Nat) (w : World) (h : ProgAt w lo b (pr1 PB g cap a).1 (pr1 PB g cap a).2.nodes) : Calls prog 17 #[.pointer (some ⟨b, 0, none⟩)] w (fun e W => (∃ n, e = .returned (.int .i64 n) ∧ 3 < n) ∧ W = w) := by
 refine (Nodes_any lo b _ _ w h).mono ?_;rintro e W ⟨rfl, rfl⟩;have := of_decide_eq_true (e1_nod PB g cap a);exact ⟨⟨_, rfl, this.1⟩, rfl⟩
theorem Tab10.below {w W : World} (h : Tab10 w) (hb : Below w.heap.size w W) : Tab10 W := by
 refine tab10_keep h (hb.block _ ?_);have hg : prog.globalNamed "internal/strconv.uint64pow10" = some 4 := by kernel_rfl
 unfold Tab10 Lib.TabIs World.var? at h;rw [hg] at h;simp only [Option.bind_some] at h
 rcases Nat.lt_or_ge 4 w.heap.size with h1 | h1
 ·exact h1
 ·have : w.heap[4]? = none := Array.getElem?_eq_none h1
  simp_all
theorem awake_any (gb : Nat → Nat × Nat) (w : World) (hT : PTab gb w) (ht : Tab10 w) : Calls prog 9 #[] w (retP (.bool true) w) := by
 have HL : Hid (∀ W, Below w.heap.size w W → PTab gb W ∧ Tab10 W) := fun W h => ⟨hT.keep h, ht.below h⟩;clear hT ht
 go_enter func9, ntmps9
 go_wp2_with fail
 refine (parse_1 gb _ (HL.out _ (Below.refl _ _)).1).mono ?_;rintro e w1 ⟨hb1, PB, g, cap, a, b, rfl, hp⟩;have HP : Hid (ProgAt w1 w.heap.size b (pr1 PB g cap a).1 (pr1 PB g cap a).2.nodes) := hp;have HB1 : Hid (Below w.heap.size w w1) := hb1;have hb2 : Below w1.heap.size w1 (w1.alloc (.cells #[.int .i64 0, .int .i64 0] 25)) := (Below.refl _ _).alloc (Nat.le_refl _) _;have HP2 : Hid (ProgAt (w1.alloc (.cells #[.int .i64 0, .int .i64 0] 25)) w.heap.size b (pr1 PB g cap a).1 (pr1 PB g cap a).2.nodes) := hp.keep hb2;have HB2 : Hid (Below w.heap.size w (w1.alloc (.cells #[.int .i64 0, .int .i64 0] 25))) := bel_alloc hb1 _;clear hp hb1 hb2;go_wp2_with fail
 refine (fun_1 PB g cap a _ _ _ _ HP2.out).mono ?_;rintro e w2 ⟨hb2, g', cap', rfl, hc1, hg2, hcell⟩;have HP3 : Hid (ProgAt w2 w.heap.size b (pr1 PB g cap a).1 (pr1 PB g cap a).2.nodes) := HP2.out.keep hb2;have HB3 : Hid (Below w.heap.size w w2) := bel_trans HB2.out hb2;clear hb2 HP HP2 HB1 HB2;go_wp2_with fail
 refine (text_1 PB g cap a _ _ _ _ HP3.out (HL.out _ HB3.out).2).mono ?_;rintro e w3 ⟨rfl, hb3⟩;have HP4 : Hid (ProgAt w3 w.heap.size b (pr1 PB g cap a).1 (pr1 PB g cap a).2.nodes) := HP3.out.keep hb3;have HB4 : Hid (Below w.heap.size w w3) := bel_trans HB3.out hb3;have c3 : w3.cell? ⟨g', 0, none⟩ = some (.string ⟨#[102]⟩) := keep_cell hb3 hcell;have g3 : g' < w3.heap.size := Nat.lt_of_lt_of_le hg2 hb3.size;clear hb3 HP3 HB3 hcell hg2;unfold ex1;go_wp2_with fail
 refine (nod_1 PB g cap a _ _ _ HP4.out).mono ?_;rintro e w4 ⟨⟨n, rfl, hn⟩, rfl⟩;have hd : decide ((3 : Int) < n) = true := decide_eq_true hn;go_wp2;go_ret;exact ⟨by simp [hn], HB4.out⟩
theorem astKnown_walk (gb : Nat → Nat × Nat) (w : World) (hT : PTab gb w) (ht : Tab10 w) : Calls prog 3 #[] w (retP (.bool true) w) := by
 have HL : Hid (∀ W, Below w.heap.size w W → PTab gb W ∧ Tab10 W) := fun W h => ⟨hT.keep h, ht.below h⟩;have HB0 : Hid (Below w.heap.size w w) := Below.refl _ _;clear hT ht
 go_enter func3, ntmps3
 go_wp2_with fail
 refine (awake_any gb _ (HL.out _ HB0.out).1 (HL.out _ HB0.out).2).mono ?_;rintro e w1 ⟨rfl, hb1⟩;have HB1 : Hid (Below w.heap.size w w1) := bel_trans HB0.out hb1;clear hb1 HB0;go_wp2_with fail
 refine (parse_2 gb _ (HL.out _ HB1.out).1).mono ?_;rintro e w2 ⟨rfl, hb2⟩;have HB2 : Hid (Below w.heap.size w (w2.alloc (.cells #[.int .i64 1, .int .i64 7] 25))) := bel_alloc (bel_trans HB1.out hb2) _;clear hb2 HB1;go_wp2_with fail
 refine (parse_3 gb _ (HL.out _ HB2.out).1).mono ?_;rintro e w3 ⟨rfl, hb3⟩;have HB3 : Hid (Below w.heap.size w (w3.alloc (.cells #[.int .i64 1, .int .i64 7] 25))) := bel_alloc (bel_trans HB2.out hb3) _;have p0 : w3.cell? ⟨w2.heap.size, 0, none⟩ = some (.int .i64 1) := keep_cell hb3 (by go_simp);have p1 : w3.cell? ⟨w2.heap.size, 1, none⟩ = some (.int .i64 7) := keep_cell hb3 (by go_simp);have n23 : w2.heap.size < w3.heap.size := by have := hb3.size; simp at this; omega
 clear hb3 HB2;go_wp2_with fail
 refine (parse_4 gb _ (HL.out _ HB3.out).1).mono ?_;rintro e w4 ⟨hb4, PB, g, cap, a, b, rfl, hp⟩;have HB4 : Hid (Below w.heap.size w (w4.alloc (.cells #[.int .i64 0, .int .i64 0] 25))) := bel_alloc (bel_trans HB3.out hb4) _;have HP4 : Hid (ProgAt (w4.alloc (.cells #[.int .i64 0, .int .i64 0] 25)) (w3.alloc (.cells #[.int .i64 1, .int .i64 7] 25)).heap.size b (pr4 PB g cap a).1 (pr4 PB g cap a).2.nodes) := hp.keep ((Below.refl _ _).alloc (Nat.le_refl _) _);have p2 : w4.cell? ⟨w2.heap.size, 0, none⟩ = some (.int .i64 1) := keep_cell hb4 (by go_simp);have p3 : w4.cell? ⟨w2.heap.size, 1, none⟩ = some (.int .i64 7) := keep_cell hb4 (by go_simp);have q2 : w4.cell? ⟨w3.heap.size, 0, none⟩ = some (.int .i64 1) := keep_cell hb4 (by go_simp);have q3 : w4.cell? ⟨w3.heap.size, 1, none⟩ = some (.int .i64 7) := keep_cell hb4 (by go_simp);have n34 : w3.heap.size < w4.heap.size := by have := hb4.size; simp at this; omega
 have n24 : w2.heap.size < w4.heap.size := by omega
 clear hb4 HB3 p0 p1 hp;go_wp2_with fail
 refine (text_4 PB g cap a _ _ _ _ HP4.out (HL.out _ HB4.out).2).mono ?_;rintro e w5 ⟨rfl, hb5⟩;have HB5 : Hid (Below w.heap.size w w5) := bel_trans HB4.out hb5;clear hb5 HB4 HP4;unfold ex4;go_wp2;go_ret;exact ⟨by simp, HB5.out⟩
end Go.Proofs.YtlonbaefdffbeaaGreatDoor
