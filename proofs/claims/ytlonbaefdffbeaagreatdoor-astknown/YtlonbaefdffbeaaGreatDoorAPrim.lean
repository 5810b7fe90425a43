import Derived.Test.YtlonbaefdffbeaaGreatDoorACall
namespace Go.Proofs.YtlonbaefdffbeaaGreatDoor
open Go.ChangeShapes Go.WideShapes Go.ChangeAt Go.RowKit Go.Proofs.Tryz
set_option linter.unusedSimpArgs false
set_option linter.unusedVariables false
set_option maxRecDepth 20000
set_option maxHeartbeats 4000000

def zeroD : ND := ⟨0, 0, 0, ⟨#[]⟩, ⟨#[]⟩, 0, noSh, false, 0⟩
def upT (t : Tr) : Tr := .mk t.d t.ps (wrap64 (t.h + 1))
def parenF (ex : PSt → Tr × PSt) (c : PC) (s : PSt) : Tr × PSt := (upT (ex s).1, highF (wrap64 ((ex s).1.h + 1)) (ex s).1.d.al (ex s).1.d.ac (needF c (ex s).2 ⟨#[41]⟩))
def inF (c : PC) (s : PSt) (x : Wd) : Tr × PSt := (growT (needF c (needF c s ⟨#[40]⟩) ⟨#[41]⟩) ⟨25, x.pl, x.pc, ⟨#[]⟩, ⟨#[]⟩, 0, noSh, false, 0⟩ [], growS (needF c (needF c s ⟨#[40]⟩) ⟨#[41]⟩) ⟨25, x.pl, x.pc, ⟨#[]⟩, ⟨#[]⟩, 0, noSh, false, 0⟩ [])
def primF (ex : PSt → Tr × PSt) (c : PC) (s : PSt) : Tr × PSt :=
 if (wordF c s).k = 2 then (let x := wordF c s; (growT { s with i := s.i + 1 } ⟨17, x.pl, x.pc, ⟨#[]⟩, ⟨#[]⟩, x.n, noSh, false, 0⟩ [], growS { s with i := s.i + 1 } ⟨17, x.pl, x.pc, ⟨#[]⟩, ⟨#[]⟩, x.n, noSh, false, 0⟩ []))
 else if (wordF c s).k = 1 then nameF ex c { s with i := s.i + 1 } (wordF c s)
 else if (takeF c s ⟨#[40]⟩).1 = true then parenF ex c (takeF c s ⟨#[40]⟩).2
 else if (takeF c s ⟨#[105, 110]⟩).1 = true then inF c (takeF c s ⟨#[105, 110]⟩).2 (wordF c s)
 else if (takeF c s ⟨#[115, 105, 122, 101, 111, 102]⟩).1 = true then sizeofF c (takeF c s ⟨#[115, 105, 122, 101, 111, 102]⟩).2 (wordF c s).pl (wordF c s).pc
 else (.mk zeroD [] 0, refuseF c s)
theorem Top.raised {PB : Nat} {w W : World} {lo b cap : Nat} {t : Tr} {a : Option Addr} {bs : List Nat} (h1 : w.heap[b]? = some (.cells (nodeCells t.d (.slice a t.ps.length cap) t.h) 87 (0, 0))) (h2 : RowAt w lo b a cap t.ps bs) (h3 : lo ≤ b) (hc : Chg2 PB b w W) (hP : PB < lo) (h4 : W.heap[b]? = some (.cells (nodeCells t.d (.slice a t.ps.length cap) (wrap64 (t.h + 1))) 87 (0, 0))) : Top W lo (upT t) b := by
 have hl := (zge h1).1;exact ⟨a, cap, bs, h4, h2.keep (fun k k1 k2 => hc.block k (by omega) (by omega) (by omega)), h3⟩
theorem prim_num (G : World → Prop) (ex : PSt → Tr × PSt) (c : PC) (s : PSt) (r : Nat) (w : World) (hp : PAt w c s) (hG : G w) (HGk : Hid (∀ W W', G W → Chg c.PB W W' → G W')) (HGt : Hid (∀ W, G W → TwTab W)) (hT : 2 ≠ c.PB) (HO : Hid (OneOk G 136 ex c r)) (HM : Hid (Goes ex c r)) (hr : remF c s ≤ r) (hgl : c.g < w.heap.size) (hk : (wordF c s).k = 2) : Calls prog 174 #[.pointer (some ⟨c.PB, 0, none⟩)] w (retE c (primF ex c s) w) := by
 have PL := hp.lt;have HP : Hid (PAt w c s) := hp;have HG0 : Hid (G w) := hG;have w9 : (c.ws.length : Int) ≤ 65536 := by have := hp.wds.lim; omega
 have i0 : (0 : Int) ≤ (s.i : Int) := by omega
 have HW : Hid (∀ W, PAt W c s → Calls prog 60 #[pp c] W (retWd (wordF c s) W)) := fun W h => word_any c s W h;have hlt := wordF_kind c s (by rw [hk]; decide);have i1 : (s.i : Int) < (c.ws.length : Int) := by omega
 have HI : Hid (s.i + 1 ≤ c.ws.length) := hlt.2;unfold primF;rw [if_pos hk];obtain ⟨x, hx⟩ : ∃ x, wordF c s = x := ⟨_, rfl⟩;rw [hx] at HW hk ⊢;dsimp only;have HGR : Hid (∀ W, PAt W c { s with i := s.i + 1 } → Chg c.PB w W → Calls prog 125 #[pp c, .agg #[.int .i64 17, .int .i64 x.pl, .int .i64 x.pc, .string ⟨#[]⟩, .string ⟨#[]⟩, .int .i64 x.n, .string ⟨#[]⟩, .int .i64 0, .bool false, .int .i64 0, .bool false, .slice none 0 0, .int .i64 0, .int .i64 0]] W (retTr c (growS { s with i := s.i + 1 } ⟨17, x.pl, x.pc, ⟨#[]⟩, ⟨#[]⟩, x.n, noSh, false, 0⟩ []) (growT { s with i := s.i + 1 } ⟨17, x.pl, x.pc, ⟨#[]⟩, ⟨#[]⟩, x.n, noSh, false, 0⟩ []) w.heap.size W)) := fun W h h2 => grow_any c { s with i := s.i + 1 } ⟨17, x.pl, x.pc, ⟨#[]⟩, ⟨#[]⟩, x.n, noSh, false, 0⟩ [] [] none 0 w.heap.size W h (RowAt.nil _ _ _ _ _) PL hgl h2.size (by simp);have q2 : (x.k == 2) = true := by simpa using hk
 clear hp hG hx hlt hr hgl
 go_enter func174, ntmps174
 go_wp2_with fail
 refine (HW.out _ HP.out).mono ?_;rintro e w1 ⟨rfl, hb1⟩;have HP1 : Hid (PAt w1 c s) := HP.out.below hb1;have HG1 : Hid (Chg c.PB w w1) := .of hb1;have hs1 : w.heap.size ≤ w1.heap.size := hb1.size;have gB : w1.heap.size ≠ c.PB := by omega
 have gB2 : c.PB ≠ w1.heap.size := by omega
 have p0 := HP1.out.c0;have p1 := HP1.out.c1;have p2 := HP1.out.c2;have p3 := HP1.out.c3;have p4 := HP1.out.c4;have p5 := HP1.out.c5;have p6 := HP1.out.c6;have p7 := HP1.out.c7;have p8 := HP1.out.c8;have p9 := HP1.out.c9;have fz := HP1.out.fz;have PL1 := HP1.out.lt
 have HX : Hid (PAt ((w1.setCell ⟨c.PB, 3, none⟩ (.int .i64 ((s.i : Int) + 1))).alloc (.cells #[.int .i64 2, .string x.s, .int .i64 x.n, .int .i64 x.pl, .int .i64 x.pc] 93)) c { s with i := s.i + 1 } ∧ Chg c.PB w ((w1.setCell ⟨c.PB, 3, none⟩ (.int .i64 ((s.i : Int) + 1))).alloc (.cells #[.int .i64 2, .string x.s, .int .i64 x.n, .int .i64 x.pl, .int .i64 x.pc] 93))) := by
  have hch : Chg c.PB w ((w1.setCell ⟨c.PB, 3, none⟩ (.int .i64 ((s.i : Int) + 1))).alloc (.cells #[.int .i64 2, .string x.s, .int .i64 x.n, .int .i64 x.pl, .int .i64 x.pc] 93)) := (HG1.out.set _ _).alloc _;exact ⟨⟨by go_simp, by go_simp, by go_simp, by go_simp, by go_simp, by go_simp, by go_simp, by go_simp, by go_simp, by go_simp, fun i => by go_simp, HP.out.wds.chg hch, HI.out⟩, hch⟩
 clear hb1;dsimp only;go_wp2_with fail
 refine (HGR.out _ HX.out.1 HX.out.2).mono ?_;rintro e w6 ⟨b, rfl, ht6, hb6, hp6, hg6⟩;have HF6 : Hid (Top w6 w.heap.size (growT { s with i := s.i + 1 } ⟨17, x.pl, x.pc, ⟨#[]⟩, ⟨#[]⟩, x.n, noSh, false, 0⟩ []) b ∧ PAt w6 c (growS { s with i := s.i + 1 } ⟨17, x.pl, x.pc, ⟨#[]⟩, ⟨#[]⟩, x.n, noSh, false, 0⟩ []) ∧ Chg c.PB w w6) := ⟨ht6, hp6, HX.out.2.trans hg6⟩;clear ht6 hp6 hg6;dsimp only;go_wp2;go_ret;exact ⟨b, rfl, HF6.out.1, HF6.out.2.1, HF6.out.2.2⟩
theorem prim_name (G : World → Prop) (ex : PSt → Tr × PSt) (c : PC) (s : PSt) (r : Nat) (w : World) (hp : PAt w c s) (hG : G w) (HGk : Hid (∀ W W', G W → Chg c.PB W W' → G W')) (HGt : Hid (∀ W, G W → TwTab W)) (hT : 2 ≠ c.PB) (HO : Hid (OneOk G 136 ex c r)) (HM : Hid (Goes ex c r)) (hr : remF c s ≤ r) (hgl : c.g < w.heap.size) (hk : (wordF c s).k = 1) : Calls prog 174 #[.pointer (some ⟨c.PB, 0, none⟩)] w (retE c (primF ex c s) w) := by
 have PL := hp.lt;have HP : Hid (PAt w c s) := hp;have HG0 : Hid (G w) := hG;have w9 : (c.ws.length : Int) ≤ 65536 := by have := hp.wds.lim; omega
 have i0 : (0 : Int) ≤ (s.i : Int) := by omega
 have HW : Hid (∀ W, PAt W c s → Calls prog 60 #[pp c] W (retWd (wordF c s) W)) := fun W h => word_any c s W h;have hlt := wordF_kind c s (by rw [hk]; decide);have i1 : (s.i : Int) < (c.ws.length : Int) := by omega
 have HI : Hid (s.i + 1 ≤ c.ws.length) := hlt.2
 have hrem : remF c { s with i := s.i + 1 } ≤ r := by
  unfold remF at hr ⊢;dsimp only;rw [if_pos hlt.1] at hr ⊢
  omega
 unfold primF;rw [if_neg (by rw [hk]; decide), if_pos hk];obtain ⟨x, hx⟩ : ∃ x, wordF c s = x := ⟨_, rfl⟩;rw [hx] at HW hk ⊢
 have HNC : Hid (∀ W, PAt W c { s with i := s.i + 1 } → Chg c.PB w W → Calls prog 176 #[pp c, .agg #[.int .i64 1, .string x.s, .int .i64 x.n, .int .i64 x.pl, .int .i64 x.pc]] W (retE c (nameF ex c { s with i := s.i + 1 } x) W)) := fun W h h2 => by
  have h9 := nameOrCall_any G ex c { s with i := s.i + 1 } r x W h (HGk.out _ _ hG h2) HGk HO HM hrem (by have := h2.size; omega);rw [hk] at h9;exact h9
 have q2 : (x.k == 2) = false := by rw [hk]; decide
 have q1 : (x.k == 1) = true := by simpa using hk
 clear hp hG hx hlt hr hgl hrem
 go_enter func174, ntmps174
 go_wp2_with fail
 refine (HW.out _ HP.out).mono ?_;rintro e w1 ⟨rfl, hb1⟩;have HP1 : Hid (PAt w1 c s) := HP.out.below hb1;have HG1 : Hid (Chg c.PB w w1) := .of hb1;have hs1 : w.heap.size ≤ w1.heap.size := hb1.size;have gB : w1.heap.size ≠ c.PB := by omega
 have gB2 : c.PB ≠ w1.heap.size := by omega
 have p0 := HP1.out.c0;have p1 := HP1.out.c1;have p2 := HP1.out.c2;have p3 := HP1.out.c3;have p4 := HP1.out.c4;have p5 := HP1.out.c5;have p6 := HP1.out.c6;have p7 := HP1.out.c7;have p8 := HP1.out.c8;have p9 := HP1.out.c9;have fz := HP1.out.fz;have PL1 := HP1.out.lt
 have HX : Hid (PAt ((w1.setCell ⟨c.PB, 3, none⟩ (.int .i64 ((s.i : Int) + 1))).alloc (.cells #[.int .i64 1, .string x.s, .int .i64 x.n, .int .i64 x.pl, .int .i64 x.pc] 93)) c { s with i := s.i + 1 } ∧ Chg c.PB w ((w1.setCell ⟨c.PB, 3, none⟩ (.int .i64 ((s.i : Int) + 1))).alloc (.cells #[.int .i64 1, .string x.s, .int .i64 x.n, .int .i64 x.pl, .int .i64 x.pc] 93))) := by
  have hch : Chg c.PB w ((w1.setCell ⟨c.PB, 3, none⟩ (.int .i64 ((s.i : Int) + 1))).alloc (.cells #[.int .i64 1, .string x.s, .int .i64 x.n, .int .i64 x.pl, .int .i64 x.pc] 93)) := (HG1.out.set _ _).alloc _;exact ⟨⟨by go_simp, by go_simp, by go_simp, by go_simp, by go_simp, by go_simp, by go_simp, by go_simp, by go_simp, by go_simp, fun i => by go_simp, HP.out.wds.chg hch, HI.out⟩, hch⟩
 clear hb1;dsimp only;go_wp2_with fail
 refine (HNC.out _ HX.out.1 HX.out.2).mono ?_;rintro e w6 ⟨b, rfl, ht6, hp6, hg6⟩;have HF6 : Hid (Top w6 w.heap.size (nameF ex c { s with i := s.i + 1 } x).1 b ∧ PAt w6 c (nameF ex c { s with i := s.i + 1 } x).2 ∧ Chg c.PB w w6) := ⟨ht6.mono HX.out.2.size, hp6, HX.out.2.trans hg6⟩;clear ht6 hp6 hg6;dsimp only;go_wp2;go_ret;exact ⟨b, rfl, HF6.out.1, HF6.out.2.1, HF6.out.2.2⟩
end Go.Proofs.YtlonbaefdffbeaaGreatDoor
