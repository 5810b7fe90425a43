import Derived.Test.YtlonbaefdffbeaaGreatDoorATree
namespace Go.Proofs.YtlonbaefdffbeaaGreatDoor
open Go.ChangeShapes Go.WideShapes Go.ChangeAt Go.RowKit Go.Proofs.Tryz
set_option linter.unusedSimpArgs false
set_option linter.unusedVariables false
set_option maxRecDepth 20000
set_option maxHeartbeats 2000000

theorem wp_namedA {P : Program} {c : Code} {Q : Exit → Act → World → Prop} {a : Act} {w0 : World} (Fct : World → Prop) (h : Fct w0) (k : ∀ W, Fct W → Code.wp P c Q a W) : Code.wp P c Q a w0 := k w0 h
theorem PAt.blocks {w W : World} {c : PC} {s : PSt} (h : PAt w c s) (h1 : W.heap[c.PB]? = w.heap[c.PB]?) (h2 : W.heap[c.g]? = w.heap[c.g]?) : PAt W c s := by
 have k : ∀ o v, w.cell? ⟨c.PB, o, none⟩ = some v → W.cell? ⟨c.PB, o, none⟩ = some v := fun o v hv => (World.cell?_of_block h1).trans hv;refine ⟨k _ _ h.c0, k _ _ h.c1, k _ _ h.c2, k _ _ h.c3, k _ _ h.c4, k _ _ h.c5, k _ _ h.c6, k _ _ h.c7, k _ _ h.c8, k _ _ h.c9, fun i => ?_, ⟨h.wds.cap, h.wds.lim, h.wds.adr, h.wds.ne, h.wds.siz, fun i x hx => ?_⟩, h.lim⟩
 ·have := h.fz i
  unfold World.frozen? at this ⊢;rw [h1];exact this
 ·have hr := h.wds.row i x hx
  have k2 : ∀ o v, w.cell? ⟨c.g, o, none⟩ = some v → W.cell? ⟨c.g, o, none⟩ = some v := fun o v hv => (World.cell?_of_block h2).trans hv;exact ⟨k2 _ _ hr.c0, k2 _ _ hr.c1, k2 _ _ hr.c2, k2 _ _ hr.c3, k2 _ _ hr.c4⟩
theorem node_set {w : World} {b : Nat} {d : ND} {v : Value} {h : Int} (hb : w.heap[b]? = some (.cells (nodeCells d v h) 87 (0, 0))) (h' : Int) : (w.setCell ⟨b, 13, none⟩ (.int .i64 h')).heap[b]? = some (.cells (nodeCells d v h') 87 (0, 0)) := by
 refine Eq.trans (heap_set_same (o := 13) hb _) ?_;simp [nodeCells]
def retRaise (c : PC) (s : PSt) (d : ND) (v : Value) (h : Int) (b : Nat) (w : World) : Ending → World → Prop := fun e W => e = .returned (.tuple #[]) ∧ W.heap[b]? = some (.cells (nodeCells d v h) 87 (0, 0)) ∧ PAt W c s ∧ Chg2 c.PB b w W
theorem raise_any (c : PC) (s : PSt) (d : ND) (v : Value) (h : Int) (b : Nat) (w : World) (hp : PAt w c s) (hb : w.heap[b]? = some (.cells (nodeCells d v h) 87 (0, 0))) (h1 : b ≠ c.PB) (h2 : b ≠ c.g) :
  Calls prog 144 #[.pointer (some ⟨c.PB, 0, none⟩), .pointer (some ⟨b, 0, none⟩)] w (retRaise c (highF (wrap64 (h + 1)) d.al d.ac s) d v (wrap64 (h + 1)) b w) := by
 have n1 := nc1 hb;have n2 := nc2 hb;have n13 : w.cell? ⟨b, 13, none⟩ = some (.int .i64 h) := heap_cell hb (by simp [nodeCells]);have g13 : w.frozen? ⟨b, 13, none⟩ = false := heap_frozen hb;have bl : b < w.heap.size := (zge hb).1
 have HS : Hid (∀ x, PAt (w.setCell ⟨b, 13, none⟩ (.int .i64 x)) c s ∧ Chg2 c.PB b w (w.setCell ⟨b, 13, none⟩ (.int .i64 x))) := fun x =>
  ⟨hp.blocks (heap_set_other (Ne.symm h1)) (heap_set_other (Ne.symm h2)), ⟨rfl, rfl, rfl, by rw [size_set]; exact Nat.le_refl _, fun k _ _ hk => heap_set_other hk⟩⟩
 have HB : Hid (w.heap[b]? = some (.cells (nodeCells d v h) 87 (0, 0))) := hb;obtain ⟨h', hh'⟩ : ∃ h', wrap64 (h + 1) = h' := ⟨_, rfl⟩;rw [hh'];unfold highF;clear hp hb
 by_cases hl : 200 < h'
 ·rw [if_pos hl]
  have HF : Hid (∀ W, PAt W c s → Calls prog 96 #[pp c, .int .i64 2, .agg #[.int .i64 d.al, .int .i64 d.ac]] W (pret (.tuple #[]) c (failF 2 d.al d.ac s) W)) := fun W h => fail_any c s 2 d.al d.ac W h
  go_enter func144, ntmps144
  go_wp2_with fail
  refine (HF.out _ (HS.out h').1).mono ?_;rintro e w1 ⟨rfl, hp1, hg1⟩;have hbl : w1.heap[b]? = some (.cells (nodeCells d v h') 87 (0, 0)) := (hg1.block b (by rw [size_set]; exact bl) h1).trans (node_set HB.out h');have hch : Chg2 c.PB b w w1 := ⟨hg1.os, hg1.tape, hg1.output, by have := hg1.size; rw [size_set] at this; exact this, fun k k1 k2 k3 => (hg1.block k (by rw [size_set]; exact k1) k2).trans (heap_set_other k3)⟩;dsimp only;go_wp2;refine bodyPost_ret (results_none rfl _ _ _) rfl ⟨rfl, hbl, hp1, hch⟩
 ·rw [if_neg hl]
  go_enter func144, ntmps144
  go_wp2;refine bodyPost_ret (results_none rfl _ _ _) rfl ⟨rfl, node_set HB.out h', (HS.out h').1, (HS.out h').2⟩
def hmax (l : List Tr) : Int := l.foldl (fun h t => max h t.h) 0
theorem hmax_snoc (l : List Tr) (t : Tr) : hmax (l ++ [t]) = max (hmax l) t.h := by simp [hmax]
def manyF (m al ac : Int) (s : PSt) : PSt := if 20000 < m then failF 2 al ac s else s
def countF (s : PSt) : PSt := { s with nodes := wrap64 (s.nodes + 1) }
def growS (s : PSt) (d : ND) (ps : List Tr) : PSt := highF (wrap64 (hmax ps + 1)) d.al d.ac (manyF (wrap64 (s.nodes + 1)) d.al d.ac (countF s))
def ND.num (d : ND) (m : Int) : ND := ⟨d.k, d.al, d.ac, d.name, d.op, d.n, d.ty, d.pub, m⟩
def growT (s : PSt) (d : ND) (ps : List Tr) : Tr := .mk (d.num (wrap64 (s.nodes + 1))) ps (wrap64 (hmax ps + 1))
def retTr (c : PC) (s : PSt) (t : Tr) (lo : Nat) (w : World) : Ending → World → Prop := fun e W => ∃ b, e = .returned (.pointer (some ⟨b, 0, none⟩)) ∧ Top W lo t b ∧ w.heap.size ≤ b ∧ PAt W c s ∧ Chg c.PB w W
theorem grow_any (c : PC) (s : PSt) (d : ND) (ps : List Tr) (bs : List Nat) (a : Option Addr) (cap lo : Nat) (w : World) (hp : PAt w c s) (hr : RowAt w lo w.heap.size a cap ps bs) (hlo : c.PB < lo) (hg : c.g < lo) (hle : lo ≤ w.heap.size) (hn : ps.length ≤ 1000000) :
  Calls prog 125 #[.pointer (some ⟨c.PB, 0, none⟩), .agg (nodeCells d (.slice a ps.length cap) 0)] w (retTr c (growS s d ps) (growT s d ps) lo w) := by
 unfold growS growT nodeCells;have PL := hp.lt;have n0 : (0 : Int) ≤ (ps.length : Int) := by omega
 have n9 : (ps.length : Int) ≤ 1000000 := by omega
 obtain ⟨m, hm⟩ : ∃ m, wrap64 (s.nodes + 1) = m := ⟨_, rfl⟩;rw [hm];have p0 := hp.c0;have p1 := hp.c1;have p2 := hp.c2;have p3 := hp.c3;have p4 := hp.c4;have p5 := hp.c5;have p6 := hp.c6;have p7 := hp.c7;have p8 := hp.c8;have p9 := hp.c9;have fz := hp.fz
 

 have HP : Hid (PAt w c s) := hp;have HR : Hid (RowAt w lo w.heap.size a cap ps bs) := hr;have HL : Hid (c.PB < lo ∧ c.g < lo ∧ lo ≤ w.heap.size) := ⟨hlo, hg, hle⟩;have gz : w.heap.size ≠ c.PB := by omega
 have HS1 : Hid (PAt ((w.setCell ⟨c.PB, 5, none⟩ (.int .i64 m)).alloc (.cells (nodeCells (d.num m) (.slice a ps.length cap) 0) 87)) c (countF s) ∧ Chg c.PB w ((w.setCell ⟨c.PB, 5, none⟩ (.int .i64 m)).alloc (.cells (nodeCells (d.num m) (.slice a ps.length cap) 0) 87)) ∧ ((w.setCell ⟨c.PB, 5, none⟩ (.int .i64 m)).alloc (.cells (nodeCells (d.num m) (.slice a ps.length cap) 0) 87)).heap[w.heap.size]? = some (.cells (nodeCells (d.num m) (.slice a ps.length cap) 0) 87 (0, 0))) := by
  have hch : Chg c.PB w ((w.setCell ⟨c.PB, 5, none⟩ (.int .i64 m)).alloc (.cells (nodeCells (d.num m) (.slice a ps.length cap) 0) 87)) := ((Chg.refl _ _).set _ _).alloc _;refine ⟨?_, hch, by have := World.alloc_heap_new (w.setCell ⟨c.PB, 5, none⟩ (.int .i64 m)) (.cells (nodeCells (d.num m) (.slice a ps.length cap) 0) 87); rw [size_set] at this; exact this⟩;unfold countF;rw [hm];exact ⟨by go_simp, by go_simp, by go_simp, by go_simp, by go_simp, by go_simp, by go_simp, by go_simp, by go_simp, by go_simp, fun i => by go_simp, HP.out.wds.chg hch, HP.out.lim⟩
 unfold nodeCells ND.num at HS1;clear hp hr hlo hg hle;obtain ⟨s2, hs2⟩ : ∃ s2, manyF m d.al d.ac (countF s) = s2 := ⟨_, rfl⟩;rw [hs2];unfold manyF at hs2
 by_cases hmany : 20000 < m
 ·rw [if_pos hmany] at hs2
  have HF : Hid (∀ W, PAt W c (countF s) → Calls prog 96 #[pp c, .int .i64 2, .agg #[.int .i64 d.al, .int .i64 d.ac]] W (pret (.tuple #[]) c s2 W)) := fun W h => hs2 ▸ fail_any c (countF s) 2 d.al d.ac W h
  go_enter func125, ntmps125
  go_wp2_with fail
  refine (HF.out _ HS1.out.1).mono ?_;rintro e w2 ⟨rfl, hp2, hg2⟩;have hb2 : w2.heap[w.heap.size]? = some (.cells (nodeCells (d.num m) (.slice a ps.length cap) 0) 87 (0, 0)) := (hg2.block _ (by simp [size_set]) gz).trans HS1.out.2.2;have n11 : w2.cell? ⟨w.heap.size, 11, none⟩ = some (.slice a ps.length cap) := heap_cell hb2 (by simp [nodeCells]);dsimp only;go_wp2;refine wp_namedA (fun W => PAt W c s2 ∧ Chg c.PB w W ∧ W.heap[w.heap.size]? = some (.cells (nodeCells (d.num m) (.slice a ps.length cap) 0) 87 (0, 0))) ⟨hp2, HS1.out.2.1.trans hg2, hb2⟩ ?_;rintro W ⟨hpW, hgW, hbW⟩;have HW : Hid (PAt W c s2 ∧ Chg c.PB w W ∧ W.heap[w.heap.size]? = some (.cells (nodeCells (d.num m) (.slice a ps.length cap) 0) 87 (0, 0))) := ⟨hpW, hgW, hbW⟩;clear hpW hgW hbW p0 p1 p2 p3 p4 p5 p6 p7 p8 p9 fz HS1
  go_loopw [31] (fun vi wr => ∃ i : Nat, i ≤ ps.length ∧ vi = .int .i64 (i : Int) ∧ Hid (PAt wr c s2 ∧ Chg c.PB w wr ∧ wr.heap[w.heap.size]? = some (.cells (nodeCells (d.num m) (.slice a ps.length cap) (hmax (ps.take i))) 87 (0, 0)))) (fun vi _ => ps.length - (intOf vi).toNat)
  case atStart => exact ⟨0, Nat.zero_le _, rfl, HW⟩
  case round =>
   obtain ⟨i, hi, rfl, HI⟩ := hrel;have i0 : (0 : Int) ≤ (i : Int) := by omega
   have hzb := HI.out.2.2;have hsz := HI.out.2.1.size;have h12 : wr.cell? ⟨w.heap.size, 13, none⟩ = some (.int .i64 (hmax (ps.take i))) := heap_cell hzb (by simp [nodeCells]);have f12 : wr.frozen? ⟨w.heap.size, 13, none⟩ = false := heap_frozen hzb;have zl : w.heap.size < wr.heap.size := (zge hzb).1
   by_cases hin : i < ps.length
   ·have i1 : (i : Int) < (ps.length : Int) := by omega
    obtain ⟨t, ht⟩ : ∃ t, ps[i]? = some t := ⟨_, List.getElem?_eq_getElem hin⟩;obtain ⟨x, hx⟩ : ∃ x, bs[i]? = some x := ⟨_, List.getElem?_eq_getElem (by have := HR.out.hl; omega)⟩;obtain ⟨g, rfl, hg1, hg2, hcells⟩ := HR.out.hrow (by intro h; rw [h] at hin; simp at hin);have hrw := HR.out.chg HI.out.2.1 HL.out.1 (Nat.le_refl _);obtain ⟨g', hge, _, _, hc2⟩ := hrw.hrow (by intro h; rw [h] at hin; simp at hin)
    injection hge with hge
    injection hge with hge
    subst hge;have cx := hc2 i x hx;obtain ⟨a2, cap2, bs2, hblk, _, hx1, hx2⟩ := (hrw.sub i t x ht hx).row;have tx : wr.cell? ⟨x, 13, none⟩ = some (.int .i64 t.h) := heap_cell hblk (by simp [nodeCells]);have hcap := HR.out.hcap;have xne : x ≠ w.heap.size := by omega
    have xne2 : w.heap.size ≠ x := by omega
    have HT : Hid (ps.take (i + 1) = ps.take i ++ [t]) := by
     show _ = _
     rw [List.take_add_one, ht]
     rfl
    clear ht hx hcells hrw hc2 hblk
    go_wp2_with (go_region)
    go_roundw
    case rel =>
     refine ⟨i + 1, by omega, by simp, ⟨?_, ?_, ?_⟩⟩
     ·exact HI.out.1.blocks (heap_set_other (Ne.symm gz)) (heap_set_other (by have := HL.out; omega))
     ·exact (HI.out.2.1.setNew (Nat.le_refl _) _ _).drew
     ·rw [HT.out, hmax_snoc]
      exact node_set hzb _
    case measure => simp [intOf]; omega
   ·have hie : i = ps.length := by omega
    have i1 : ¬ (i : Int) < (ps.length : Int) := by omega
    rw [hie, List.take_length] at hzb;have HZ : Hid (wr.heap[w.heap.size]? = some (.cells (nodeCells (d.num m) (.slice a ps.length cap) (hmax ps)) 87 (0, 0))) := hzb;clear hie h12 f12 hzb;go_wp2_with fail
    refine (raise_any c s2 (d.num m) _ (hmax ps) w.heap.size wr HI.out.1 HZ.out gz (by have := HL.out; omega)).mono ?_;rintro e w3 ⟨rfl, hb3, hp3, hg3⟩;have hc3 : Chg c.PB w w3 := hg3.chg HI.out.2.1 (Nat.le_refl _)
    have ht3 : Top w3 lo (.mk (d.num m) ps (wrap64 (hmax ps + 1))) w.heap.size := by
     have hs3 := (zge hb3).1;have hr3 := HR.out.chg hc3 HL.out.1 (Nat.le_refl _);exact ⟨a, cap, bs, hb3, hr3, HL.out.2.2⟩
    dsimp only;go_wp2;go_ret;exact ⟨_, rfl, ht3, Nat.le_refl _, hp3, hc3⟩
 ·rw [if_neg hmany] at hs2
  rw [hs2] at HS1
  go_enter func125, ntmps125
  go_wp2;refine wp_namedA (fun W => PAt W c s2 ∧ Chg c.PB w W ∧ W.heap[w.heap.size]? = some (.cells (nodeCells (d.num m) (.slice a ps.length cap) 0) 87 (0, 0))) HS1.out ?_;rintro W ⟨hpW, hgW, hbW⟩;have HW : Hid (PAt W c s2 ∧ Chg c.PB w W ∧ W.heap[w.heap.size]? = some (.cells (nodeCells (d.num m) (.slice a ps.length cap) 0) 87 (0, 0))) := ⟨hpW, hgW, hbW⟩;clear hpW hgW hbW p0 p1 p2 p3 p4 p5 p6 p7 p8 p9 fz HS1
  go_loopw [31] (fun vi wr => ∃ i : Nat, i ≤ ps.length ∧ vi = .int .i64 (i : Int) ∧ Hid (PAt wr c s2 ∧ Chg c.PB w wr ∧ wr.heap[w.heap.size]? = some (.cells (nodeCells (d.num m) (.slice a ps.length cap) (hmax (ps.take i))) 87 (0, 0)))) (fun vi _ => ps.length - (intOf vi).toNat)
  case atStart => exact ⟨0, Nat.zero_le _, rfl, HW⟩
  case round =>
   obtain ⟨i, hi, rfl, HI⟩ := hrel;have i0 : (0 : Int) ≤ (i : Int) := by omega
   have hzb := HI.out.2.2;have hsz := HI.out.2.1.size;have h12 : wr.cell? ⟨w.heap.size, 13, none⟩ = some (.int .i64 (hmax (ps.take i))) := heap_cell hzb (by simp [nodeCells]);have f12 : wr.frozen? ⟨w.heap.size, 13, none⟩ = false := heap_frozen hzb;have zl : w.heap.size < wr.heap.size := (zge hzb).1
   by_cases hin : i < ps.length
   ·have i1 : (i : Int) < (ps.length : Int) := by omega
    obtain ⟨t, ht⟩ : ∃ t, ps[i]? = some t := ⟨_, List.getElem?_eq_getElem hin⟩;obtain ⟨x, hx⟩ : ∃ x, bs[i]? = some x := ⟨_, List.getElem?_eq_getElem (by have := HR.out.hl; omega)⟩;obtain ⟨g, rfl, hg1, hg2, hcells⟩ := HR.out.hrow (by intro h; rw [h] at hin; simp at hin);have hrw := HR.out.chg HI.out.2.1 HL.out.1 (Nat.le_refl _);obtain ⟨g', hge, _, _, hc2⟩ := hrw.hrow (by intro h; rw [h] at hin; simp at hin)
    injection hge with hge
    injection hge with hge
    subst hge;have cx := hc2 i x hx;obtain ⟨a2, cap2, bs2, hblk, _, hx1, hx2⟩ := (hrw.sub i t x ht hx).row;have tx : wr.cell? ⟨x, 13, none⟩ = some (.int .i64 t.h) := heap_cell hblk (by simp [nodeCells]);have hcap := HR.out.hcap;have xne : x ≠ w.heap.size := by omega
    have xne2 : w.heap.size ≠ x := by omega
    have HT : Hid (ps.take (i + 1) = ps.take i ++ [t]) := by
     show _ = _
     rw [List.take_add_one, ht]
     rfl
    clear ht hx hcells hrw hc2 hblk
    go_wp2_with (go_region)
    go_roundw
    case rel =>
     refine ⟨i + 1, by omega, by simp, ⟨?_, ?_, ?_⟩⟩
     ·exact HI.out.1.blocks (heap_set_other (Ne.symm gz)) (heap_set_other (by have := HL.out; omega))
     ·exact (HI.out.2.1.setNew (Nat.le_refl _) _ _).drew
     ·rw [HT.out, hmax_snoc]
      exact node_set hzb _
    case measure => simp [intOf]; omega
   ·have hie : i = ps.length := by omega
    have i1 : ¬ (i : Int) < (ps.length : Int) := by omega
    rw [hie, List.take_length] at hzb;have HZ : Hid (wr.heap[w.heap.size]? = some (.cells (nodeCells (d.num m) (.slice a ps.length cap) (hmax ps)) 87 (0, 0))) := hzb;clear hie h12 f12 hzb;go_wp2_with fail
    refine (raise_any c s2 (d.num m) _ (hmax ps) w.heap.size wr HI.out.1 HZ.out gz (by have := HL.out; omega)).mono ?_;rintro e w3 ⟨rfl, hb3, hp3, hg3⟩;have hc3 : Chg c.PB w w3 := hg3.chg HI.out.2.1 (Nat.le_refl _)
    have ht3 : Top w3 lo (.mk (d.num m) ps (wrap64 (hmax ps + 1))) w.heap.size := by
     have hs3 := (zge hb3).1;have hr3 := HR.out.chg hc3 HL.out.1 (Nat.le_refl _);exact ⟨a, cap, bs, hb3, hr3, HL.out.2.2⟩
    dsimp only;go_wp2;go_ret;exact ⟨_, rfl, ht3, Nat.le_refl _, hp3, hc3⟩
end Go.Proofs.YtlonbaefdffbeaaGreatDoor
