import Derived.DefersIn
import Derived.RangeFuncLeaves
import Derived.RangeFuncSeq
import Derived.Test.YtlonbaefdffbeaaGreatDoorLRange
import Derived.Test.YtlonbaefdffbeaaGreatDoorACall
import Derived.RangeFuncBox
import Derived.Test.YtlonbaefdffbeaaGreatDoorAUnM
import Derived.Deep.AppendLies
import Derived.Maps.AppendAt
import Derived.Deep.LoopGhost
import Derived.WalkMore
import Derived.Deep.Cut
namespace Go.Proofs.YtlonbaefdffbeaaGreatDoor
open Go.ChangeShapes Go.WideShapes Go.ChangeAt Go.RowKit Go.Proofs.Tryz
set_option linter.unusedSimpArgs false
set_option linter.unusedVariables false
set_option maxRecDepth 100000
set_option maxHeartbeats 16000000

def retRaw (c : PC) (s : PSt) (d : ND) (a : Option Addr) (n cap : Nat) (h : Int) (w : World) : Ending → World → Prop := fun e W => ∃ b, e = .returned (.pointer (some ⟨b, 0, none⟩)) ∧ W.heap[b]? = some (.cells (nodeCells d (.slice a n cap) h) 87 (0, 0)) ∧ w.heap.size ≤ b ∧ PAt W c s ∧ Chg c.PB w W
theorem grow_raw (c : PC) (s : PSt) (d : ND) (ps : List Tr) (bs : List Nat) (a : Option Addr) (cap lo : Nat) (w : World) (hp : PAt w c s) (hr : RowAt w lo w.heap.size a cap ps bs) (hlo : c.PB < lo) (hg : c.g < lo) (hle : lo ≤ w.heap.size) (hn : ps.length ≤ 1000000) :
  Calls prog 125 #[.pointer (some ⟨c.PB, 0, none⟩), .agg (nodeCells d (.slice a ps.length cap) 0)] w (retRaw c (growS s d ps) (d.num (wrap64 (s.nodes + 1))) a ps.length cap (wrap64 (hmax ps + 1)) w) := by
 unfold growS nodeCells;have PL := hp.lt;have n0 : (0 : Int) ≤ (ps.length : Int) := by omega
 have n9 : (ps.length : Int) ≤ 1000000 := by omega
 obtain ⟨m, hm⟩ : ∃ m, wrap64 (s.nodes + 1) = m := ⟨_, rfl⟩;rw [hm];have p0 := hp.c0;have p1 := hp.c1;have p2 := hp.c2;have p3 := hp.c3;have p4 := hp.c4;have p5 := hp.c5;have p6 := hp.c6;have p7 := hp.c7;have p8 := hp.c8;have p9 := hp.c9;have fz := hp.fz
 

 have HP : Hid (PAt w c s) := hp;have HR : Hid (RowAt w lo w.heap.size a cap ps bs) := hr;have HL : Hid (c.PB < lo ∧ c.g < lo ∧ lo ≤ w.heap.size) := ⟨hlo, hg, hle⟩;have gz : w.heap.size ≠ c.PB := by omega
 have HS1 : Hid (PAt ((w.setCell ⟨c.PB, 5, none⟩ (.int .i64 m)).alloc (.cells (nodeCells (d.num m) (.slice a ps.length cap) 0) 87)) c (countF s) ∧ Chg c.PB w ((w.setCell ⟨c.PB, 5, none⟩ (.int .i64 m)).alloc (.cells (nodeCells (d.num m) (.slice a ps.length cap) 0) 87)) ∧ ((w.setCell ⟨c.PB, 5, none⟩ (.int .i64 m)).alloc (.cells (nodeCells (d.num m) (.slice a ps.length cap) 0) 87)).heap[w.heap.size]? = some (.cells (nodeCells (d.num m) (.slice a ps.length cap) 0) 87 (0, 0))) := by
  have hch : Chg c.PB w ((w.setCell ⟨c.PB, 5, none⟩ (.int .i64 m)).alloc (.cells (nodeCells (d.num m) (.slice a ps.length cap) 0) 87)) := ((Chg.refl _ _).set _ _).alloc _;refine ⟨?_, hch, by have := World.alloc_heap_new (w.setCell ⟨c.PB, 5, none⟩ (.int .i64 m)) (.cells (nodeCells (d.num m) (.slice a ps.length cap) 0) 87); rw [size_set] at this; exact this⟩;unfold countF;rw [hm];exact ⟨by go_simp, by go_simp, by go_simp, by go_simp, by go_simp, by go_simp, by go_simp, by go_simp, by go_simp, by go_simp, fun i => by go_simp, HP.out.wds.chg hch, HP.out.lim⟩
 unfold nodeCells ND.num at HS1;clear hp hr hlo hg hle;obtain ⟨s2, hs2⟩ : ∃ s2, manyF m d.al d.ac (countF s) = s2 := ⟨_, rfl⟩;rw [hs2];unfold manyF at hs2
 by_cases hmany : 20000 < m
 ·rw [if_pos hmany] at hs2
  have HF : Hid (∀ W, PAt W c (countF s) → Calls prog 96 #[pp c, .int .i64 2, .agg #[.int .i64 d.al, .int .i64 d.ac]] W (pret (.tuple #[]) c s2 W)) := fun W h => hs2 ▸ fail_any c (countF s) 2 d.al d.ac W h
  go_enter func125, ntmps125
  go_wp2_with fail
  refine (HF.out _ HS1.out.1).mono ?_;rintro e w2 ⟨rfl, hp2, hg2⟩;have hb2 : w2.heap[w.heap.size]? = some (.cells (nodeCells (d.num m) (.slice a ps.length cap) 0) 87 (0, 0)) := (hg2.block _ (by simp [size_set]) gz).trans HS1.out.2.2;have n11 : w2.cell? ⟨w.heap.size, 11, none⟩ = some (.slice a ps.length cap) := heap_cell hb2 (by simp [nodeCells]);dsimp only;go_wp2;refine wp_namedA (fun W => PAt W c s2 ∧ Chg c.PB w W ∧ W.heap[w.heap.size]? = some (.cells (nodeCells (d.num m) (.slice a ps.length cap) 0) 87 (0, 0))) ⟨hp2, HS1.out.2.1.trans hg2, hb2⟩ ?_;rintro W ⟨hpW, hgW, hbW⟩;have HW : Hid (PAt W c s2 ∧ Chg c.PB w W ∧ W.heap[w.heap.size]? = some (.cells (nodeCells (d.num m) (.slice a ps.length cap) 0) 87 (0, 0))) := ⟨hpW, hgW, hbW⟩;clear hpW hgW hbW p0 p1 p2 p3 p4 p5 p6 p7 p8 p9 fz HS1
  go_loopw [31] (fun vi wr => ∃ i : Nat, i ≤ ps.length ∧ vi = .int .i64 (i : Int) ∧ Hid (PAt wr c s2 ∧ Chg c.PB w wr ∧ wr.heap[w.heap.size]? = some (.cells (nodeCells (d.num m) (.slice a ps.length cap) (hmax (ps.take i))) 87 (0, 0)))) (fun vi _ => ps.length - (intOf vi).toNat)
  case atStart => exact ⟨0, Nat.zero_le _, rfl, HW⟩
  case round =>
   obtain ⟨i, hi, rfl, HI⟩ := hrel;have i0 : (0 : Int) ≤ (i : Int) := by omega
   have hzb := HI.out.2.2;have hsz := HI.out.2.1.size;have h12 : wr.cell? ⟨w.heap.size, 13, none⟩ = some (.int .i64 (hmax (ps.take i))) := heap_cell hzb (by simp [nodeCells]);have f12 : wr.frozen? ⟨w.heap.size, 13, none⟩ = false := heap_frozen hzb;have zl : w.heap.size < wr.heap.size := (zge hzb).1
   by_cases hin : i < ps.length
   ·have i1 : (i : Int) < (ps.length : Int) := by omega
    obtain ⟨t, ht⟩ : ∃ t, ps[i]? = some t := ⟨_, List.getElem?_eq_getElem hin⟩;obtain ⟨x, hx⟩ : ∃ x, bs[i]? = some x := ⟨_, List.getElem?_eq_getElem (by have := HR.out.hl; omega)⟩;obtain ⟨g, rfl, hg1, hg2, hcells⟩ := HR.out.hrow (by intro h; rw [h] at hin; simp at hin);have hrw := HR.out.chg HI.out.2.1 HL.out.1 (Nat.le_refl _);obtain ⟨g', hge, _, _, hc2⟩ := hrw.hrow (by intro h; rw [h] at hin; simp at hin)
    injection hge with hge
    injection hge with hge
    subst hge;have cx := hc2 i x hx;obtain ⟨a2, cap2, bs2, hblk, _, hx1, hx2⟩ := (hrw.sub i t x ht hx).row;have tx : wr.cell? ⟨x, 13, none⟩ = some (.int .i64 t.h) := heap_cell hblk (by simp [nodeCells]);have hcap := HR.out.hcap;have xne : x ≠ w.heap.size := by omega
    have xne2 : w.heap.size ≠ x := by omega
    have HT : Hid (ps.take (i + 1) = ps.take i ++ [t]) := by
     show _ = _
     rw [List.take_add_one, ht]
     rfl
    clear ht hx hcells hrw hc2 hblk
    go_wp2_with (go_region)
    go_roundw
    case rel =>
     refine ⟨i + 1, by omega, by simp, ⟨?_, ?_, ?_⟩⟩
     ·exact HI.out.1.blocks (heap_set_other (Ne.symm gz)) (heap_set_other (by have := HL.out; omega))
     ·exact (HI.out.2.1.setNew (Nat.le_refl _) _ _).drew
     ·rw [HT.out, hmax_snoc]
      exact node_set hzb _
    case measure => simp [intOf]; omega
   ·have hie : i = ps.length := by omega
    have i1 : ¬ (i : Int) < (ps.length : Int) := by omega
    rw [hie, List.take_length] at hzb;have HZ : Hid (wr.heap[w.heap.size]? = some (.cells (nodeCells (d.num m) (.slice a ps.length cap) (hmax ps)) 87 (0, 0))) := hzb;clear hie h12 f12 hzb;go_wp2_with fail
    refine (raise_any c s2 (d.num m) _ (hmax ps) w.heap.size wr HI.out.1 HZ.out gz (by have := HL.out; omega)).mono ?_;rintro e w3 ⟨rfl, hb3, hp3, hg3⟩;have hc3 : Chg c.PB w w3 := hg3.chg HI.out.2.1 (Nat.le_refl _)
    have ht3 : Top w3 lo (.mk (d.num m) ps (wrap64 (hmax ps + 1))) w.heap.size := by
     have hs3 := (zge hb3).1;have hr3 := HR.out.chg hc3 HL.out.1 (Nat.le_refl _);exact ⟨a, cap, bs, hb3, hr3, HL.out.2.2⟩
    dsimp only;go_wp2;go_ret;exact ⟨_, rfl, hb3, Nat.le_refl _, hp3, hc3⟩
 ·rw [if_neg hmany] at hs2
  rw [hs2] at HS1
  go_enter func125, ntmps125
  go_wp2;refine wp_namedA (fun W => PAt W c s2 ∧ Chg c.PB w W ∧ W.heap[w.heap.size]? = some (.cells (nodeCells (d.num m) (.slice a ps.length cap) 0) 87 (0, 0))) HS1.out ?_;rintro W ⟨hpW, hgW, hbW⟩;have HW : Hid (PAt W c s2 ∧ Chg c.PB w W ∧ W.heap[w.heap.size]? = some (.cells (nodeCells (d.num m) (.slice a ps.length cap) 0) 87 (0, 0))) := ⟨hpW, hgW, hbW⟩;clear hpW hgW hbW p0 p1 p2 p3 p4 p5 p6 p7 p8 p9 fz HS1
  go_loopw [31] (fun vi wr => ∃ i : Nat, i ≤ ps.length ∧ vi = .int .i64 (i : Int) ∧ Hid (PAt wr c s2 ∧ Chg c.PB w wr ∧ wr.heap[w.heap.size]? = some (.cells (nodeCells (d.num m) (.slice a ps.length cap) (hmax (ps.take i))) 87 (0, 0)))) (fun vi _ => ps.length - (intOf vi).toNat)
  case atStart => exact ⟨0, Nat.zero_le _, rfl, HW⟩
  case round =>
   obtain ⟨i, hi, rfl, HI⟩ := hrel;have i0 : (0 : Int) ≤ (i : Int) := by omega
   have hzb := HI.out.2.2;have hsz := HI.out.2.1.size;have h12 : wr.cell? ⟨w.heap.size, 13, none⟩ = some (.int .i64 (hmax (ps.take i))) := heap_cell hzb (by simp [nodeCells]);have f12 : wr.frozen? ⟨w.heap.size, 13, none⟩ = false := heap_frozen hzb;have zl : w.heap.size < wr.heap.size := (zge hzb).1
   by_cases hin : i < ps.length
   ·have i1 : (i : Int) < (ps.length : Int) := by omega
    obtain ⟨t, ht⟩ : ∃ t, ps[i]? = some t := ⟨_, List.getElem?_eq_getElem hin⟩;obtain ⟨x, hx⟩ : ∃ x, bs[i]? = some x := ⟨_, List.getElem?_eq_getElem (by have := HR.out.hl; omega)⟩;obtain ⟨g, rfl, hg1, hg2, hcells⟩ := HR.out.hrow (by intro h; rw [h] at hin; simp at hin);have hrw := HR.out.chg HI.out.2.1 HL.out.1 (Nat.le_refl _);obtain ⟨g', hge, _, _, hc2⟩ := hrw.hrow (by intro h; rw [h] at hin; simp at hin)
    injection hge with hge
    injection hge with hge
    subst hge;have cx := hc2 i x hx;obtain ⟨a2, cap2, bs2, hblk, _, hx1, hx2⟩ := (hrw.sub i t x ht hx).row;have tx : wr.cell? ⟨x, 13, none⟩ = some (.int .i64 t.h) := heap_cell hblk (by simp [nodeCells]);have hcap := HR.out.hcap;have xne : x ≠ w.heap.size := by omega
    have xne2 : w.heap.size ≠ x := by omega
    have HT : Hid (ps.take (i + 1) = ps.take i ++ [t]) := by
     show _ = _
     rw [List.take_add_one, ht]
     rfl
    clear ht hx hcells hrw hc2 hblk
    go_wp2_with (go_region)
    go_roundw
    case rel =>
     refine ⟨i + 1, by omega, by simp, ⟨?_, ?_, ?_⟩⟩
     ·exact HI.out.1.blocks (heap_set_other (Ne.symm gz)) (heap_set_other (by have := HL.out; omega))
     ·exact (HI.out.2.1.setNew (Nat.le_refl _) _ _).drew
     ·rw [HT.out, hmax_snoc]
      exact node_set hzb _
    case measure => simp [intOf]; omega
   ·have hie : i = ps.length := by omega
    have i1 : ¬ (i : Int) < (ps.length : Int) := by omega
    rw [hie, List.take_length] at hzb;have HZ : Hid (wr.heap[w.heap.size]? = some (.cells (nodeCells (d.num m) (.slice a ps.length cap) (hmax ps)) 87 (0, 0))) := hzb;clear hie h12 f12 hzb;go_wp2_with fail
    refine (raise_any c s2 (d.num m) _ (hmax ps) w.heap.size wr HI.out.1 HZ.out gz (by have := HL.out; omega)).mono ?_;rintro e w3 ⟨rfl, hb3, hp3, hg3⟩;have hc3 : Chg c.PB w w3 := hg3.chg HI.out.2.1 (Nat.le_refl _)
    have ht3 : Top w3 lo (.mk (d.num m) ps (wrap64 (hmax ps + 1))) w.heap.size := by
     have hs3 := (zge hb3).1;have hr3 := HR.out.chg hc3 HL.out.1 (Nat.le_refl _);exact ⟨a, cap, bs, hb3, hr3, HL.out.2.2⟩
    dsimp only;go_wp2;go_ret;exact ⟨_, rfl, hb3, Nat.le_refl _, hp3, hc3⟩

inductive TreeIn (W : World) (S : Nat → Prop) : Tr → Nat → Prop where
 | mk (d : ND) (ps : List Tr) (h : Int) (b : Nat) (bs : List Nat) (a : Option Addr) (cap : Nat) (hS : S b) (blk : W.heap[b]? = some (.cells (nodeCells d (.slice a ps.length cap) h) 87 (0, 0)))
   (hcap : ps.length ≤ cap) (hrow : ps ≠ [] → ∃ g, a = some ⟨g, 0, none⟩ ∧ S g ∧ ∀ (i : Nat) (x : Nat), bs[i]? = some x → W.cell? ⟨g, i, none⟩ = some (.pointer (some ⟨x, 0, none⟩)))
   (hl : bs.length = ps.length) (sub : ∀ (i : Nat) (t : Tr) (x : Nat), ps[i]? = some t → bs[i]? = some x → TreeIn W S t x) : TreeIn W S (.mk d ps h) b
theorem TreeAt.within {W : World} {lo hi : Nat} {S : Nat → Prop} (hS : ∀ k, lo ≤ k → k < hi → S k) {t : Tr} {b : Nat} (h : TreeAt W lo hi t b) : TreeIn W S t b := by
 induction h with
 | mk d ps h b bs a cap hlo hhi blk hcap hrow hl sub ih =>
  refine .mk d ps h b bs a cap (hS b hlo hhi) blk hcap (fun hne => ?_) hl ih;obtain ⟨g, h1, h2, h3, h4⟩ := hrow hne;exact ⟨g, h1, hS g h2 h3, h4⟩
theorem TreeIn.at_ {W : World} {lo hi : Nat} {S : Nat → Prop} (hS : ∀ k, S k → lo ≤ k ∧ k < hi) {t : Tr} {b : Nat} (h : TreeIn W S t b) : TreeAt W lo hi t b := by
 induction h with
 | mk d ps h b bs a cap hSb blk hcap hrow hl sub ih =>
  refine .mk d ps h b bs a cap (hS b hSb).1 (hS b hSb).2 blk hcap (fun hne => ?_) hl ih;obtain ⟨g, h1, h2, h4⟩ := hrow hne;exact ⟨g, h1, (hS g h2).1, (hS g h2).2, h4⟩
theorem TreeIn.keep {W W' : World} {S S' : Nat → Prop} (hb : ∀ k, S k → W'.heap[k]? = W.heap[k]?) (hS : ∀ k, S k → S' k) {t : Tr} {b : Nat} (h : TreeIn W S t b) : TreeIn W' S' t b := by
 induction h with
 | mk d ps h b bs a cap hSb blk hcap hrow hl sub ih =>
  refine .mk d ps h b bs a cap (hS b hSb) ((hb b hSb).trans blk) hcap (fun hne => ?_) hl ih;obtain ⟨g, h1, h2, h4⟩ := hrow hne;exact ⟨g, h1, hS g h2, fun i x hx => (World.cell?_of_block (hb g h2)).trans (h4 i x hx)⟩
structure RowIn (W : World) (S : Nat → Prop) (a : Option Addr) (cap : Nat) (ps : List Tr) (bs : List Nat) : Prop where
 hcap : ps.length ≤ cap
 hrow : ps ≠ [] → ∃ g, a = some ⟨g, 0, none⟩ ∧ S g ∧ ∀ (i : Nat) (x : Nat), bs[i]? = some x → W.cell? ⟨g, i, none⟩ = some (.pointer (some ⟨x, 0, none⟩))
 hl : bs.length = ps.length
 sub : ∀ (i : Nat) (t : Tr) (x : Nat), ps[i]? = some t → bs[i]? = some x → TreeIn W S t x
theorem RowIn.keep {W W' : World} {S S' : Nat → Prop} {a : Option Addr} {cap : Nat} {ps : List Tr} {bs : List Nat} (h : RowIn W S a cap ps bs) (hb : ∀ k, S k → W'.heap[k]? = W.heap[k]?) (hS : ∀ k, S k → S' k) : RowIn W' S' a cap ps bs :=
 ⟨h.hcap, fun hne => match h.hrow hne with
  | ⟨g, h1, h2, h4⟩ => ⟨g, h1, hS g h2, fun i x hx => (World.cell?_of_block (hb g h2)).trans (h4 i x hx)⟩, h.hl, fun i t x ht hx => (h.sub i t x ht hx).keep hb hS⟩
def TopIn (W : World) (S : Nat → Prop) (t : Tr) (b : Nat) : Prop := ∃ a cap bs, W.heap[b]? = some (.cells (nodeCells t.d (.slice a t.ps.length cap) t.h) 87 (0, 0)) ∧ S b ∧ RowIn W (fun k => S k ∧ k < b) a cap t.ps bs
theorem Top.within {W : World} {lo : Nat} {S : Nat → Prop} {t : Tr} {b : Nat} (h : Top W lo t b) (hS : ∀ k, lo ≤ k → k ≤ b → S k) : TopIn W S t b := by
 obtain ⟨a, cap, bs, h1, h2, h3⟩ := h;refine ⟨a, cap, bs, h1, hS b h3 (Nat.le_refl _), h2.hcap, fun hne => ?_, h2.hl, fun i t x ht hx => (h2.sub i t x ht hx).within (fun k k1 k2 => ⟨hS k k1 (by omega), k2⟩)⟩;obtain ⟨g, q1, q2, q3, q4⟩ := h2.hrow hne;exact ⟨g, q1, ⟨hS g q2 (by omega), q3⟩, q4⟩
theorem TopIn.keep {W W' : World} {S : Nat → Prop} {t : Tr} {b : Nat} (h : TopIn W S t b) (hb : ∀ k, S k → k < W.heap.size → W'.heap[k]? = W.heap[k]?) : TopIn W' S t b := by
 obtain ⟨a, cap, bs, h1, h2, h3⟩ := h;have hl := (zge h1).1;exact ⟨a, cap, bs, (hb b h2 hl).trans h1, h2, h3.keep (fun k hk => hb k hk.1 (by omega)) (fun k hk => hk)⟩
theorem TopIn.top {W : World} {S : Nat → Prop} {lo : Nat} {t : Tr} {b : Nat} (h : TopIn W S t b) (hS : ∀ k, S k → lo ≤ k) : Top W lo t b := by
 obtain ⟨a, cap, bs, h1, h2, h3⟩ := h;refine ⟨a, cap, bs, h1, ⟨h3.hcap, fun hne => ?_, h3.hl, fun i t x ht hx => (h3.sub i t x ht hx).at_ (fun k hk => ⟨hS k hk.1, hk.2⟩)⟩, hS b h2⟩;obtain ⟨g, q1, q2, q4⟩ := h3.hrow hne;exact ⟨g, q1, hS g q2.1, q2.2, q4⟩
theorem TopIn.all {W : World} {S : Nat → Prop} {t : Tr} {b : Nat} (h : TopIn W S t b) : TreeIn W (fun k => S k ∧ k ≤ b) t b := by
 obtain ⟨a, cap, bs, h1, h2, h3⟩ := h
 cases t with
 | mk d ps hh =>
  have h3' := h3.keep (W' := W) (S' := fun k => S k ∧ k ≤ b) (fun k _ => rfl) (fun k hk => ⟨hk.1, Nat.le_of_lt hk.2⟩);exact .mk d ps hh b bs a cap ⟨h2, Nat.le_refl _⟩ h1 h3'.hcap h3'.hrow h3'.hl h3'.sub
theorem TopIn.grow {W W' : World} {S : Nat → Prop} {t : Tr} {b g b' : Nat} {d : ND} {h : Int} (ht : TopIn W S t b) (hg : W.heap[g]? = some (.cells #[.pointer (some ⟨b, 0, none⟩)] 83 (0, 0))) (hSg : S g) (hSb : S b') (hbg : g < W.heap.size) (hb' : W.heap.size ≤ b')
  (hn : W'.heap[b']? = some (.cells (nodeCells d (.slice (some ⟨g, 0, none⟩) 1 1) h) 87 (0, 0))) (hk : ∀ k, S k → k < W.heap.size → W'.heap[k]? = W.heap[k]?) : TopIn W' S (.mk d [t] h) b' := by
 have hl : b < W.heap.size := by obtain ⟨a, cap, bs, h1, _⟩ := ht; exact (zge h1).1
 have hr : RowIn W' (fun k => S k ∧ k < b') (some ⟨g, 0, none⟩) 1 [t] [b] := by
  refine ⟨Nat.le_refl _, fun _ => ⟨g, rfl, ⟨hSg, by omega⟩, fun i x hx => ?_⟩, rfl, fun i t' x ht' hx => ?_⟩
  ·have hi : i = 0 := by have := (List.getElem?_eq_some_iff.1 hx).1; simp at this; omega
   subst hi;simp at hx;subst hx;exact heap_cell ((hk g hSg hbg).trans hg) (by simp)
  ·have hi : i = 0 := by have := (List.getElem?_eq_some_iff.1 hx).1; simp at this; omega
   subst hi;simp at hx ht';subst hx ht';exact ht.all.keep (fun k hk' => hk k hk'.1 (by omega)) (fun k hk' => ⟨hk'.1, by omega⟩)
 exact ⟨some ⟨g, 0, none⟩, 1, [b], hn, hSb, hr⟩
theorem leave_d (c : PC) (s : PSt) (n : Nat) (u : FrameMode) (w : World) (hp : PAt w c s) : CallsDIn Fence.wide n prog 139 #[.pointer (some ⟨c.PB, 0, none⟩)] u w (fun e u' w' => u' = u ∧ pret (.tuple #[]) c (leaveF s) w e w') := by
 refine callsDIn_of_wp func139 rfl trivial ?_;refine wpIn_wide.2 ?_;simp only [ntmps139, List.size_toArray, List.length_cons, List.length_nil, Nat.reduceAdd, Nat.reduceSub, Array.replicate_succ, Array.replicate_zero, List.push_toArray, List.append_toArray, List.nil_append, List.cons_append];unfold leaveF;have p0 := hp.c0;have p1 := hp.c1;have p2 := hp.c2;have p3 := hp.c3;have p4 := hp.c4;have p5 := hp.c5;have p6 := hp.c6;have p7 := hp.c7;have p8 := hp.c8;have p9 := hp.c9;have fz := hp.fz;have PL := hp.lt;have HP : Hid (PAt w c s) := hp;clear hp;go_wp2;refine bodyPost_ret (results_none rfl _ _ _) rfl ⟨rfl, ⟨by go_simp, by go_simp, by go_simp, by go_simp, by go_simp, by go_simp, by go_simp, by go_simp, by go_simp, by go_simp, fun i => by go_simp, HP.out.wds.chg (by (repeat (first | with_reducible exact Chg.refl _ _ | with_reducible assumption | with_reducible exact HG.out | with_reducible refine Chg.alloc ?_ _ | with_reducible refine Chg.drew ?_ | with_reducible refine Chg.drewN ?_ _ | with_reducible refine Chg.set ?_ _ _ | with_reducible refine Chg.setNew ?_ (by first | exact Nat.le_refl _ | (simp; done) | (simp; omega)) _ _))), HP.out.lim⟩, by (repeat (first | with_reducible exact Chg.refl _ _ | with_reducible assumption | with_reducible exact HG.out | with_reducible refine Chg.alloc ?_ _ | with_reducible refine Chg.drew ?_ | with_reducible refine Chg.drewN ?_ _ | with_reducible refine Chg.set ?_ _ _ | with_reducible refine Chg.setNew ?_ (by first | exact Nat.le_refl _ | (simp; done) | (simp; omega)) _ _))⟩

attribute [local go_sem] Oper.semAt_some
theorem backward_any (a : Option Addr) (n cap : Nat) (w : World) : Calls prog 173 #[.slice a n cap] w fun e w' => e = .returned (.func (.func 175) #[] #[.pointer (some ⟨w.heap.size, 0, none⟩)]) ∧ w' = w.alloc (.cells #[.slice a n cap] 186) := by
 go_enter func173, ntmps173
 go_wp2;go_ret;exact ⟨rfl, rfl⟩
structure NodeAt (W : World) (g i : Nat) (d : ND) : Prop where
 c0 : W.cell? ⟨g, i * 14, none⟩ = some (.int .i64 d.k)
 c1 : W.cell? ⟨g, i * 14 + 1, none⟩ = some (.int .i64 d.al)
 c2 : W.cell? ⟨g, i * 14 + 2, none⟩ = some (.int .i64 d.ac)
 c3 : W.cell? ⟨g, i * 14 + 3, none⟩ = some (.string d.name)
 c4 : W.cell? ⟨g, i * 14 + 4, none⟩ = some (.string d.op)
 c5 : W.cell? ⟨g, i * 14 + 5, none⟩ = some (.int .i64 d.n)
 c6 : W.cell? ⟨g, i * 14 + 6, none⟩ = some (.string d.ty.base)
 c7 : W.cell? ⟨g, i * 14 + 7, none⟩ = some (.int .i64 d.ty.stars)
 c8 : W.cell? ⟨g, i * 14 + 8, none⟩ = some (.bool d.ty.isList)
 c9 : W.cell? ⟨g, i * 14 + 9, none⟩ = some (.int .i64 d.ty.count)
 c10 : W.cell? ⟨g, i * 14 + 10, none⟩ = some (.bool d.pub)
 c11 : W.cell? ⟨g, i * 14 + 11, none⟩ = some (.slice none 0 0)
 c12 : W.cell? ⟨g, i * 14 + 12, none⟩ = some (.int .i64 d.sr)
 c13 : W.cell? ⟨g, i * 14 + 13, none⟩ = some (.int .i64 0)

def regionU (n : Nat) : Code → Option Code
 | .region i a b => if i = n then some (.region i a b) else none
 | .seq a b => match regionU n a with
  | some c => some c
  | none => regionU n b
 | .block _ c => regionU n c
 | .scope c => regionU n c
 | .loop c => regionU n c
 | .cond _ a b => match regionU n a with
  | some c => some c
  | none => regionU n b
 | _ => none
noncomputable def bkR3 : Code := ((Tryz.f175.body.bind (regionU 3)).getD .skip)
theorem bk_r3 (l bx g cap n i : Nat) (d : ND) (w1 : World) (z2z z4z z5z z6z z7z z8z z9z z10z z11z z12z z13z z14z z15z z16z z17z z18z : Value) (K : Act → World → Prop) (QQ : Exit → Act → World → Prop) (R : Ending → World → Prop)
  (cb : w1.cell? ⟨bx, 0, none⟩ = some (.slice (some ⟨g, 0, none⟩) n cap)) (hn : NodeAt w1 g i d) (hi : i < n) (hc : n ≤ cap)
  (hY : YieldAt Fence.wide 1 prog l #[.int .i64 (i : Int), .agg (nodeCells d (.slice none 0 0) 0)] w1 R)
  (HR : Hid (∀ e W, R e W → e = .returned (.bool true)))
  (HK : Hid (∀ W y11 y12 y13 y14 y15 y16, R (.returned (.bool true)) W → K ⟨#[.func (.yield l) #[] #[], .pointer (some ⟨bx, 0, none⟩), z2z, .int .i64 (i : Int), z4z, z5z, z6z, z7z, z8z, z9z, z10z, y11, y12, y13, y14, y15, y16, .bool true, .bool false], []⟩ W)) :
  Code.wp prog bkR3 (Exit.then K QQ) ⟨#[.func (.yield l) #[] #[], .pointer (some ⟨bx, 0, none⟩), z2z, .int .i64 (i : Int), z4z, z5z, z6z, z7z, z8z, z9z, z10z, z11z, z12z, z13z, z14z, z15z, z16z, z17z, z18z], []⟩ w1 := by
 have i0 : (0 : Int) ≤ (i : Int) := by omega
 have i1 : (i : Int) < (n : Int) := by omega
 have h0 := hn.c0;have h1 := hn.c1;have h2 := hn.c2;have h3 := hn.c3;have h4 := hn.c4;have h5 := hn.c5;have h6 := hn.c6;have h7 := hn.c7;have h8 := hn.c8;have h9 := hn.c9;have h10 := hn.c10;have h11 := hn.c11;have h12 := hn.c12;have h13 := hn.c13;refine (wpIn_wide (n := 2)).1 ?_
 conv => arg 4; whnf
 obtain ⟨fn, tmps, assign, body, hy, hR⟩ := hY;unfold nodeCells at hy
 gi_wp2
 refine hR.mono ?_;intro e W h;obtain rfl := HR.out e W h
 gi_wp2
 exact HK.out W _ _ _ _ _ _ h
theorem backward1_any (l bx g cap : Nat) (a : Option Addr) (ds : List ND) (w : World) (J : Nat → World → Prop) (h0 : J ds.length w) (ha : ds ≠ [] → a = some ⟨g, 0, none⟩) (hcap : ds.length ≤ cap) (hlim : ds.length ≤ 65536)
  (HJ : Hid (∀ i W, J i W → W.cell? ⟨bx, 0, none⟩ = some (.slice a ds.length cap) ∧ ∀ k d, ds[k]? = some d → NodeAt W g k d))
  (HY : Hid (∀ i d W, ds[i]? = some d → J (i + 1) W → YieldAt Fence.wide 1 prog l #[.int .i64 (i : Int), .agg (nodeCells d (.slice none 0 0) 0)] W (fun e W' => e = .returned (.bool true) ∧ J i W'))) :
  Calls prog 175 #[.func (.yield l) #[] #[], .pointer (some ⟨bx, 0, none⟩)] w fun e W => e = .returned (.tuple #[]) ∧ J 0 W := by
 have n0 : (0 : Int) ≤ (ds.length : Int) := by omega
 have n1 : (ds.length : Int) ≤ 65536 := by omega
 have HJ0 : Hid (J ds.length w) := h0;have cb := (HJ.out _ _ h0).1;have hw : IntKind.i64.wrap ((ds.length : Int) - 1) = (ds.length : Int) - 1 := by rw [IntKind.wrap_i64]; omega
 clear h0
 go_enter func175, ntmps175
 go_wp2
 go_loopw [3] (fun v wr => ∃ i : Nat, i ≤ ds.length ∧ v = .int .i64 ((i : Int) - 1) ∧ Hid (J i wr)) (fun v _ => (intOf v + 1).toNat)
 case atStart => exact ⟨ds.length, Nat.le_refl _, rfl, HJ0⟩
 case round =>
  obtain ⟨i, hi, rfl, HI⟩ := hrel;clear cb HJ0
  cases i with
  | zero =>
   go_wp2;go_end0;exact ⟨rfl, HI.out⟩
  | succ i =>
   have e1 : ((i + 1 : Nat) : Int) - 1 = (i : Int) := by omega
   rw [e1];have i0 : (0 : Int) ≤ (i : Int) := by omega
   have i9 : (i : Int) ≤ 65536 := by omega
   have i3 : ¬ (i : Int) < 0 := by omega
   have hw1 : IntKind.i64.wrap ((i : Int) - 1) = (i : Int) - 1 := by rw [IntKind.wrap_i64]; omega
   obtain ⟨d, hd⟩ : ∃ d, ds[i]? = some d := ⟨_, List.getElem?_eq_getElem (by omega)⟩;have hrow := (HJ.out _ _ HI.out).2 i d hd;have cb := (HJ.out _ _ HI.out).1;rw [ha (by intro h; rw [h] at hd; simp at hd)] at cb;have hy := HY.out i d wr hd HI.out;clear hd
   go_upto_region 3 with fail
   refine bk_r3 l bx g cap ds.length i d wr _ _ _ _ _ _ _ _ _ _ _ _ _ _ _ _ _ _ _ cb hrow (by omega) hcap hy ?_ ?_
   ·rintro e W ⟨rfl, _⟩
    rfl
   ·rintro W y11 y12 y13 y14 y15 y16 ⟨_, hW⟩
    have HW : Hid (J i W) := hW;clear hW hy hrow cb;go_wp2
    go_roundw
    case rel => exact ⟨i, by omega, rfl, HW⟩
    case measure => simp [intOf]

attribute [local go_sem] Oper.semAt_some
def rangeOfU : Code → Option (Array Tmp × Code × Code)
 | .rangeFunc _ ps a b => some (ps, a, b)
 | .seq a b => match rangeOfU a with
  | some c => some c
  | none => rangeOfU b
 | .block _ c => rangeOfU c
 | .scope c => rangeOfU c
 | .loop c => rangeOfU c
 | .cond _ a b => match rangeOfU a with
  | some c => some c
  | none => rangeOfU b
 | _ => none
noncomputable def uAssign : Code := ((Tryz.f167.body.bind rangeOfU).map (·.2.1)).getD .skip
noncomputable def uBody : Code := ((Tryz.f167.body.bind rangeOfU).map (·.2.2)).getD .skip
structure UKeep (PB eb l : Nat) (w W : World) : Prop where
 os : W.os = w.os
 tape : W.tape = w.tape
 output : W.output = w.output
 size : w.heap.size ≤ W.heap.size
 block : ∀ k, k < w.heap.size → k ≠ PB → k ≠ eb → k ≠ l → W.heap[k]? = w.heap[k]?
theorem un_round (l pb eb df lo : Nat) (fn : FuncId) (q : Int) (d : ND) (c : PC) (s : PSt) (t : Tr) (b : Nat) (S : Nat → Prop) (z0z z2z z3z z4z z5z z6z z8z z9z z10z z11z z12z z13z z14z z15z z16z z17z z18z z19z z20z z21z z22z z23z z24z z25z z26z z27z z28z z29z z30z z31z z32z z33z z34z z35z z36z z37z z38z z39z z40z z41z z42z z43z z44z z45z z46z z47z z48z z49z z50z z51z z52z z53z z54z z55z z56z z57z z58z z59z z60z z61z z62z z63z z64z z65z z66z z67z z68z z69z z70z z71z : Value) (W : World) (R : Ending → World → Prop)
  (hl : W.heap[l]? = some (.loop (loopRec fn #[z0z, .pointer (some ⟨pb, 0, none⟩), z2z, z3z, z4z, z5z, z6z, .pointer (some ⟨eb, 0, none⟩), z8z, z9z, z10z, z11z, z12z, z13z, z14z, z15z, z16z, z17z, z18z, z19z, z20z, z21z, z22z, z23z, z24z, z25z, z26z, z27z, z28z, z29z, z30z, z31z, z32z, z33z, z34z, z35z, z36z, z37z, z38z, z39z, z40z, z41z, z42z, z43z, z44z, z45z, z46z, z47z, z48z, z49z, z50z, z51z, z52z, z53z, z54z, z55z, z56z, z57z, z58z, z59z, z60z, z61z, z62z, z63z, z64z, z65z, z66z, z67z, z68z, z69z, z70z, z71z] #[63, 64] uAssign uBody df))) (HP : Hid (PAt W c s)) (hpb : Boxed W pb 57 (.pointer (some ⟨c.PB, 0, none⟩))) (heb : Boxed W eb 83 (.pointer (some ⟨b, 0, none⟩))) (HT : Hid (TopIn W S t b))
  (HS : Hid (∀ k, S k → lo ≤ k ∧ k ≠ eb ∧ k ≠ l)) (HS2 : Hid (∀ k, W.heap.size ≤ k → S k)) (HL : Hid (c.PB < lo ∧ c.g < lo ∧ lo ≤ W.heap.size))
  (n1 : l ≠ eb) (n2 : l ≠ pb) (n3 : pb ≠ eb) (n4 : c.PB ≠ l) (n5 : c.PB ≠ eb) (n6 : c.PB ≠ pb) (n7 : c.g ≠ l) (n8 : c.g ≠ eb)
  (HK : Hid (∀ b' W', PAt W' c (growS s d [t]) → TopIn W' S (growT s d [t]) b' → Boxed W' eb 83 (.pointer (some ⟨b', 0, none⟩)) → UKeep c.PB eb l W W' → W'.heap[l]? = W.heap[l]? → R (.returned (.bool true)) W')) :
  YieldAt Fence.wide 1 prog l #[.int .i64 q, .agg (nodeCells d (.slice none 0 0) 0)] W R := by
 refine yield_round hl rfl rfl trivial ?_;simp only [loopRec]
 conv => arg 4; whnf
 have lp : pb < W.heap.size := hpb.lt;have le : eb < W.heap.size := heb.lt;have PL := HP.out.lt;have GL : c.g < W.heap.size := by have := HL.out; omega
 unfold nodeCells
 gi_wp2
 have ll : l < W.heap.size := (zge hl).1;refine ⟨(Below.heap_alloc W _ l ll).trans hl, ?_⟩
 conv => arg 4; whnf
 obtain ⟨W1, hW1⟩ : ∃ W1, (W.alloc (.cells #[.int .i64 d.k, .int .i64 d.al, .int .i64 d.ac, .string d.name, .string d.op, .int .i64 d.n, .string d.ty.base, .int .i64 d.ty.stars, .bool d.ty.isList, .int .i64 d.ty.count, .bool d.pub, .slice none 0 0, .int .i64 d.sr, .int .i64 0] 87)).putObj l (.loop { state := .busy, pending := none, fn := fn, tmps := #[z0z, .pointer (some ⟨pb, 0, none⟩), z2z, z3z, z4z, z5z, z6z, .pointer (some ⟨eb, 0, none⟩), z8z, z9z, z10z, z11z, z12z, z13z, z14z, z15z, z16z, z17z, z18z, z19z, z20z, z21z, z22z, z23z, z24z, z25z, z26z, z27z, z28z, z29z, z30z, z31z, z32z, z33z, z34z, z35z, z36z, z37z, z38z, z39z, z40z, z41z, z42z, z43z, z44z, z45z, z46z, z47z, z48z, z49z, z50z, z51z, z52z, z53z, z54z, z55z, z56z, z57z, z58z, z59z, z60z, z61z, z62z, z63z, z64z, z65z, z66z, z67z, z68z, z69z, z70z, z71z], params := #[63, 64], assign := uAssign, body := uBody, defers := df }) = W1 := ⟨_, rfl⟩
 have HB1 : Hid (∀ k, k < W.heap.size → k ≠ l → W1.heap[k]? = W.heap[k]?) := fun k hk hn => by
  rw [← hW1, World.putObj_heap_other hn];exact Below.heap_alloc W _ k hk
 have s1 : W1.heap.size = W.heap.size + 1 := by rw [← hW1]; simp
 have b1 : W1.heap[W.heap.size]? = some (.cells #[.int .i64 d.k, .int .i64 d.al, .int .i64 d.ac, .string d.name, .string d.op, .int .i64 d.n, .string d.ty.base, .int .i64 d.ty.stars, .bool d.ty.isList, .int .i64 d.ty.count, .bool d.pub, .slice none 0 0, .int .i64 d.sr, .int .i64 0] 87 (0, 0)) := by
  rw [← hW1, World.putObj_heap_other (by omega)];exact World.alloc_heap_new W _
 have l1 : W1.heap[l]? = some (.loop { state := .busy, pending := none, fn := fn, tmps := #[z0z, .pointer (some ⟨pb, 0, none⟩), z2z, z3z, z4z, z5z, z6z, .pointer (some ⟨eb, 0, none⟩), z8z, z9z, z10z, z11z, z12z, z13z, z14z, z15z, z16z, z17z, z18z, z19z, z20z, z21z, z22z, z23z, z24z, z25z, z26z, z27z, z28z, z29z, z30z, z31z, z32z, z33z, z34z, z35z, z36z, z37z, z38z, z39z, z40z, z41z, z42z, z43z, z44z, z45z, z46z, z47z, z48z, z49z, z50z, z51z, z52z, z53z, z54z, z55z, z56z, z57z, z58z, z59z, z60z, z61z, z62z, z63z, z64z, z65z, z66z, z67z, z68z, z69z, z70z, z71z], params := #[63, 64], assign := uAssign, body := uBody, defers := df }) := by
  rw [← hW1];exact World.putObj_heap_same (by simp; omega)
 have v1 : Boxed W1 eb 83 (.pointer (some ⟨b, 0, none⟩)) := (HB1.out eb le (Ne.symm n1)).trans heb;have p1 : Boxed W1 pb 57 (.pointer (some ⟨c.PB, 0, none⟩)) := (HB1.out pb lp (Ne.symm n2)).trans hpb;have HP1 : Hid (PAt W1 c s) := HP.out.blocks (HB1.out _ PL n4) (HB1.out _ GL n7);have HT1 : Hid (TopIn W1 S t b) := HT.out.keep (fun k hk hk2 => HB1.out k hk2 (HS.out k hk).2.2);have HO1 : Hid (W1.os = W.os ∧ W1.tape = W.tape ∧ W1.output = W.output) := by rw [← hW1]; exact ⟨rfl, rfl, rfl⟩
 rw [hW1];clear hW1;have ce := v1.cell;have cp := p1.cell;have a0 : W1.cell? ⟨W.heap.size, 0, none⟩ = some (.int .i64 d.k) := heap_cell b1 (by simp);have a1 : W1.cell? ⟨W.heap.size, 1, none⟩ = some (.int .i64 d.al) := heap_cell b1 (by simp);have a2 : W1.cell? ⟨W.heap.size, 2, none⟩ = some (.int .i64 d.ac) := heap_cell b1 (by simp);have a3 : W1.cell? ⟨W.heap.size, 3, none⟩ = some (.string d.name) := heap_cell b1 (by simp);have a4 : W1.cell? ⟨W.heap.size, 4, none⟩ = some (.string d.op) := heap_cell b1 (by simp);have a5 : W1.cell? ⟨W.heap.size, 5, none⟩ = some (.int .i64 d.n) := heap_cell b1 (by simp);have a6 : W1.cell? ⟨W.heap.size, 6, none⟩ = some (.string d.ty.base) := heap_cell b1 (by simp);have a7 : W1.cell? ⟨W.heap.size, 7, none⟩ = some (.int .i64 d.ty.stars) := heap_cell b1 (by simp);have a8 : W1.cell? ⟨W.heap.size, 8, none⟩ = some (.bool d.ty.isList) := heap_cell b1 (by simp);have a9 : W1.cell? ⟨W.heap.size, 9, none⟩ = some (.int .i64 d.ty.count) := heap_cell b1 (by simp);have a10 : W1.cell? ⟨W.heap.size, 10, none⟩ = some (.bool d.pub) := heap_cell b1 (by simp);have a11 : W1.cell? ⟨W.heap.size, 11, none⟩ = some (.slice none 0 0) := heap_cell b1 (by simp);have a12 : W1.cell? ⟨W.heap.size, 12, none⟩ = some (.int .i64 d.sr) := heap_cell b1 (by simp);have a13 : W1.cell? ⟨W.heap.size, 13, none⟩ = some (.int .i64 0) := heap_cell b1 (by simp);have f11 : W1.frozen? ⟨W.heap.size, 11, none⟩ = false := heap_frozen b1;have HV1 : Hid (Boxed W1 eb 83 (.pointer (some ⟨b, 0, none⟩))) := v1;have HL1 : Hid (W1.heap[l]? = some (.loop { state := .busy, pending := none, fn := fn, tmps := #[z0z, .pointer (some ⟨pb, 0, none⟩), z2z, z3z, z4z, z5z, z6z, .pointer (some ⟨eb, 0, none⟩), z8z, z9z, z10z, z11z, z12z, z13z, z14z, z15z, z16z, z17z, z18z, z19z, z20z, z21z, z22z, z23z, z24z, z25z, z26z, z27z, z28z, z29z, z30z, z31z, z32z, z33z, z34z, z35z, z36z, z37z, z38z, z39z, z40z, z41z, z42z, z43z, z44z, z45z, z46z, z47z, z48z, z49z, z50z, z51z, z52z, z53z, z54z, z55z, z56z, z57z, z58z, z59z, z60z, z61z, z62z, z63z, z64z, z65z, z66z, z67z, z68z, z69z, z70z, z71z], params := #[63, 64], assign := uAssign, body := uBody, defers := df })) := l1;have HBX : Hid (W1.heap[W.heap.size]? = some (.cells #[.int .i64 d.k, .int .i64 d.al, .int .i64 d.ac, .string d.name, .string d.op, .int .i64 d.n, .string d.ty.base, .int .i64 d.ty.stars, .bool d.ty.isList, .int .i64 d.ty.count, .bool d.pub, .slice none 0 0, .int .i64 d.sr, .int .i64 0] 87 (0, 0))) := b1;have HEB : Hid (Boxed W eb 83 (.pointer (some ⟨b, 0, none⟩))) := heb;have HL0 : Hid (W.heap[l]? = some (.loop (loopRec fn #[z0z, .pointer (some ⟨pb, 0, none⟩), z2z, z3z, z4z, z5z, z6z, .pointer (some ⟨eb, 0, none⟩), z8z, z9z, z10z, z11z, z12z, z13z, z14z, z15z, z16z, z17z, z18z, z19z, z20z, z21z, z22z, z23z, z24z, z25z, z26z, z27z, z28z, z29z, z30z, z31z, z32z, z33z, z34z, z35z, z36z, z37z, z38z, z39z, z40z, z41z, z42z, z43z, z44z, z45z, z46z, z47z, z48z, z49z, z50z, z51z, z52z, z53z, z54z, z55z, z56z, z57z, z58z, z59z, z60z, z61z, z62z, z63z, z64z, z65z, z66z, z67z, z68z, z69z, z70z, z71z] #[63, 64] uAssign uBody df))) := hl;have HLT : Hid (l < W.heap.size) := ll;clear hl b1 l1 v1 hpb heb p1 ll
 gi_wp2_with fail
 obtain ⟨W2, hW2⟩ : ∃ W2, (W1.setCell ⟨W.heap.size, 11, none⟩ (.slice (some ⟨W.heap.size + 1, 0, none⟩) 1 1)).alloc (.cells #[.pointer (some ⟨b, 0, none⟩)] 83) = W2 := ⟨_, rfl⟩
 have HB2 : Hid (∀ k, k < W.heap.size → k ≠ l → W2.heap[k]? = W.heap[k]?) := fun k hk hn => by
  rw [← hW2, Below.heap_alloc _ _ k (by rw [size_set]; omega), heap_set_other (by omega)];exact HB1.out k hk hn
 have s2 : W2.heap.size = W.heap.size + 2 := by rw [← hW2]; simp [size_set, s1]
 have g2 : W2.heap[W.heap.size + 1]? = some (.cells #[.pointer (some ⟨b, 0, none⟩)] 83 (0, 0)) := by
  rw [← hW2];have := World.alloc_heap_new (W1.setCell ⟨W.heap.size, 11, none⟩ (.slice (some ⟨W.heap.size + 1, 0, none⟩) 1 1)) (.cells #[.pointer (some ⟨b, 0, none⟩)] 83);rw [size_set, s1] at this;exact this
 have l2 : W2.heap[l]? = some (.loop { state := .busy, pending := none, fn := fn, tmps := #[z0z, .pointer (some ⟨pb, 0, none⟩), z2z, z3z, z4z, z5z, z6z, .pointer (some ⟨eb, 0, none⟩), z8z, z9z, z10z, z11z, z12z, z13z, z14z, z15z, z16z, z17z, z18z, z19z, z20z, z21z, z22z, z23z, z24z, z25z, z26z, z27z, z28z, z29z, z30z, z31z, z32z, z33z, z34z, z35z, z36z, z37z, z38z, z39z, z40z, z41z, z42z, z43z, z44z, z45z, z46z, z47z, z48z, z49z, z50z, z51z, z52z, z53z, z54z, z55z, z56z, z57z, z58z, z59z, z60z, z61z, z62z, z63z, z64z, z65z, z66z, z67z, z68z, z69z, z70z, z71z], params := #[63, 64], assign := uAssign, body := uBody, defers := df }) := by
  rw [← hW2, Below.heap_alloc _ _ l (by rw [size_set]; have := HLT.out; omega), heap_set_other (by have := HLT.out; omega)];exact HL1.out
 have HO2 : Hid (W2.os = W.os ∧ W2.tape = W.tape ∧ W2.output = W.output) := by rw [← hW2]; exact HO1.out
 rw [hW2];clear hW2 HB1 HP1 HT1 HO1 HV1 HL1 HBX a0 a1 a2 a3 a4 a5 a6 a7 a8 a9 a10 a11 a12 a13 f11 ce cp;have HP2 : Hid (PAt W2 c s) := HP.out.blocks (HB2.out _ PL n4) (HB2.out _ GL n7);have HT2 : Hid (TopIn W2 S t b) := HT.out.keep (fun k hk hk2 => HB2.out k hk2 (HS.out k hk).2.2)
 have hrow : RowAt W2 lo W2.heap.size (some ⟨W.heap.size + 1, 0, none⟩) 1 [t] [b] := by
  have htop := (HT2.out.top (fun k hk => (HS.out k hk).1)).tree;refine ⟨Nat.le_refl _, fun _ => ⟨W.heap.size + 1, rfl, by have := HL.out; omega, by omega, fun i x hx => ?_⟩, rfl, fun i t' x ht' hx => ?_⟩
  ·have hi : i = 0 := by have := (List.getElem?_eq_some_iff.1 hx).1; simp at this; omega
   subst hi;simp at hx;subst hx;exact heap_cell g2 (by simp)
  ·have hi : i = 0 := by have := (List.getElem?_eq_some_iff.1 hx).1; simp at this; omega
   subst hi;simp at hx ht';subst hx ht';exact htop
 refine ⟨trivial, ?_⟩;have hgr := grow_raw c s d [t] [b] (some ⟨W.heap.size + 1, 0, none⟩) 1 lo W2 HP2.out hrow HL.out.1 HL.out.2.1 (by have := HL.out; omega) (by simp);unfold nodeCells at hgr;refine (CallsIn.inRound l (callsIn_wide.2 hgr)).mono ?_;rintro e W3 ⟨b', rfl, hn3, hb3, hp3, hg3⟩;have HG3 : Hid (∀ k, k < W.heap.size → k ≠ l → k ≠ c.PB → W3.heap[k]? = W.heap[k]?) := fun k hk h1 h2 => (hg3.block k (by omega) h2).trans (HB2.out k hk h1);have v3 : Boxed W3 eb 83 (.pointer (some ⟨b, 0, none⟩)) := (HG3.out eb le (Ne.symm n1) (Ne.symm n5)).trans HEB.out;have l3 : W3.heap[l]? = some (.loop { state := .busy, pending := none, fn := fn, tmps := #[z0z, .pointer (some ⟨pb, 0, none⟩), z2z, z3z, z4z, z5z, z6z, .pointer (some ⟨eb, 0, none⟩), z8z, z9z, z10z, z11z, z12z, z13z, z14z, z15z, z16z, z17z, z18z, z19z, z20z, z21z, z22z, z23z, z24z, z25z, z26z, z27z, z28z, z29z, z30z, z31z, z32z, z33z, z34z, z35z, z36z, z37z, z38z, z39z, z40z, z41z, z42z, z43z, z44z, z45z, z46z, z47z, z48z, z49z, z50z, z51z, z52z, z53z, z54z, z55z, z56z, z57z, z58z, z59z, z60z, z61z, z62z, z63z, z64z, z65z, z66z, z67z, z68z, z69z, z70z, z71z], params := #[63, 64], assign := uAssign, body := uBody, defers := df }) := (hg3.block l (by have := HLT.out; omega) (Ne.symm n4)).trans l2;have HX3 : Hid (PAt W3 c (growS s d [t]) ∧ TopIn W3 S (growT s d [t]) b') := ⟨hp3, HT2.out.grow g2 (HS2.out _ (by omega)) (HS2.out _ (by omega)) (by omega) hb3 hn3 (fun k hk hk2 => hg3.block k hk2 (by have := HS.out k hk; have := HL.out; omega))⟩;have HB3 : Hid (b' ≠ eb ∧ W.heap.size ≤ b') := ⟨by omega, by omega⟩;have HC3 : Hid (W3.os = W.os ∧ W3.tape = W.tape ∧ W3.output = W.output ∧ W.heap.size + 2 ≤ W3.heap.size) := ⟨hg3.os.trans HO2.out.1, hg3.tape.trans HO2.out.2.1, hg3.output.trans HO2.out.2.2, by have := hg3.size; omega⟩;have ce := v3.cell;have fe := v3.frozen;have HV3 : Hid (Boxed W3 eb 83 (.pointer (some ⟨b, 0, none⟩))) := v3;have HL3 : Hid (W3.heap[l]? = some (.loop { state := .busy, pending := none, fn := fn, tmps := #[z0z, .pointer (some ⟨pb, 0, none⟩), z2z, z3z, z4z, z5z, z6z, .pointer (some ⟨eb, 0, none⟩), z8z, z9z, z10z, z11z, z12z, z13z, z14z, z15z, z16z, z17z, z18z, z19z, z20z, z21z, z22z, z23z, z24z, z25z, z26z, z27z, z28z, z29z, z30z, z31z, z32z, z33z, z34z, z35z, z36z, z37z, z38z, z39z, z40z, z41z, z42z, z43z, z44z, z45z, z46z, z47z, z48z, z49z, z50z, z51z, z52z, z53z, z54z, z55z, z56z, z57z, z58z, z59z, z60z, z61z, z62z, z63z, z64z, z65z, z66z, z67z, z68z, z69z, z70z, z71z], params := #[63, 64], assign := uAssign, body := uBody, defers := df })) := l3;clear hn3 hb3 hp3 hg3 v3 l3 hrow hgr g2 l2 HB2 HO2;dsimp only
 gi_wp2
 refine ⟨(heap_set_other n1).trans HL3.out, ?_⟩;refine HK.out b' _ ?_ ?_ ?_ ⟨HC3.out.1, HC3.out.2.1, HC3.out.2.2.1, ?_, ?_⟩ ?_
 ·refine HX3.out.1.blocks ?_ ?_
  ·exact (World.putObj_heap_other n4).trans (heap_set_other n5)
  ·exact (World.putObj_heap_other n7).trans (heap_set_other n8)
 ·exact HX3.out.2.keep (fun k hk hk2 => (World.putObj_heap_other (HS.out k hk).2.2).trans (heap_set_other (HS.out k hk).2.1))
 ·exact (World.putObj_heap_other (Ne.symm n1)).trans (HV3.out.set _)
 ·rw [World.putObj_size, size_set]; have := HC3.out.2.2.2; omega
 ·intro k hk h1 h2 h3
  exact (World.putObj_heap_other h3).trans ((heap_set_other h2).trans (HG3.out k hk h3 h1))
 ·rw [World.putObj_heap_same (by rw [size_set]; have := HC3.out.2.2.2; have := HLT.out; omega)]
  exact HL0.out.symm

structure PfTab (w : World) : Prop where
 pf : ∀ j, j < 5 → w.cell? ⟨8, j, none⟩ = (preOps[j]?).map Value.string
theorem pf_index (i : Nat) (hi : i < 5) (w : World) : (Instr.index 147 (.agg #[.string ⟨#[45]⟩, .string ⟨#[126]⟩, .string ⟨#[33]⟩, .string ⟨#[42]⟩, .string ⟨#[38]⟩]) (.int .i64 (i : Int))).run prog w = .ok (.string (preOps[i]'hi)) w := by
 have all : ∀ (i : Fin 5), (Instr.index 147 (.agg #[.string ⟨#[45]⟩, .string ⟨#[126]⟩, .string ⟨#[33]⟩, .string ⟨#[42]⟩, .string ⟨#[38]⟩]) (.int .i64 ((i.val : Nat) : Int))).run prog w = .ok (.string (preOps[i.val]'i.isLt)) w := by
  intro i
  rcases i with ⟨i, hi⟩
  rcases i with _ | i
  ·kernel_rfl
  rcases i with _ | i
  ·kernel_rfl
  rcases i with _ | i
  ·kernel_rfl
  rcases i with _ | i
  ·kernel_rfl
  rcases i with _ | i
  ·kernel_rfl
  ·omega
 exact all ⟨i, hi⟩
def ndCells (d : ND) : List Value := (nodeCells d (.slice none 0 0) 0).toList
def rowCells (l : List ND) : List Value := l.flatMap ndCells
theorem rowCells_snoc (l : List ND) (d : ND) : rowCells (l ++ [d]) = rowCells l ++ ndCells d := by simp [rowCells]
theorem ndCells_len (d : ND) : (ndCells d).length = 14 := rfl
theorem rowCells_at : ∀ (l : List ND) (i j : Nat) (d : ND), l[i]? = some d → j < 14 → (rowCells l)[i * 14 + j]? = (ndCells d)[j]?
 | [], i, j, d, h, _ => by simp at h
 | x :: l, 0, j, d, h, hj => by
  simp at h;subst h;rw [rowCells, List.flatMap_cons, Nat.zero_mul, Nat.zero_add, List.getElem?_append_left (by rw [ndCells_len]; exact hj)]
 | x :: l, i + 1, j, d, h, hj => by
  have ih := rowCells_at l i j d (by simpa using h) hj;rw [rowCells, List.flatMap_cons, List.getElem?_append_right (by rw [ndCells_len]; omega), ndCells_len, show (i + 1) * 14 + j - 14 = i * 14 + j by omega];exact ih
theorem infoNd : (prog.info? 87).map (fun i => (i.zero, i.size, i.bytes)) = some (some (.agg #[.int .i64 0, .int .i64 0, .int .i64 0, .string ⟨#[]⟩, .string ⟨#[]⟩, .int .i64 0, .string ⟨#[]⟩, .int .i64 0, .bool false, .int .i64 0, .bool false, .slice none 0 0, .int .i64 0, .int .i64 0]), 14, 152) := by kernel_rfl
structure UA (w wr : World) (c : PC) (st : PSt) (v : Value) (acc : List ND) : Prop where
 p : PAt wr c st
 ch : Chg c.PB w wr
 pb : wr.heap[w.heap.size]? = some (.cells #[.pointer (some ⟨c.PB, 0, none⟩)] 57 (0, 0))
 row : wr.ownsRow (w.heap.size + 1) 87 14 v acc.length (rowCells acc)
theorem UA.step {w wr W : World} {c : PC} {st st' : PSt} {v : Value} {acc : List ND} (h : UA w wr c st v acc) (hp : PAt W c st') (hc : Chg c.PB wr W) (PL : c.PB < w.heap.size) : UA w W c st' v acc := by
 have hl := (zge h.pb).1;exact ⟨hp, h.ch.trans hc, (hc.block _ hl (by omega)).trans h.pb, ownsRow_same' h.row (fun k k1 k2 => hc.block k k2 (by omega))⟩
theorem UA.below {w wr W : World} {c : PC} {st : PSt} {v : Value} {acc : List ND} (h : UA w wr c st v acc) (hb : Below wr.heap.size wr W) (PL : c.PB < w.heap.size) : UA w W c st v acc := h.step (h.p.below hb) (.of hb) PL
theorem UA.slice {w wr : World} {c : PC} {st : PSt} {v : Value} {acc : List ND} (h : UA w wr c st v acc) : ∃ a cap g, v = .slice a acc.length cap ∧ acc.length ≤ cap ∧ (acc ≠ [] → a = some ⟨g, 0, none⟩) ∧ g < wr.heap.size ∧ w.heap.size < g + 1 ∧ (g ≠ w.heap.size ∨ acc = []) ∧ ∀ k d, acc[k]? = some d → NodeAt wr g k d := by
 rcases h.row.2 with ⟨e1, e2⟩ | ⟨g, cap, cur, h1, h2, h3, h4, h5, h6, h7⟩
 ·have hn : acc = [] := List.length_eq_zero_iff.1 e2
  subst hn;exact ⟨none, 0, w.heap.size, e1, Nat.le_refl _, fun h => absurd rfl h, (zge h.pb).1, by omega, .inr rfl, fun k d hd => by simp at hd⟩
 ·refine ⟨_, cap, g, h1, h4, fun _ => rfl, (zge h3).1, by omega, .inl (by omega), fun k d hd => ?_⟩
  have hk := (List.getElem?_eq_some_iff.1 hd).1
  have cell : ∀ j v, j < 14 → (ndCells d)[j]? = some v → wr.cell? ⟨g, k * 14 + j, none⟩ = some v := fun j v hj hv => by
   refine heap_cell h3 ?_;have e := (rowCells_at acc k j d hd hj).trans hv;rw [← h7, List.getElem?_take, if_pos (by omega)] at e;simpa using e
  exact ⟨cell 0 _ (by omega) rfl, cell 1 _ (by omega) rfl, cell 2 _ (by omega) rfl, cell 3 _ (by omega) rfl, cell 4 _ (by omega) rfl, cell 5 _ (by omega) rfl, cell 6 _ (by omega) rfl, cell 7 _ (by omega) rfl, cell 8 _ (by omega) rfl, cell 9 _ (by omega) rfl, cell 10 _ (by omega) rfl, cell 11 _ (by omega) rfl, cell 12 _ (by omega) rfl, cell 13 _ (by omega) rfl⟩
theorem UA.push {w wr W1 W : World} {c : PC} {st : PSt} {v v' : Value} {acc : List ND} {d : ND} (h : UA w wr c st v acc) (PL : c.PB < w.heap.size) (hg : c.g < w.heap.size) (h1 : Below wr.heap.size wr W1) (hown : W.ownsRow (w.heap.size + 1) 87 14 v' (acc.length + 1) (rowCells acc ++ ndCells d)) (hgr : W1.grownBy W v.ownBlock) : UA w W c st v' (acc ++ [d]) := by
 have hs1 := h1.size;have hl := (zge h.pb).1
 have hk : ∀ k, k < w.heap.size + 1 → W.heap[k]? = wr.heap[k]? := fun k hk => by
  rw [hgr.block k (by omega) (fun he => by have := (own_lt h.row he.symm).1; omega)];exact h1.block k (by omega)
 refine ⟨h.p.blocks (hk _ (by omega)) (hk _ (by omega)), ⟨hgr.os.trans (h1.os.trans h.ch.os), hgr.tape.trans (h1.tape.trans h.ch.tape), hgr.output.trans (h1.output.trans h.ch.output), ?_, fun k k1 k2 => (hk k (by omega)).trans (h.ch.block k k1 k2)⟩, (hk _ (by omega)).trans h.pb, ?_⟩
 ·have := hgr.size
  have := h.ch.size
  omega
 ·rw [List.length_append, rowCells_snoc]
  exact hown

noncomputable def uR11 : Code := ((Tryz.f167.body.bind (regionU 11)).getD .skip)
noncomputable def uR13 : Code := ((Tryz.f167.body.bind (regionU 13)).getD .skip)
theorem wp_calm {P : Program} {c : Code} {K : Act → World → Prop} {QQ : Exit → Act → World → Prop} {a : Act} {w : World} (h : Code.wp P c (Exit.then K (fun _ _ _ => False)) a w) : Code.wp P c (Exit.then K QQ) a w :=
 Go.wp_mono h (fun e a w hq => by cases e <;> first | exact hq | exact hq.elim)
theorem ndok (d : ND) : ∀ u ∈ ndCells d, u.oneCell' = true := by
 intro u hu;simp [ndCells, nodeCells] at hu
 rcases hu with rfl | rfl | rfl | rfl | rfl | rfl | rfl | rfl | rfl | rfl | rfl | rfl | rfl | rfl <;> rfl
theorem un_r13 (pb bx base n cap : Nat) (a : Option Addr) (pl pc : Int) (ty : Sh) (xs : List Value) (c : PC) (s1 s2 : PSt) (w1 : World) (ds : List Deferred) (z0z z2z z5z z6z z7z z8z z9z z10z z11z z12z z13z z14z z15z z16z z17z z18z z19z z20z z21z z22z z23z z24z z25z z26z z27z z28z z29z z30z z31z z32z z33z z34z z35z z36z z37z z38z z39z z40z z41z z42z z43z z44z z45z z46z z47z z48z z49z z50z z51z z52z z53z z54z z55z z56z z57z z58z z59z z60z z61z z62z z63z z64z z65z z66z z67z z68z z69z z70z z71z : Value) (K : Act → World → Prop) (QQ : Exit → Act → World → Prop)
  (HP : Hid (PAt w1 c s1)) (c0 : w1.cell? ⟨bx, 0, none⟩ = some (.int .i64 pl)) (c1 : w1.cell? ⟨bx, 1, none⟩ = some (.int .i64 pc)) (cp : w1.cell? ⟨pb, 0, none⟩ = some (.pointer (some ⟨c.PB, 0, none⟩)))
  (HNB : Hid (some bx ≠ (Value.slice a n cap).ownBlock ∧ some pb ≠ (Value.slice a n cap).ownBlock)) (nb : bx ≠ c.PB) (np : pb ≠ c.PB) (hb : c.PB < base) (hbs : base ≤ w1.heap.size) (hn : n ≤ 65536)
  (HTY : Hid (∀ W, PAt W c s1 → Chg c.PB w1 W → Calls prog 61 #[pp c] W (retSh c s2 ty W)))
  (HO : Hid (w1.ownsRow base 87 14 (.slice a n cap) n xs))
  (HK : Hid (∀ y50 y51 y52 y53 y54 y55 y56 W2 W1 W q cap', PAt W2 c s2 → Chg c.PB w1 W2 → Below W2.heap.size W2 W1 → W.ownsRow base 87 14 (.slice (some ⟨q, 0, none⟩) (n + 1) cap') (n + 1) (xs ++ ndCells ⟨22, pl, pc, ⟨#[]⟩, ⟨#[]⟩, 0, ty, false, 0⟩) → W1.grownBy W (Value.slice a n cap).ownBlock → K ⟨#[z0z, .pointer (some ⟨pb, 0, none⟩), z2z, .slice (some ⟨q, 0, none⟩) (n + 1) cap', .pointer (some ⟨bx, 0, none⟩), z5z, z6z, z7z, z8z, z9z, z10z, z11z, z12z, z13z, z14z, z15z, z16z, z17z, z18z, z19z, z20z, z21z, z22z, z23z, z24z, z25z, z26z, z27z, z28z, z29z, z30z, z31z, z32z, z33z, z34z, z35z, z36z, z37z, z38z, z39z, z40z, z41z, z42z, z43z, z44z, z45z, z46z, z47z, z48z, z49z, y50, y51, y52, y53, y54, y55, y56, z57z, z58z, z59z, z60z, z61z, z62z, z63z, z64z, z65z, z66z, z67z, z68z, z69z, z70z, z71z], ds⟩ W)) :
  Code.wp prog uR13 (Exit.then K QQ) ⟨#[z0z, .pointer (some ⟨pb, 0, none⟩), z2z, .slice a n cap, .pointer (some ⟨bx, 0, none⟩), z5z, z6z, z7z, z8z, z9z, z10z, z11z, z12z, z13z, z14z, z15z, z16z, z17z, z18z, z19z, z20z, z21z, z22z, z23z, z24z, z25z, z26z, z27z, z28z, z29z, z30z, z31z, z32z, z33z, z34z, z35z, z36z, z37z, z38z, z39z, z40z, z41z, z42z, z43z, z44z, z45z, z46z, z47z, z48z, z49z, z50z, z51z, z52z, z53z, z54z, z55z, z56z, z57z, z58z, z59z, z60z, z61z, z62z, z63z, z64z, z65z, z66z, z67z, z68z, z69z, z70z, z71z], ds⟩ w1 := by
 obtain ⟨i0', hinf, hz0, hz1, hz2⟩ := info_parts infoNd;refine wp_calm ?_
 conv => arg 2; whnf
 refine wp_region_held_drew (S := (fun w' => w'.cell? ⟨bx, 0, none⟩ = some (.int .i64 pl) ∧ w'.cell? ⟨bx, 1, none⟩ = some (.int .i64 pc) ∧ w'.cell? ⟨pb, 0, none⟩ = some (.pointer (some ⟨c.PB, 0, none⟩)))) (by kernel_rfl) (⟨c0, c1, cp⟩) (fun hHeld => ?_);refine wpAnyH_take (i := 0) (oi := ?o0) (v := ?v0) ?i0 (by kernel_rfl) (by kernel_rfl) (by kernel_rfl) ?q0 ?y0 hHeld ?_
 case i0 => simp only [zga, zgs, zgz]; rfl
 case q0 => exact fun _ _ _ h => h
 case y0 => refine .inl ⟨by rfl, ?_⟩; intro w' hSw; (try dsimp only at hSw); go_simp; try with_reducible rfl
 simp only [Act.put, zsa, zsz, zss];refine wpAnyH_take (i := 1) (oi := ?o1) (v := ?v1) ?i1 (by kernel_rfl) (by kernel_rfl) (by kernel_rfl) ?q1 ?y1 hHeld ?_
 case i1 => simp only [zga, zgs, zgz]; rfl
 case q1 => exact fun _ _ _ h => h
 case y1 => refine .inl ⟨by rfl, ?_⟩; intro w' hSw; (try dsimp only at hSw); go_simp; try with_reducible rfl
 simp only [Act.put, zsa, zsz, zss];refine wpAnyH_take (i := 2) (oi := ?o2) (v := ?v2) ?i2 (by kernel_rfl) (by kernel_rfl) (by kernel_rfl) ?q2 ?y2 hHeld ?_
 case i2 => simp only [zga, zgs, zgz]; rfl
 case q2 => exact fun _ _ _ h => h
 case y2 => refine .inl ⟨by rfl, ?_⟩; intro w' hSw; (try dsimp only at hSw); go_simp; try with_reducible rfl
 simp only [Act.put, zsa, zsz, zss];refine zr (r := 3) (o := ?o3) (by kernel_rfl) ?i3 (fun K hK => ?g3)
 case i3 => simp only [zga, zgs, zgz]; rfl
 case g3 =>
  go_simp;have hBel : Below w1.heap.size w1 w1.drew := by (repeat (first | with_reducible exact Below.refl _ _ | with_reducible assumption | with_reducible refine bel_alloc ?_ _ | with_reducible refine bel_set ?_ (by first | exact Nat.le_refl _ | (simp; done) | (simp; omega)) _ | with_reducible refine Below.drew ?_ | with_reducible refine bel_drewN ?_ _))
  refine (HTY.out _ (HP.out.below hBel) (.of hBel)).mono ?_;rintro e w2 ⟨rfl, hp2, hg2⟩;have HC2 : Hid (PAt w2 c s2 ∧ Chg c.PB w1 w2) := ⟨hp2, (Chg.of hBel).trans hg2⟩;have HO2 : Hid (w2.ownsRow base 87 14 (.slice a n cap) n xs) := ownsRow_same' HO.out (fun k k1 k2 => HC2.out.2.block k k2 (by omega));have hs2 := HC2.out.2.size;have q0 : w2.cell? ⟨bx, 0, none⟩ = some (.int .i64 pl) := HC2.out.2.cell c0 nb;have q1 : w2.cell? ⟨bx, 1, none⟩ = some (.int .i64 pc) := HC2.out.2.cell c1 nb;have q2 : w2.cell? ⟨pb, 0, none⟩ = some (.pointer (some ⟨c.PB, 0, none⟩)) := HC2.out.2.cell cp np;have lb2 : bx < w2.heap.size := block_lt_of_cell q0;have lp2 : pb < w2.heap.size := block_lt_of_cell q2;clear hp2 hg2 hBel;dsimp only [shV];go_wp2_with fail
  refine hK.out _ _ (⟨q0, q1, q2⟩) (fun hN => ?_);clear hK K hHeld;have hHeld := hN;clear hN
  try simp only [Act.put, zsa, zsz, zss]
  refine wpAnyH_take (i := 4) (oi := ?o4) (v := ?v4) ?i4 (by kernel_rfl) (by kernel_rfl) (by kernel_rfl) ?q4 ?y4 hHeld ?_
  case i4 => simp only [zga, zgs, zgz]; rfl
  case q4 => exact fun _ _ _ h => h
  case y4 => refine .inl ⟨by rfl, ?_⟩; intro w' hSw; (try dsimp only at hSw); go_simp; try with_reducible rfl
  simp only [Act.put, zsa, zsz, zss];refine zr (r := 5) (o := ?o5) (by kernel_rfl) ?i5 (fun K hK => ?g5)
  case i5 => simp only [zga, zgs, zgz]; rfl
  case g5 =>
   go_simp;refine hK.out _ _ (⟨by go_simp, by go_simp, by go_simp⟩) (fun hN => ?_);clear hK K hHeld;have hHeld := hN;clear hN
   try simp only [Act.put, zsa, zsz, zss]
   refine zr (r := 6) (o := ?o6) (by kernel_rfl) ?i6 (fun K hK => ?g6)
   case i6 => simp only [zga, zgs, zgz]; rfl
   case g6 =>
    refine step_append_lies _ (by rfl) _ _ 186 (by rfl) base 87 i0' (.agg #[.int .i64 0, .int .i64 0, .int .i64 0, .string ⟨#[]⟩, .string ⟨#[]⟩, .int .i64 0, .string ⟨#[]⟩, .int .i64 0, .bool false, .int .i64 0, .bool false, .slice none 0 0, .int .i64 0, .int .i64 0]) 14 152 underlying186 hinf hz0 hz1 hz2 rfl (by decide) (.slice a n cap) n xs (by rfl) (HO2.out.alloc _) ⟨w2.heap.size, 0, none⟩ 1 1 (ndCells ⟨22, pl, pc, ⟨#[]⟩, ⟨#[]⟩, 0, ty, false, 0⟩) (by rfl) (by rfl) (World.news_of_block (World.alloc_heap_new w2 (.cells (ndCells ⟨22, pl, pc, ⟨#[]⟩, ⟨#[]⟩, 0, ty, false, 0⟩).toArray 87))) (ndok _) (by decide) (by unfold maxLen; omega) (by omega) (by simp; omega) (w2.heap.size + 1) (by simp) ?_;intro q cap' W hown hgrow hat hlt;have HF : Hid (W.ownsRow base 87 14 (.slice (some ⟨q, 0, none⟩) (n + 1) cap') (n + 1) (xs ++ ndCells ⟨22, pl, pc, ⟨#[]⟩, ⟨#[]⟩, 0, ty, false, 0⟩) ∧ (w2.alloc (.cells (ndCells ⟨22, pl, pc, ⟨#[]⟩, ⟨#[]⟩, 0, ty, false, 0⟩).toArray 87)).grownBy W (Value.slice a n cap).ownBlock) := ⟨hown, hgrow⟩;have hkb : ∀ k, k < w2.heap.size → some k ≠ (Value.slice a n cap).ownBlock → W.heap[k]? = w2.heap[k]? := fun k h1 h2 => (hgrow.block k (by simp; omega) h2).trans (Below.heap_alloc w2 _ k h1);have u0 : W.cell? ⟨bx, 0, none⟩ = some (.int .i64 pl) := (World.cell?_of_block (hkb bx lb2 HNB.out.1)).trans q0;have u1 : W.cell? ⟨bx, 1, none⟩ = some (.int .i64 pc) := (World.cell?_of_block (hkb bx lb2 HNB.out.1)).trans q1;have u2 : W.cell? ⟨pb, 0, none⟩ = some (.pointer (some ⟨c.PB, 0, none⟩)) := (World.cell?_of_block (hkb pb lp2 HNB.out.2)).trans q2;clear hown hgrow hat hlt hkb;refine hK.out _ _ (⟨u0, u1, u2⟩) (fun hN => ?_);clear hK K hHeld;have hHeld := hN;clear hN
    try simp only [Act.put, zsa, zsz, zss]
    refine wpAnyH_take (i := 7) (oi := ?o7) (v := ?v7) ?i7 (by kernel_rfl) (by kernel_rfl) (by kernel_rfl) ?q7 ?y7 hHeld ?_
    case i7 => simp only [zga, zgs, zgz]; rfl
    case q7 => exact fun _ _ _ h => h
    case y7 => refine .inl ⟨by rfl, ?_⟩; intro w' hSw; (try dsimp only at hSw); go_simp; try with_reducible rfl
    simp only [Act.put, zsa, zsz, zss];refine wpAnyH_done (by kernel_rfl) ?_ _;clear hHeld;refine HK.out _ _ _ _ _ _ _ w2 (w2.alloc (.cells (ndCells ⟨22, pl, pc, ⟨#[]⟩, ⟨#[]⟩, 0, ty, false, 0⟩).toArray 87)) _ _ _ HC2.out.1 HC2.out.2 ((Below.refl _ _).alloc (Nat.le_refl _) _) ?_ ?_
    ·exact HF.out.1
    ·exact HF.out.2
theorem un_r11t (pb : Nat) (b2 : Bool) (c : PC) (st : PSt) (w1 : World) (ds : List Deferred) (z0z z2z z3z z4z z5z z6z z7z z8z z9z z10z z11z z12z z13z z14z z15z z16z z17z z18z z19z z20z z21z z22z z23z z24z z25z z26z z27z z28z z29z z30z z31z z32z z33z z34z z35z z36z z37z z38z z39z z40z z41z z42z z43z z44z z45z z46z z47z z48z z49z z50z z51z z52z z53z z54z z55z z56z z57z z58z z59z z60z z61z z62z z63z z64z z65z z66z z67z z68z z69z z70z z71z : Value) (K : Act → World → Prop) (QQ : Exit → Act → World → Prop)
  (HP : Hid (PAt w1 c st)) (cp : w1.cell? ⟨pb, 0, none⟩ = some (.pointer (some ⟨c.PB, 0, none⟩)))
  (HIS : Hid (∀ W, PAt W c st → Calls prog 94 #[pp c, .string ⟨#[40]⟩] W (retP (.bool true) W))) (HBG : Hid (∀ W, PAt W c st → Below w1.heap.size w1 W → Calls prog 90 #[pp c, .int .i64 ((st.i : Int) + 1)] W (fun e W' => e = .returned (.bool b2) ∧ W' = W))) (hi : (st.i : Int) ≤ 65536) 
  (HK : Hid (∀ y30 y31 y32 y33 y34 y35 y36 y37 y38 y39 y40 y41 W, Below w1.heap.size w1 W → K ⟨#[z0z, .pointer (some ⟨pb, 0, none⟩), z2z, z3z, z4z, z5z, z6z, z7z, z8z, z9z, z10z, z11z, z12z, z13z, z14z, z15z, z16z, z17z, z18z, z19z, z20z, z21z, z22z, z23z, z24z, z25z, z26z, z27z, z28z, z29z, y30, y31, y32, y33, y34, y35, y36, y37, y38, y39, y40, y41, .bool (!b2), z43z, z44z, z45z, z46z, z47z, z48z, z49z, z50z, z51z, z52z, z53z, z54z, z55z, z56z, z57z, z58z, z59z, z60z, z61z, z62z, z63z, z64z, z65z, z66z, z67z, z68z, z69z, z70z, z71z], ds⟩ W)) :
  Code.wp prog uR11 (Exit.then K QQ) ⟨#[z0z, .pointer (some ⟨pb, 0, none⟩), z2z, z3z, z4z, z5z, z6z, z7z, z8z, z9z, z10z, z11z, z12z, z13z, z14z, z15z, z16z, z17z, z18z, z19z, z20z, z21z, z22z, z23z, z24z, z25z, z26z, z27z, z28z, z29z, z30z, z31z, z32z, z33z, z34z, z35z, z36z, z37z, z38z, z39z, z40z, z41z, z42z, z43z, z44z, z45z, z46z, z47z, z48z, z49z, z50z, z51z, z52z, z53z, z54z, z55z, z56z, z57z, z58z, z59z, z60z, z61z, z62z, z63z, z64z, z65z, z66z, z67z, z68z, z69z, z70z, z71z], ds⟩ w1 := by
 have ca := HP.out.c3;have hwr : IntKind.i64.wrap ((st.i : Int) + 1) = (st.i : Int) + 1 := by rw [IntKind.wrap_i64]; omega
 refine wp_calm ?_
 conv => arg 2; whnf
 refine wp_region_held_drew (S := (fun w' => w'.cell? ⟨pb, 0, none⟩ = some (.pointer (some ⟨c.PB, 0, none⟩)) ∧ w'.cell? ⟨c.PB, 3, none⟩ = some (.int .i64 (st.i : Int)))) (by kernel_rfl) (⟨cp, ca⟩) (fun hHeld => ?_);refine wpAnyH_take (i := 0) (oi := ?o0) (v := ?v0) ?i0 (by kernel_rfl) (by kernel_rfl) (by kernel_rfl) ?q0 ?y0 hHeld ?_
 case i0 => simp only [zga, zgs, zgz]; rfl
 case q0 => exact fun _ _ _ h => h
 case y0 => refine .inl ⟨by rfl, ?_⟩; intro w' hSw; (try dsimp only at hSw); go_simp; try with_reducible rfl
 simp only [Act.put, zsa, zsz, zss];refine zr (r := 1) (o := ?o1) (by kernel_rfl) ?i1 (fun K hK => ?g1)
 case i1 => simp only [zga, zgs, zgz]; rfl
 case g1 =>
  go_simp;have hBel : Below w1.heap.size w1 w1.drew := by (repeat (first | with_reducible exact Below.refl _ _ | with_reducible assumption | with_reducible refine bel_alloc ?_ _ | with_reducible refine bel_set ?_ (by first | exact Nat.le_refl _ | (simp; done) | (simp; omega)) _ | with_reducible refine Below.drew ?_ | with_reducible refine bel_drewN ?_ _))
  refine (HIS.out _ (HP.out.below hBel)).mono ?_;rintro e w2 ⟨rfl, hb2⟩;have HC2 : Hid (Below w1.heap.size w1 w2) := bel_trans hBel hb2;have q0 : w2.cell? ⟨pb, 0, none⟩ = some (.pointer (some ⟨c.PB, 0, none⟩)) := keep_cell HC2.out cp;have q1 : w2.cell? ⟨c.PB, 3, none⟩ = some (.int .i64 (st.i : Int)) := keep_cell HC2.out ca;clear hb2 hBel;dsimp only;go_wp2_with fail
  refine hK.out _ _ (⟨q0, q1⟩) (fun hN => ?_);clear hK K hHeld;have hHeld := hN;clear hN
  try simp only [Act.put, zsa, zsz, zss]
  refine wpAnyH_take (i := 2) (oi := ?o2) (v := ?v2) ?i2 (by kernel_rfl) (by kernel_rfl) (by kernel_rfl) ?q2 ?y2 hHeld ?_
  case i2 => simp only [zga, zgs, zgz]; rfl
  case q2 => exact fun _ _ _ h => h
  case y2 => refine .inl ⟨by rfl, ?_⟩; intro w' hSw; (try dsimp only at hSw); go_simp; try with_reducible rfl
  simp only [Act.put, zsa, zsz, zss];refine wpAnyH_take (i := 3) (oi := ?o3) (v := ?v3) ?i3 (by kernel_rfl) (by kernel_rfl) (by kernel_rfl) ?q3 ?y3 hHeld ?_
  case i3 => simp only [zga, zgs, zgz]; rfl
  case q3 => exact fun _ _ _ h => h
  case y3 => refine .inl ⟨by rfl, ?_⟩; intro w' hSw; (try dsimp only at hSw); go_simp; try with_reducible rfl
  simp only [Act.put, zsa, zsz, zss];refine wpAnyH_take (i := 4) (oi := ?o4) (v := ?v4) ?i4 (by kernel_rfl) (by kernel_rfl) (by kernel_rfl) ?q4 ?y4 hHeld ?_
  case i4 => simp only [zga, zgs, zgz]; rfl
  case q4 => exact fun _ _ _ h => h
  case y4 => refine .inl ⟨by rfl, ?_⟩; intro w' hSw; (try dsimp only at hSw); go_simp; try with_reducible rfl
  simp only [Act.put, zsa, zsz, zss];refine wpAnyH_take (i := 5) (oi := ?o5) (v := ?v5) ?i5 (by kernel_rfl) (by kernel_rfl) (by kernel_rfl) ?q5 ?y5 hHeld ?_
  case i5 => simp only [zga, zgs, zgz]; rfl
  case q5 => exact fun _ _ _ h => h
  case y5 => refine .inl ⟨by rfl, ?_⟩; intro w' hSw; (try dsimp only at hSw); go_simp; try with_reducible rfl
  simp only [Act.put, zsa, zsz, zss];refine wpAnyH_take (i := 6) (oi := ?o6) (v := ?v6) ?i6 (by kernel_rfl) (by kernel_rfl) (by kernel_rfl) ?q6 ?y6 hHeld ?_
  case i6 => simp only [zga, zgs, zgz]; rfl
  case q6 => exact fun _ _ _ h => h
  case y6 => refine .inl ⟨by rfl, ?_⟩; intro w' hSw; (try dsimp only at hSw); go_simp; try with_reducible rfl
  simp only [Act.put, zsa, zsz, zss];refine wpAnyH_take (i := 7) (oi := ?o7) (v := ?v7) ?i7 (by kernel_rfl) (by kernel_rfl) (by kernel_rfl) ?q7 ?y7 hHeld ?_
  case i7 => simp only [zga, zgs, zgz]; rfl
  case q7 => exact fun _ _ _ h => h
  case y7 => refine .inl ⟨by rfl, ?_⟩; intro w' hSw; (try dsimp only at hSw); go_simp; try with_reducible rfl
  simp only [Act.put, zsa, zsz, zss];refine wpAnyH_take (i := 8) (oi := ?o8) (v := ?v8) ?i8 (by kernel_rfl) (by kernel_rfl) (by kernel_rfl) ?q8 ?y8 hHeld ?_
  case i8 => simp only [zga, zgs, zgz]; rfl
  case q8 => exact fun _ _ _ h => h
  case y8 => refine .inl ⟨by rfl, ?_⟩; intro w' hSw; (try dsimp only at hSw); go_simp; try with_reducible rfl
  simp only [Act.put, zsa, zsz, zss];refine wpAnyH_take (i := 9) (oi := ?o9) (v := ?v9) ?i9 (by kernel_rfl) (by kernel_rfl) (by kernel_rfl) ?q9 ?y9 hHeld ?_
  case i9 => simp only [zga, zgs, zgz]; rfl
  case q9 => exact fun _ _ _ h => h
  case y9 => refine .inl ⟨by rfl, ?_⟩; intro w' hSw; (try dsimp only at hSw); go_simp; try with_reducible rfl
  simp only [Act.put, zsa, zsz, zss];refine zr (r := 10) (o := ?o10) (by kernel_rfl) ?i10 (fun K hK => ?g10)
  case i10 => simp only [zga, zgs, zgz]; rfl
  case g10 =>
   go_simp;refine (HBG.out _ (HP.out.below HC2.out) HC2.out).mono ?_;rintro e w3 ⟨rfl, hw3⟩;subst hw3;dsimp only;go_wp2_with fail
   refine hK.out _ _ (⟨q0, q1⟩) (fun hN => ?_);clear hK K hHeld;have hHeld := hN;clear hN
   try simp only [Act.put, zsa, zsz, zss]
   refine wpAnyH_take (i := 11) (oi := ?o11) (v := ?v11) ?i11 (by kernel_rfl) (by kernel_rfl) (by kernel_rfl) ?q11 ?y11 hHeld ?_
   case i11 => simp only [zga, zgs, zgz]; rfl
   case q11 => exact fun _ _ _ h => h
   case y11 => refine .inl ⟨by rfl, ?_⟩; intro w' hSw; (try dsimp only at hSw); go_simp; try with_reducible rfl
   simp only [Act.put, zsa, zsz, zss];refine wpAnyH_take (i := 12) (oi := ?o12) (v := ?v12) ?i12 (by kernel_rfl) (by kernel_rfl) (by kernel_rfl) ?q12 ?y12 hHeld ?_
   case i12 => simp only [zga, zgs, zgz]; rfl
   case q12 => exact fun _ _ _ h => h
   case y12 => refine .inl ⟨by rfl, ?_⟩; intro w' hSw; (try dsimp only at hSw); go_simp; try with_reducible rfl
   simp only [Act.put, zsa, zsz, zss];refine wpAnyH_done (by kernel_rfl) ?_ _;clear hHeld;exact HK.out _ _ _ _ _ _ _ _ _ _ _ _ _ HC2.out
theorem un_r11f (pb : Nat) (c : PC) (st : PSt) (w1 : World) (ds : List Deferred) (z0z z2z z3z z4z z5z z6z z7z z8z z9z z10z z11z z12z z13z z14z z15z z16z z17z z18z z19z z20z z21z z22z z23z z24z z25z z26z z27z z28z z29z z30z z31z z32z z33z z34z z35z z36z z37z z38z z39z z40z z41z z42z z43z z44z z45z z46z z47z z48z z49z z50z z51z z52z z53z z54z z55z z56z z57z z58z z59z z60z z61z z62z z63z z64z z65z z66z z67z z68z z69z z70z z71z : Value) (K : Act → World → Prop) (QQ : Exit → Act → World → Prop)
  (HP : Hid (PAt w1 c st)) (cp : w1.cell? ⟨pb, 0, none⟩ = some (.pointer (some ⟨c.PB, 0, none⟩)))
  (HIS : Hid (∀ W, PAt W c st → Calls prog 94 #[pp c, .string ⟨#[40]⟩] W (retP (.bool false) W))) 
  (HK : Hid (∀ y30 y31 y32 y33 y34 y35 y36 y37 y38 y39 y40 y41 W, Below w1.heap.size w1 W → K ⟨#[z0z, .pointer (some ⟨pb, 0, none⟩), z2z, z3z, z4z, z5z, z6z, z7z, z8z, z9z, z10z, z11z, z12z, z13z, z14z, z15z, z16z, z17z, z18z, z19z, z20z, z21z, z22z, z23z, z24z, z25z, z26z, z27z, z28z, z29z, y30, y31, y32, y33, y34, y35, y36, y37, y38, y39, y40, y41, .bool true, z43z, z44z, z45z, z46z, z47z, z48z, z49z, z50z, z51z, z52z, z53z, z54z, z55z, z56z, z57z, z58z, z59z, z60z, z61z, z62z, z63z, z64z, z65z, z66z, z67z, z68z, z69z, z70z, z71z], ds⟩ W)) :
  Code.wp prog uR11 (Exit.then K QQ) ⟨#[z0z, .pointer (some ⟨pb, 0, none⟩), z2z, z3z, z4z, z5z, z6z, z7z, z8z, z9z, z10z, z11z, z12z, z13z, z14z, z15z, z16z, z17z, z18z, z19z, z20z, z21z, z22z, z23z, z24z, z25z, z26z, z27z, z28z, z29z, z30z, z31z, z32z, z33z, z34z, z35z, z36z, z37z, z38z, z39z, z40z, z41z, z42z, z43z, z44z, z45z, z46z, z47z, z48z, z49z, z50z, z51z, z52z, z53z, z54z, z55z, z56z, z57z, z58z, z59z, z60z, z61z, z62z, z63z, z64z, z65z, z66z, z67z, z68z, z69z, z70z, z71z], ds⟩ w1 := by
 have ca := HP.out.c3;refine wp_calm ?_
 conv => arg 2; whnf
 refine wp_region_held_drew (S := (fun w' => w'.cell? ⟨pb, 0, none⟩ = some (.pointer (some ⟨c.PB, 0, none⟩)) ∧ w'.cell? ⟨c.PB, 3, none⟩ = some (.int .i64 (st.i : Int)))) (by kernel_rfl) (⟨cp, ca⟩) (fun hHeld => ?_);refine wpAnyH_take (i := 0) (oi := ?o0) (v := ?v0) ?i0 (by kernel_rfl) (by kernel_rfl) (by kernel_rfl) ?q0 ?y0 hHeld ?_
 case i0 => simp only [zga, zgs, zgz]; rfl
 case q0 => exact fun _ _ _ h => h
 case y0 => refine .inl ⟨by rfl, ?_⟩; intro w' hSw; (try dsimp only at hSw); go_simp; try with_reducible rfl
 simp only [Act.put, zsa, zsz, zss];refine zr (r := 1) (o := ?o1) (by kernel_rfl) ?i1 (fun K hK => ?g1)
 case i1 => simp only [zga, zgs, zgz]; rfl
 case g1 =>
  go_simp;have hBel : Below w1.heap.size w1 w1.drew := by (repeat (first | with_reducible exact Below.refl _ _ | with_reducible assumption | with_reducible refine bel_alloc ?_ _ | with_reducible refine bel_set ?_ (by first | exact Nat.le_refl _ | (simp; done) | (simp; omega)) _ | with_reducible refine Below.drew ?_ | with_reducible refine bel_drewN ?_ _))
  refine (HIS.out _ (HP.out.below hBel)).mono ?_;rintro e w2 ⟨rfl, hb2⟩;have HC2 : Hid (Below w1.heap.size w1 w2) := bel_trans hBel hb2;have q0 : w2.cell? ⟨pb, 0, none⟩ = some (.pointer (some ⟨c.PB, 0, none⟩)) := keep_cell HC2.out cp;have q1 : w2.cell? ⟨c.PB, 3, none⟩ = some (.int .i64 (st.i : Int)) := keep_cell HC2.out ca;clear hb2 hBel;dsimp only;go_wp2_with fail
  refine hK.out _ _ (⟨q0, q1⟩) (fun hN => ?_);clear hK K hHeld;have hHeld := hN;clear hN
  try simp only [Act.put, zsa, zsz, zss]
  refine wpAnyH_take (i := 2) (oi := ?o2) (v := ?v2) ?i2 (by kernel_rfl) (by kernel_rfl) (by kernel_rfl) ?q2 ?y2 hHeld ?_
  case i2 => simp only [zga, zgs, zgz]; rfl
  case q2 => exact fun _ _ _ h => h
  case y2 => refine .inl ⟨by rfl, ?_⟩; intro w' hSw; (try dsimp only at hSw); go_simp; try with_reducible rfl
  simp only [Act.put, zsa, zsz, zss];refine wpAnyH_take (i := 3) (oi := ?o3) (v := ?v3) ?i3 (by kernel_rfl) (by kernel_rfl) (by kernel_rfl) ?q3 ?y3 hHeld ?_
  case i3 => simp only [zga, zgs, zgz]; rfl
  case q3 => exact fun _ _ _ h => h
  case y3 => refine .inl ⟨by rfl, ?_⟩; intro w' hSw; (try dsimp only at hSw); go_simp; try with_reducible rfl
  simp only [Act.put, zsa, zsz, zss];refine wpAnyH_take (i := 4) (oi := ?o4) (v := undef) ?i4 (by kernel_rfl) (by kernel_rfl) (by kernel_rfl) ?q4 ?y4 hHeld ?_
  case i4 => simp only [zga, zgs, zgz]; rfl
  case q4 => exact fun _ _ _ h => h
  case y4 => exact Or.inr ⟨by rfl, rfl⟩
  simp only [Act.put, zsa, zsz, zss];refine wpAnyH_take (i := 5) (oi := ?o5) (v := undef) ?i5 (by kernel_rfl) (by kernel_rfl) (by kernel_rfl) ?q5 ?y5 hHeld ?_
  case i5 => simp only [zga, zgs, zgz]; rfl
  case q5 => exact fun _ _ _ h => h
  case y5 => exact Or.inr ⟨by rfl, rfl⟩
  simp only [Act.put, zsa, zsz, zss];refine wpAnyH_take (i := 6) (oi := ?o6) (v := undef) ?i6 (by kernel_rfl) (by kernel_rfl) (by kernel_rfl) ?q6 ?y6 hHeld ?_
  case i6 => simp only [zga, zgs, zgz]; rfl
  case q6 => exact fun _ _ _ h => h
  case y6 => exact Or.inr ⟨by rfl, rfl⟩
  simp only [Act.put, zsa, zsz, zss];refine wpAnyH_take (i := 7) (oi := ?o7) (v := undef) ?i7 (by kernel_rfl) (by kernel_rfl) (by kernel_rfl) ?q7 ?y7 hHeld ?_
  case i7 => simp only [zga, zgs, zgz]; rfl
  case q7 => exact fun _ _ _ h => h
  case y7 => exact Or.inr ⟨by rfl, rfl⟩
  simp only [Act.put, zsa, zsz, zss];refine wpAnyH_take (i := 8) (oi := ?o8) (v := undef) ?i8 (by kernel_rfl) (by kernel_rfl) (by kernel_rfl) ?q8 ?y8 hHeld ?_
  case i8 => simp only [zga, zgs, zgz]; rfl
  case q8 => exact fun _ _ _ h => h
  case y8 => exact Or.inr ⟨by rfl, rfl⟩
  simp only [Act.put, zsa, zsz, zss];refine wpAnyH_take (i := 9) (oi := ?o9) (v := undef) ?i9 (by kernel_rfl) (by kernel_rfl) (by kernel_rfl) ?q9 ?y9 hHeld ?_
  case i9 => simp only [zga, zgs, zgz]; rfl
  case q9 => exact fun _ _ _ h => h
  case y9 => exact Or.inr ⟨by rfl, rfl⟩
  simp only [Act.put, zsa, zsz, zss];refine zr (r := 10) (o := ?o10) (by kernel_rfl) ?i10 (fun K hK => ?g10)
  case i10 => simp only [zga, zgs, zgz]; rfl
  case g10 =>
   go_simp;refine hK.out _ _ hHeld (fun hN => ?_);clear hK K hHeld;have hHeld := hN;clear hN
   try simp only [Act.put, zsa, zsz, zss]
   refine wpAnyH_take (i := 11) (oi := ?o11) (v := undef) ?i11 (by kernel_rfl) (by kernel_rfl) (by kernel_rfl) ?q11 ?y11 hHeld ?_
   case i11 => simp only [zga, zgs, zgz]; rfl
   case q11 => exact fun _ _ _ h => h
   case y11 => exact Or.inr ⟨by rfl, rfl⟩
   simp only [Act.put, zsa, zsz, zss];refine wpAnyH_take (i := 12) (oi := ?o12) (v := ?v12) ?i12 (by kernel_rfl) (by kernel_rfl) (by kernel_rfl) ?q12 ?y12 hHeld ?_
   case i12 => simp only [zga, zgs, zgz]; rfl
   case q12 => exact fun _ _ _ h => h
   case y12 => refine .inl ⟨by rfl, ?_⟩; intro w' hSw; (try dsimp only at hSw); go_simp; try with_reducible rfl
   simp only [Act.put, zsa, zsz, zss];refine wpAnyH_done (by kernel_rfl) ?_ _;clear hHeld;exact HK.out _ _ _ _ _ _ _ _ _ _ _ _ _ HC2.out
theorem un_r11n (pb : Nat) (b1 b2 : Bool) (hb : (b1 && b2) = false) (c : PC) (st : PSt) (w1 : World) (ds : List Deferred) (z0z z2z z3z z4z z5z z6z z7z z8z z9z z10z z11z z12z z13z z14z z15z z16z z17z z18z z19z z20z z21z z22z z23z z24z z25z z26z z27z z28z z29z z30z z31z z32z z33z z34z z35z z36z z37z z38z z39z z40z z41z z42z z43z z44z z45z z46z z47z z48z z49z z50z z51z z52z z53z z54z z55z z56z z57z z58z z59z z60z z61z z62z z63z z64z z65z z66z z67z z68z z69z z70z z71z : Value) (K : Act → World → Prop) (QQ : Exit → Act → World → Prop)
  (HP : Hid (PAt w1 c st)) (cp : w1.cell? ⟨pb, 0, none⟩ = some (.pointer (some ⟨c.PB, 0, none⟩)))
  (HIS : Hid (∀ W, PAt W c st → Calls prog 94 #[pp c, .string ⟨#[40]⟩] W (retP (.bool b1) W)))
  (HBG : Hid (∀ W, PAt W c st → Below w1.heap.size w1 W → Calls prog 90 #[pp c, .int .i64 ((st.i : Int) + 1)] W (fun e W' => e = .returned (.bool b2) ∧ W' = W))) (hi : (st.i : Int) ≤ 65536)
  (HK : Hid (∀ y30 y31 y32 y33 y34 y35 y36 y37 y38 y39 y40 y41 W, Below w1.heap.size w1 W → K ⟨#[z0z, .pointer (some ⟨pb, 0, none⟩), z2z, z3z, z4z, z5z, z6z, z7z, z8z, z9z, z10z, z11z, z12z, z13z, z14z, z15z, z16z, z17z, z18z, z19z, z20z, z21z, z22z, z23z, z24z, z25z, z26z, z27z, z28z, z29z, y30, y31, y32, y33, y34, y35, y36, y37, y38, y39, y40, y41, .bool true, z43z, z44z, z45z, z46z, z47z, z48z, z49z, z50z, z51z, z52z, z53z, z54z, z55z, z56z, z57z, z58z, z59z, z60z, z61z, z62z, z63z, z64z, z65z, z66z, z67z, z68z, z69z, z70z, z71z], ds⟩ W)) :
  Code.wp prog uR11 (Exit.then K QQ) ⟨#[z0z, .pointer (some ⟨pb, 0, none⟩), z2z, z3z, z4z, z5z, z6z, z7z, z8z, z9z, z10z, z11z, z12z, z13z, z14z, z15z, z16z, z17z, z18z, z19z, z20z, z21z, z22z, z23z, z24z, z25z, z26z, z27z, z28z, z29z, z30z, z31z, z32z, z33z, z34z, z35z, z36z, z37z, z38z, z39z, z40z, z41z, z42z, z43z, z44z, z45z, z46z, z47z, z48z, z49z, z50z, z51z, z52z, z53z, z54z, z55z, z56z, z57z, z58z, z59z, z60z, z61z, z62z, z63z, z64z, z65z, z66z, z67z, z68z, z69z, z70z, z71z], ds⟩ w1 := by
 cases b1 with
 | false => exact un_r11f pb c st w1 ds _ _ _ _ _ _ _ _ _ _ _ _ _ _ _ _ _ _ _ _ _ _ _ _ _ _ _ _ _ _ _ _ _ _ _ _ _ _ _ _ _ _ _ _ _ _ _ _ _ _ _ _ _ _ _ _ _ _ _ _ _ _ _ _ _ _ _ _ _ _ _ K QQ HP cp HIS HK
 | true =>
  cases b2 with
  | false => exact un_r11t pb false c st w1 ds _ _ _ _ _ _ _ _ _ _ _ _ _ _ _ _ _ _ _ _ _ _ _ _ _ _ _ _ _ _ _ _ _ _ _ _ _ _ _ _ _ _ _ _ _ _ _ _ _ _ _ _ _ _ _ _ _ _ _ _ _ _ _ _ _ _ _ _ _ _ _ K QQ HP cp HIS HBG hi HK
  | true => simp at hb

theorem chain2A (w : World) (r : Loop) : (loopW w r).heap.size = w.heap.size + 2 ∧ (∀ k, k < w.heap.size → (loopW w r).heap[k]? = w.heap[k]?) ∧ (loopW w r).heap[w.heap.size]? = some (.deferred (some [])) ∧ (loopW w r).heap[w.heap.size + 1]? = some (.loop r) := by
 refine ⟨by simp [loopW], fun k hk => ?_, ?_, ?_⟩
 ·rw [loopW, Below.heap_alloc _ _ k (by simp; omega), Below.heap_alloc _ _ k hk]
 ·rw [loopW, Below.heap_alloc _ _ _ (by simp)]
  exact World.alloc_heap_new w _
 ·have := World.alloc_heap_new (w.alloc (.deferred (some []))) (.loop r)
  rw [World.size_alloc] at this;exact this
theorem q_namedA {Q : Exit → Act → World → Prop} {a : Act} {w0 : World} (Fct : World → Prop) (h : Fct w0) (k : ∀ W, Fct W → Q .normal a W) : Q .normal a w0 := k w0 h
theorem NodeAt.keep {W W' : World} {g k : Nat} {d : ND} (h : NodeAt W g k d) (hb : W'.heap[g]? = W.heap[g]?) : NodeAt W' g k d :=
 ⟨(World.cell?_of_block hb).trans h.c0, (World.cell?_of_block hb).trans h.c1, (World.cell?_of_block hb).trans h.c2, (World.cell?_of_block hb).trans h.c3, (World.cell?_of_block hb).trans h.c4, (World.cell?_of_block hb).trans h.c5, (World.cell?_of_block hb).trans h.c6, (World.cell?_of_block hb).trans h.c7, (World.cell?_of_block hb).trans h.c8, (World.cell?_of_block hb).trans h.c9, (World.cell?_of_block hb).trans h.c10, (World.cell?_of_block hb).trans h.c11, (World.cell?_of_block hb).trans h.c12, (World.cell?_of_block hb).trans h.c13⟩
def US (lo e : Nat) : Nat → Prop := fun k => lo ≤ k ∧ k ≠ e ∧ k ≠ e + 2 ∧ k ≠ e + 3
structure UJ (wq : World) (lo : Nat) (c : PC) (v : Value) (rec : Loop) (acc : List ND) (RES : Tr × PSt) (i : Nat) (W : World) : Prop where
 os : W.os = wq.os
 tape : W.tape = wq.tape
 output : W.output = wq.output
 size : wq.heap.size + 4 ≤ W.heap.size
 bel : ∀ k, k < wq.heap.size → k ≠ c.PB → W.heap[k]? = wq.heap[k]?
 bx : W.heap[wq.heap.size + 1]? = some (.cells #[v] 186 (0, 0))
 dfr : W.heap[wq.heap.size + 2]? = some (.deferred (some []))
 lp : W.heap[wq.heap.size + 3]? = some (.loop rec)
 st : ∃ t s b, PAt W c s ∧ TopIn W (US lo wq.heap.size) t b ∧ Boxed W wq.heap.size 83 (.pointer (some ⟨b, 0, none⟩)) ∧ putOn (acc.take i).reverse t s = RES
theorem UJ.enter {w wq W0 : World} {lo b1 : Nat} {c : PC} {v : Value} {acc : List ND} {s : PSt} {t : Tr} (rec : Loop) (hW : W0 = (wq.alloc (.cells #[.pointer (some ⟨b1, 0, none⟩)] 83)).alloc (.cells #[v] 186)) (hp : PAt wq c s) (hg : c.g < wq.heap.size) (ht : Top wq lo t b1) : UJ wq lo c v rec acc (putOn acc.reverse t s) acc.length (loopW W0 rec) := by
 have hs : W0.heap.size = wq.heap.size + 2 := by rw [hW]; simp
 obtain ⟨h1, h2, h3, h4⟩ := chain2A W0 rec;rw [hs] at h1 h2 h3 h4
 have hb : ∀ k, k < wq.heap.size → (loopW W0 rec).heap[k]? = wq.heap[k]? := fun k hk => by
  rw [h2 k (by omega), hW, Below.heap_alloc _ _ k (by simp; omega), Below.heap_alloc _ _ k hk]
 have hb1 := ht.le;refine ⟨by rw [loopW, hW]; rfl, by rw [loopW, hW]; rfl, by rw [loopW, hW]; rfl, by omega, fun k hk _ => hb k hk, ?_, h3, h4, t, s, b1, hp.blocks (hb _ hp.lt) (hb _ hg), ?_, ?_, by rw [List.take_length]⟩
 ·rw [h2 _ (by omega), hW]
  have := World.alloc_heap_new (wq.alloc (.cells #[.pointer (some ⟨b1, 0, none⟩)] 83)) (.cells #[v] 186);rw [World.size_alloc] at this;exact this
 ·exact (ht.within (S := US lo wq.heap.size) (fun k k1 k2 => ⟨k1, by omega, by omega, by omega⟩)).keep (fun k _ hk => hb k hk)
 ·show (loopW W0 rec).heap[wq.heap.size]? = _
  rw [h2 _ (by omega), hW, Below.heap_alloc _ _ _ (by simp)];exact World.alloc_heap_new wq _
theorem UJ.round {wq W W' : World} {lo : Nat} {c : PC} {v : Value} {rec : Loop} {acc : List ND} {RES : Tr × PSt} {i b' : Nat} {d : ND} {t : Tr} {s : PSt} (h : UJ wq lo c v rec acc RES (i + 1) W) (PLq : c.PB < wq.heap.size) (hd : acc[i]? = some d) (hr : putOn (acc.take (i + 1)).reverse t s = RES) (hp : PAt W' c (growS s d [t])) (ht : TopIn W' (US lo wq.heap.size) (growT s d [t]) b') (hb : Boxed W' wq.heap.size 83 (.pointer (some ⟨b', 0, none⟩)))
  (hk : UKeep c.PB wq.heap.size (wq.heap.size + 3) W W') (hl : W'.heap[wq.heap.size + 3]? = W.heap[wq.heap.size + 3]?) : UJ wq lo c v rec acc RES i W' := by
 have hs := h.size;have ho : ∀ k, k < wq.heap.size + 3 → k ≠ c.PB → k ≠ wq.heap.size → W'.heap[k]? = W.heap[k]? := fun k h1 h2 h3 => hk.block k (by omega) h2 h3 (by omega);refine ⟨hk.os.trans h.os, hk.tape.trans h.tape, hk.output.trans h.output, by have := hk.size; omega, fun k h1 h2 => (ho k (by omega) h2 (by omega)).trans (h.bel k h1 h2), (ho _ (by omega) (by omega) (by omega)).trans h.bx, (ho _ (by omega) (by omega) (by omega)).trans h.dfr, hl.trans h.lp, _, _, b', hp, ht, hb, ?_⟩;rw [← hr, List.take_add_one, hd];simp [putOn]
theorem own_ne' {w : World} {b : Nat} {e : TypeId} {size : Nat} {v : Value} {n : Nat} {xs : List Value} (h : w.ownsRow (b + 1) e size v n xs) : some b ≠ v.ownBlock := fun he => by have := (own_lt h he.symm).1; omega
theorem unary_any (G : World → Prop) (ex : PSt → Tr × PSt) (c : PC) (r : Nat) (HGk : Hid (∀ W W', G W → Chg c.PB W W' → G W')) (HGt : Hid (∀ W, G W → TwTab W)) (HGp : Hid (∀ W, G W → PfTab W)) (hT : 2 ≠ c.PB) (HO : Hid (OneOk G 136 ex c r)) (HM : Hid (Goes ex c r)) : UnOk G (unF ex c) c r := by
 intro s w hp hG hr hgl;have PL := hp.lt;have HP : Hid (PAt w c s) := hp;have HG0 : Hid (G w) := hG;have hlim := hp.wds.lim;have HEN : Hid (∀ W, PAt W c s → Calls prog 138 #[pp c] W (pret (.tuple #[]) c (enterF c s) W)) := fun W h => enter_any c s W h;have hre := rem_enter c s;unfold unF;dsimp only;obtain ⟨s0, hs0⟩ : ∃ y, enterF c s = y := ⟨_, rfl⟩;rw [hs0] at HEN hre ⊢;obtain ⟨RA, hRA⟩ : ∃ R, aheadOf c [] s0 = R := ⟨_, rfl⟩;rw [hRA];have HRA : Hid (aheadOf c [] s0 = RA ∧ remF c s0 ≤ r ∧ remF c s0 ≤ 65536) := ⟨hRA, by omega, by unfold remF; split <;> omega⟩;have gb0 : w.heap.size ≠ c.PB := by omega
 have HB0 : Hid (Below w.heap.size w (w.alloc (.cells #[.pointer (some ⟨c.PB, 0, none⟩)] 57))) := bel_alloc (Below.refl _ _) _;have HBN : Hid ((w.alloc (.cells #[.pointer (some ⟨c.PB, 0, none⟩)] 57)).heap[w.heap.size]? = some (.cells #[.pointer (some ⟨c.PB, 0, none⟩)] 57 (0, 0))) := World.alloc_heap_new w _;clear hp hG hs0 hRA hr hre;obtain ⟨i0', hinf, hz0, hz1, hz2⟩ := info_parts infoNd;refine callsIn_wide.1 (callsIn_of_wp_marks (n := 4) func167 rfl trivial ?_);simp only [ntmps167, List.size_toArray, List.length_cons, List.length_nil, Nat.reduceAdd, Nat.reduceSub, Array.replicate_succ, Array.replicate_zero, List.push_toArray, List.append_toArray, List.nil_append, List.cons_append];refine wpIn_wide.2 ?_;go_wp2
 go_step3
 go_wp2_with fail
 refine (HEN.out _ (HP.out.below HB0.out)).mono ?_;rintro e w1 ⟨rfl, hp1, hg1⟩;have HU1 : Hid (UA w w1 c s0 (.slice none 0 0) []) := ⟨hp1, (Chg.of HB0.out).trans hg1, (hg1.block _ (by simp) gb0).trans HBN.out, World.ownsRow_nil _ _ _ _⟩;have cp1 : w1.cell? ⟨w.heap.size, 0, none⟩ = some (.pointer (some ⟨c.PB, 0, none⟩)) := heap_cell HU1.out.pb (by simp);clear hp1 hg1 HB0 HBN;dsimp only;go_wp2
 go_step3
 go_wp2;clear cp1
 go_loopg [3] (remF c s0) (fun k v3 wr => ∃ (st : PSt) (acc : List ND) (a : Option Addr) (cap : Nat), v3 = .slice a acc.length cap ∧ remF c st ≤ k ∧ Hid (UA w wr c st (.slice a acc.length cap) acc ∧ aheadOf c acc st = RA ∧ remF c st ≤ r ∧ acc.length + remF c st ≤ 65536))
 case atStart => exact ⟨s0, [], none, 0, rfl, Nat.le_refl _, ⟨HU1.out, HRA.out.1, HRA.out.2.1, by simpa using HRA.out.2.2⟩⟩
 case round =>
  obtain ⟨st, acc, a, cap, rfl, hk, HI⟩ := hrel;clear HU1;have HW : Hid (∀ W, PAt W c st → Calls prog 60 #[pp c] W (retWd (wordF c st) W)) := fun W h => word_any c st W h;obtain ⟨x, hx⟩ : ∃ x, wordF c st = x := ⟨_, rfl⟩;rw [hx] at HW;have HXW : Hid (wordF c st = x) := hx;have fa := field_at x.k x.n x.pl x.pc x.s;have cp : wr.cell? ⟨w.heap.size, 0, none⟩ = some (.pointer (some ⟨c.PB, 0, none⟩)) := heap_cell HI.out.1.pb (by simp);clear hx;go_wp2_with fail
  refine (HW.out _ HI.out.1.p).mono ?_;rintro e wa ⟨rfl, hba⟩;have HUa : Hid (UA w wa c st (.slice a acc.length cap) acc) := HI.out.1.below hba PL;have hsa : w.heap.size < wa.heap.size := (zge HUa.out.pb).1;have gB : wa.heap.size ≠ c.PB := by omega
  have HWA : Hid (UA w (wa.alloc (.cells #[.int .i64 x.pl, .int .i64 x.pc] 25)) c st (.slice a acc.length cap) acc ∧ (wa.alloc (.cells #[.int .i64 x.pl, .int .i64 x.pc] 25)).heap[wa.heap.size]? = some (.cells #[.int .i64 x.pl, .int .i64 x.pc] 25 (0, 0))) := ⟨HUa.out.below (bel_alloc (Below.refl _ _) _) PL, World.alloc_heap_new wa _⟩;have HNB : Hid (some wa.heap.size ≠ (Value.slice a acc.length cap).ownBlock) := fun he => by have := (own_lt HUa.out.row he.symm).2; omega
  have tab := (HGp.out _ (HGk.out _ _ HG0.out HUa.out.ch)).pf;have m0 : wa.cell? ⟨8, 0, none⟩ = some (.string ⟨#[45]⟩) := tab 0 (by omega);have m1 : wa.cell? ⟨8, 1, none⟩ = some (.string ⟨#[126]⟩) := tab 1 (by omega);have m2 : wa.cell? ⟨8, 2, none⟩ = some (.string ⟨#[33]⟩) := tab 2 (by omega);have m3 : wa.cell? ⟨8, 3, none⟩ = some (.string ⟨#[42]⟩) := tab 3 (by omega);have m4 : wa.cell? ⟨8, 4, none⟩ = some (.string ⟨#[38]⟩) := tab 4 (by omega);have tabl : 8 < wa.heap.size := World.block_lt_of_cell? wa _ m0;clear hba tab cp;dsimp only;go_wp2;refine wp_namedA (fun W => UA w W c st (.slice a acc.length cap) acc ∧ W.heap[wa.heap.size]? = some (.cells #[.int .i64 x.pl, .int .i64 x.pc] 25 (0, 0))) HWA.out ?_;intro W1 hW1;have HW1 : Hid (UA w W1 c st (.slice a acc.length cap) acc ∧ W1.heap[wa.heap.size]? = some (.cells #[.int .i64 x.pl, .int .i64 x.pc] 25 (0, 0))) := hW1;clear hW1 HWA m0 m1 m2 m3 m4
  go_loopg [3, 17] 5 (fun k v3 v17 wj => ∃ j : Nat, j ≤ 5 ∧ 5 - j ≤ k ∧ v3 = .slice a acc.length cap ∧ v17 = .int .i64 (j : Int) ∧ Hid (UA w wj c st (.slice a acc.length cap) acc ∧ wj.heap[wa.heap.size]? = some (.cells #[.int .i64 x.pl, .int .i64 x.pc] 25 (0, 0)) ∧ opF c st preOps = opF c st (preOps.drop j)))
  case atStart => exact ⟨0, by omega, by omega, rfl, rfl, ⟨HW1.out.1, HW1.out.2, by rw [List.drop_zero]⟩⟩
  case round =>
   obtain ⟨j, hj, hjk, rfl, rfl, HJ⟩ := hrel;clear HW1;have cp : wr.cell? ⟨w.heap.size, 0, none⟩ = some (.pointer (some ⟨c.PB, 0, none⟩)) := heap_cell HJ.out.1.pb (by simp);have lj : wa.heap.size < wr.heap.size := (zge HJ.out.2.1).1
   by_cases hjn : j < 5
   ·have ix := pf_index j hjn
    have j0 : (0 : Int) ≤ (j : Int) := by omega
    have j1 : (j : Int) < 5 := by omega
    obtain ⟨op, hop⟩ : ∃ op, preOps[j]'hjn = op := ⟨_, rfl⟩;have hop2 : preOps[j]? = some op := by rw [← hop]; exact List.getElem?_eq_getElem hjn
    rw [hop] at ix;have hsz := pre_size op (List.mem_of_getElem? hop2);have hdr := opF_drop c st preOps j op hop2;have HT1 : Hid (∀ W, PAt W c st → Calls prog 63 #[pp c, .string op] W (pret (.bool (takeF c st op).1) c (takeF c st op).2 W)) := fun W h => take_any c st _ W h hsz
    cases h1 : (takeF c st op).1 with
    | true =>
     rw [h1, if_pos rfl] at hdr;have hfound := HJ.out.2.2.trans hdr;have hlt := (takeF_true hsz h1).2;have hmore := (aheadOf_pre (acc := acc) hfound).symm.trans HI.out.2.1;rw [HXW.out] at hmore;obtain ⟨s1, hs1⟩ : ∃ y, (takeF c st op).2 = y := ⟨_, rfl⟩;rw [h1, hs1] at HT1;rw [hs1] at hmore hlt;have HMO : Hid (remF c s1 < remF c st ∧ aheadOf c (acc ++ [unD x op]) s1 = RA) := ⟨hlt, hmore⟩;have hb9 := HI.out.2.2.2;have hb8 : acc.length ≤ 65535 := by omega
     clear hdr hfound hlt hmore hs1 h1 hop hop2 hsz hb9;go_wp2_with fail
     refine (HT1.out _ HJ.out.1.p).mono ?_;rintro e w5 ⟨rfl, hp5, hg5⟩;have HU5 : Hid (UA w w5 c s1 (.slice a acc.length cap) acc) := HJ.out.1.step hp5 hg5 PL;have HB5 : Hid (w5.heap[wa.heap.size]? = some (.cells #[.int .i64 x.pl, .int .i64 x.pc] 25 (0, 0))) := (hg5.block _ lj gB).trans HJ.out.2.1;have l5 : wa.heap.size < w5.heap.size := (zge HB5.out).1;have c0 : w5.cell? ⟨wa.heap.size, 0, none⟩ = some (.int .i64 x.pl) := heap_cell HB5.out (by simp);have c1 : w5.cell? ⟨wa.heap.size, 1, none⟩ = some (.int .i64 x.pc) := heap_cell HB5.out (by simp);clear hp5 hg5 cp;dsimp only
     go_wp2_with (at_builtin; refine wpList_append_own_at _ rfl _ _ 186 rfl (w.heap.size + 1) 87 i0' (.agg #[.int .i64 0, .int .i64 0, .int .i64 0, .string ⟨#[]⟩, .string ⟨#[]⟩, .int .i64 0, .string ⟨#[]⟩, .int .i64 0, .bool false, .int .i64 0, .bool false, .slice none 0 0, .int .i64 0, .int .i64 0]) 14 152 underlying186 hinf hz0 hz1 hz2 rfl (by decide) (.slice a acc.length cap) acc.length (rowCells acc) (by rfl) (HU5.out.row.alloc _) ⟨w5.heap.size, 0, none⟩ 1 1 (ndCells ⟨20, x.pl, x.pc, ⟨#[]⟩, op, 0, noSh, false, 0⟩) (by rfl) (by rfl) ?c1 ?c2 ?c3 ?c4 ?c5 ?_)
     case c1 => exact World.news_of_block (World.alloc_heap_new w5 (.cells (ndCells ⟨20, x.pl, x.pc, ⟨#[]⟩, op, 0, noSh, false, 0⟩).toArray 87))
     case c2 => exact ndok _
     case c3 => unfold maxLen; omega
     case c4 => omega
     case c5 => simp; omega
     intro v' W2 hown' hgrow _ hat;have HUN : Hid (UA w W2 c s1 v' (acc ++ [unD x op])) := HU5.out.push PL hgl ((Below.refl _ _).alloc (Nat.le_refl _) _) hown' hgrow;clear hown' hgrow hat c0 c1;go_wp2
     go_roundg (remF c s1)
     case measure => have := HMO.out; omega
     case rel =>
      obtain ⟨a2, cap2, g2, hv2, _⟩ := HUN.out.slice;subst hv2;exact ⟨s1, acc ++ [unD x op], a2, cap2, rfl, Nat.le_refl _, ⟨HUN.out, HMO.out.2, by have := HMO.out; have := HI.out.2.2.1; omega, by have := HMO.out; have := HI.out.2.2.2; simp; omega⟩⟩
    | false =>
     rw [h1, if_neg (by decide)] at hdr;rw [h1, takeF_false h1] at HT1;have HD : Hid (opF c st preOps = opF c st (preOps.drop (j + 1))) := HJ.out.2.2.trans hdr;clear hdr h1 hop hop2 hsz;go_wp2_with fail
     refine (HT1.out _ HJ.out.1.p).mono ?_;rintro e w5 ⟨rfl, hp5, hg5⟩;have HF5 : Hid (UA w w5 c st (.slice a acc.length cap) acc ∧ w5.heap[wa.heap.size]? = some (.cells #[.int .i64 x.pl, .int .i64 x.pc] 25 (0, 0))) := ⟨HJ.out.1.step hp5 hg5 PL, (hg5.block _ lj gB).trans HJ.out.2.1⟩;clear hp5 hg5 cp;dsimp only;go_wp2
     go_roundg (5 - (j + 1))
     case rel => exact ⟨j + 1, by omega, by omega, rfl, by simp, ⟨HF5.out.1, HF5.out.2, HD.out⟩⟩
     case measure => omega
   ·have hjj : j = 5 := by omega
    subst hjj;have hnone : opF c st preOps = none := by rw [HJ.out.2.2]; rfl
    have HNO : Hid (opF c st preOps = none) := hnone;clear hnone;have hi9 : (st.i : Int) ≤ 65536 := by have := HJ.out.1.p.lim; omega
    have HBG : Hid (∀ W, PAt W c st → Below wr.heap.size wr W → Calls prog 90 #[pp c, .int .i64 ((st.i : Int) + 1)] W (fun e W' => e = .returned (.bool (beginF c st (st.i + 1))) ∧ W' = W)) := fun W h hb => by
     have h9 := begins_any c st (st.i + 1) W h (HGt.out _ (HGk.out _ _ HG0.out (HJ.out.1.ch.trans (.of hb)))) (by omega);rw [show ((st.i + 1 : Nat) : Int) = (st.i : Int) + 1 by omega] at h9;exact h9
    have HIS : Hid (∀ W, PAt W c st → Calls prog 94 #[pp c, .string ⟨#[40]⟩] W (retP (.bool (isF c st ⟨#[40]⟩)) W)) := fun W h => is_any c st ⟨#[40]⟩ W h;have HBXJ : Hid (wr.heap[wa.heap.size]? = some (.cells #[.int .i64 x.pl, .int .i64 x.pc] 25 (0, 0))) := HJ.out.2.1
    cases hcb : castB c st with
    | true =>
     have hand := Bool.and_eq_true_iff.1 (show (isF c st ⟨#[40]⟩ && beginF c st (st.i + 1)) = true from hcb);have hilt := isF_lt c st ⟨#[40]⟩ (by decide) hand.1;rw [hand.1] at HIS;rw [hand.2] at HBG;have hrc := rem_cast c st hcb;have hmore := (aheadOf_cast (acc := acc) HNO.out hcb).symm.trans HI.out.2.1;rw [HXW.out] at hmore;unfold castS at hmore hrc;have HTY : Hid (∀ W, PAt W c { st with i := st.i + 1 } → Chg c.PB w W → Calls prog 61 #[pp c] W (retSh c (typF c { st with i := st.i + 1 }).2 (typF c { st with i := st.i + 1 }).1 W)) := fun W h h2 => typ_any c _ W h (HGt.out _ (HGk.out _ _ HG0.out h2)) hT;obtain ⟨ty, hty⟩ : ∃ y, (typF c { st with i := st.i + 1 }).1 = y := ⟨_, rfl⟩;obtain ⟨s2, hs2⟩ : ∃ y, (typF c { st with i := st.i + 1 }).2 = y := ⟨_, rfl⟩;rw [hty, hs2] at HTY hmore;rw [hs2] at hrc;have HN : Hid (∀ W, PAt W c s2 → Calls prog 68 #[pp c, .string ⟨#[41]⟩] W (pret (.tuple #[]) c (needF c s2 ⟨#[41]⟩) W)) := fun W h => need_any c s2 _ W h (by decide);obtain ⟨s3, hs3⟩ : ∃ y, needF c s2 ⟨#[41]⟩ = y := ⟨_, rfl⟩;rw [hs3] at HN hmore hrc;have HMO : Hid (remF c s3 < remF c st ∧ aheadOf c (acc ++ [castD x ty]) s3 = RA) := ⟨hrc, hmore⟩;have HLT : Hid (st.i < c.ws.length) := hilt.2;have hb8 : acc.length ≤ 65536 := by have := HI.out.2.2.2; omega
     clear hand hilt hrc hmore hty hs2 hs3 hcb
     go_upto_region 11 with fail
     refine un_r11t w.heap.size true c st _ _ _ _ _ _ _ _ _ _ _ _ _ _ _ _ _ _ _ _ _ _ _ _ _ _ _ _ _ _ _ _ _ _ _ _ _ _ _ _ _ _ _ _ _ _ _ _ _ _ _ _ _ _ _ _ _ _ _ _ _ _ _ _ _ _ _ _ _ _ _ _ _ _ _ HJ.out.1.p cp HIS.out HBG.out hi9 ?_;intro y30 y31 y32 y33 y34 y35 y36 y37 y38 y39 y40 y41 W hbW;have HUW : Hid (UA w W c st (.slice a acc.length cap) acc) := HJ.out.1.below hbW PL;have HBW : Hid (W.heap[wa.heap.size]? = some (.cells #[.int .i64 x.pl, .int .i64 x.pc] 25 (0, 0))) := (hbW.block _ lj).trans HBXJ.out;have lW : wa.heap.size < W.heap.size := (zge HBW.out).1;have PLW : c.PB < W.heap.size := HUW.out.p.lt;have cp2 : W.cell? ⟨w.heap.size, 0, none⟩ = some (.pointer (some ⟨c.PB, 0, none⟩)) := heap_cell HUW.out.pb (by simp);have p0 := HUW.out.p.c0;have p1 := HUW.out.p.c1;have p2 := HUW.out.p.c2;have p3 := HUW.out.p.c3;have p4 := HUW.out.p.c4;have p5 := HUW.out.p.c5;have p6 := HUW.out.p.c6;have p7 := HUW.out.p.c7;have p8 := HUW.out.p.c8;have p9 := HUW.out.p.c9;have fz := HUW.out.p.fz;have PLZ := HUW.out.p.lt;have hw1 : IntKind.i64.wrap ((st.i : Int) + 1) = (st.i : Int) + 1 := by rw [IntKind.wrap_i64]; omega
     have HUX : Hid (UA w (W.setCell ⟨c.PB, 3, none⟩ (.int .i64 ((st.i : Int) + 1))) c { st with i := st.i + 1 } (.slice a acc.length cap) acc ∧ (W.setCell ⟨c.PB, 3, none⟩ (.int .i64 ((st.i : Int) + 1))).heap[wa.heap.size]? = some (.cells #[.int .i64 x.pl, .int .i64 x.pc] 25 (0, 0))) := by
      have hch : Chg c.PB W (W.setCell ⟨c.PB, 3, none⟩ (.int .i64 ((st.i : Int) + 1))) := (Chg.refl _ _).set _ _;refine ⟨HUW.out.step ⟨by go_simp, by go_simp, by go_simp, by go_simp, by go_simp, by go_simp, by go_simp, by go_simp, by go_simp, by go_simp, fun i => by go_simp, HUW.out.p.wds.chg hch, HLT.out⟩ hch PL, (heap_set_other gB).trans HBW.out⟩
     clear hbW cp HBG HIS
     go_upto_region 13 with fail
     clear p0 p1 p2 p3 p4 p5 p6 p7 p8 p9 fz cp2;obtain ⟨WX, hWX⟩ : ∃ WX, W.setCell ⟨c.PB, 3, none⟩ (.int .i64 ((st.i : Int) + 1)) = WX := ⟨_, rfl⟩;rw [hWX] at HUX ⊢;have HUX1 : Hid (UA w WX c { st with i := st.i + 1 } (.slice a acc.length cap) acc) := HUX.out.1;clear hWX;have hsx : w.heap.size < WX.heap.size := (zge HUX1.out.pb).1;refine un_r13 w.heap.size wa.heap.size (w.heap.size + 1) acc.length cap a x.pl x.pc ty (rowCells acc) c { st with i := st.i + 1 } s2 WX _ _ _ _ _ _ _ _ _ _ _ _ _ _ _ _ _ _ _ _ _ _ _ _ _ _ _ _ _ _ _ _ _ _ _ _ _ _ _ _ _ _ _ _ _ _ _ _ _ _ _ _ _ _ _ _ _ _ _ _ _ _ _ _ _ _ _ _ _ _ _ _ HUX1.out.p (heap_cell HUX.out.2 (by simp)) (heap_cell HUX.out.2 (by simp)) (heap_cell HUX1.out.pb (by simp)) ⟨HNB.out, own_ne' HUX1.out.row⟩ gB gb0 (by omega) (by omega) hb8 (fun W' h h2 => HTY.out W' h (HUX1.out.ch.trans h2)) HUX1.out.row ?_;intro y50 y51 y52 y53 y54 y55 y56 W2 W1' W3 q cap' hp2 hc2 hbel hown hgrow;have HUN : Hid (UA w W3 c s2 (.slice (some ⟨q, 0, none⟩) (acc.length + 1) cap') (acc ++ [castD x ty])) := (HUX1.out.step hp2 hc2 PL).push PL hgl hbel hown hgrow;have cp3 : W3.cell? ⟨w.heap.size, 0, none⟩ = some (.pointer (some ⟨c.PB, 0, none⟩)) := heap_cell HUN.out.pb (by simp);clear hp2 hc2 hbel hown hgrow;go_wp2_with fail
     refine (HN.out _ HUN.out.p).mono ?_;rintro e w6 ⟨rfl, hp6, hg6⟩;have HU6 : Hid (UA w w6 c s3 (.slice (some ⟨q, 0, none⟩) (acc.length + 1) cap') (acc ++ [castD x ty])) := HUN.out.step hp6 hg6 PL;clear hp6 hg6 cp3;dsimp only;go_wp2
     go_roundg (remF c s3)
     case measure => have := HMO.out; omega
     case rel => exact ⟨s3, acc ++ [castD x ty], some ⟨q, 0, none⟩, cap', by simp, Nat.le_refl _, ⟨by have h := HU6.out; simpa using h, HMO.out.2, by have := HMO.out; have := HI.out.2.2.1; omega, by have := HMO.out; have := HI.out.2.2.2; simp; omega⟩⟩
    | false =>
     have HRE : Hid (RA = (acc, st)) := HI.out.2.1.symm.trans (aheadOf_end HNO.out hcb);have hrr := HI.out.2.2.1;have HPO : Hid (∀ W, PAt W c st → Chg c.PB w W → Calls prog 172 #[pp c] W (retE c (postF ex c st) W)) := fun W h h2 => postfix_any G ex c st r W h (HGk.out _ _ HG0.out h2) HGk HGt hT HO HM hrr (by have := h2.size; omega);have hb8 : acc.length ≤ 65536 := by have := HI.out.2.2.2; omega
     go_upto_region 11 with fail
     refine un_r11n w.heap.size _ _ hcb c st _ _ _ _ _ _ _ _ _ _ _ _ _ _ _ _ _ _ _ _ _ _ _ _ _ _ _ _ _ _ _ _ _ _ _ _ _ _ _ _ _ _ _ _ _ _ _ _ _ _ _ _ _ _ _ _ _ _ _ _ _ _ _ _ _ _ _ _ _ _ _ _ _ _ _ HJ.out.1.p cp HIS.out HBG.out hi9 ?_;intro y30 y31 y32 y33 y34 y35 y36 y37 y38 y39 y40 y41 W hbW;have HUW : Hid (UA w W c st (.slice a acc.length cap) acc) := HJ.out.1.below hbW PL;have cp2 : W.cell? ⟨w.heap.size, 0, none⟩ = some (.pointer (some ⟨c.PB, 0, none⟩)) := heap_cell HUW.out.pb (by simp);clear hbW cp HBG HIS hcb;go_wp2_with fail
     refine (HPO.out _ HUW.out.p HUW.out.ch).mono ?_;rintro e wq ⟨b1, rfl, htq, hpq, hgq⟩;have hsW : w.heap.size < W.heap.size := (zge HUW.out.pb).1;have HQ : Hid (UA w wq c (postF ex c st).2 (.slice a acc.length cap) acc ∧ Top wq W.heap.size (postF ex c st).1 b1 ∧ W.heap.size ≤ wq.heap.size) := ⟨HUW.out.step hpq hgq PL, htq, hgq.size⟩;clear htq hpq hgq cp2;dsimp only;go_wp2_with fail
     refine (backward_any a acc.length cap _).mono ?_;rintro e w3 ⟨rfl, rfl⟩;dsimp only;go_wp2;obtain ⟨a', cap', g, hv, hcap, hadr, hgl2, hg1, hg2, hnodes⟩ := HQ.out.1.slice
     injection hv with hv1 hv2 hv3
     subst hv1 hv3;have PLq : c.PB < wq.heap.size := HQ.out.1.p.lt;have hWq := HQ.out.2.2;refine (wpIn_wide (n := 4)).1 ?_;refine range_outer (F := Fence.wide) rfl (by omega) (gf := 175) (lb := #[.pointer (some ⟨wq.heap.size + 1, 0, none⟩)]) (by simp [Act.eval]) trivial (enters_of func175 (by kernel_rfl) rfl) ?_;intro fn _;refine callsIn_wide.2 ?_;have hs0 : ((wq.alloc (.cells #[.pointer (some ⟨b1, 0, none⟩)] 83)).alloc (.cells #[.slice a acc.length cap] 186)).heap.size = wq.heap.size + 2 := by simp
     rw [hs0]
     generalize hrec : loopRec fn _ _ _ _ _ = rec
     have hJ0 := UJ.enter (w := w) (acc := acc) (v := .slice a acc.length cap) (W0 := (wq.alloc (.cells #[.pointer (some ⟨b1, 0, none⟩)] 83)).alloc (.cells #[.slice a acc.length cap] 186)) rec rfl HQ.out.1.p (by omega) HQ.out.2.1;refine (backward1_any (wq.heap.size + 3) (wq.heap.size + 1) g cap a acc _ (UJ wq W.heap.size c (.slice a acc.length cap) rec acc _) hJ0 hadr hcap hb8 ?_ ?_).mono ?_
     ·intro i W4 hJ
      refine ⟨heap_cell hJ.bx (by simp), fun k d hd => (hnodes k d hd).keep (hJ.bel g hgl2 ?_)⟩
      omega
     ·intro i d W4 hd hJ
      obtain ⟨t4, s4, b4, hp4, ht4, hb4, hr4⟩ := hJ.st;have hs4 := hJ.size;have hlp := hJ.lp;rw [← hrec] at hlp;refine un_round (wq.heap.size + 3) w.heap.size wq.heap.size (wq.heap.size + 2) W.heap.size fn (i : Int) d c s4 t4 b4 (US W.heap.size wq.heap.size) _ _ _ _ _ _ _ _ _ _ _ _ _ _ _ _ _ _ _ _ _ _ _ _ _ _ _ _ _ _ _ _ _ _ _ _ _ _ _ _ _ _ _ _ _ _ _ _ _ _ _ _ _ _ _ _ _ _ _ _ _ _ _ _ _ _ _ _ _ _ _ _ hlp hp4 ((hJ.bel _ (by omega) gb0).trans HQ.out.1.pb) hb4 ht4 (fun k hk => ⟨hk.1, hk.2.1, hk.2.2.2⟩) (fun k hk => ⟨by omega, by omega, by omega, by omega⟩) ⟨by omega, by omega, by omega⟩ (by omega) (by omega) (by omega) (by omega) (by omega) (by omega) (by omega) (by omega) ?_;intro b' W' h1 h2 h3 h4 h5;exact ⟨rfl, hJ.round PLq hd hr4 h1 h2 h3 h4 h5⟩
     ·rintro e W4 ⟨rfl, hJ⟩
      obtain ⟨t4, s4, b4, hp4, ht4, hb4, hr4⟩ := hJ.st;have hs4 := hJ.size;rw [List.take_zero, List.reverse_nil, putOn] at hr4;have HR4 : Hid (putOn acc.reverse (postF ex c st).1 (postF ex c st).2 = (t4, s4)) := hr4.symm;have hlp := hJ.lp;rw [← hrec] at hlp;refine ⟨⟨_, rfl⟩, _, hlp, by simp [loopRec], .inl ⟨rfl, ?_⟩⟩;have o : ∀ (r : Loop) k, k ≠ wq.heap.size + 2 + 1 → (W4.putObj (wq.heap.size + 2 + 1) (.loop r)).heap[k]? = W4.heap[k]? := fun r k hk => World.putObj_heap_other hk;have hch := HQ.out.1.ch;refine q_namedA (fun W6 => PAt W6 c s4 ∧ TopIn W6 (US W.heap.size wq.heap.size) t4 b4 ∧ Boxed W6 wq.heap.size 83 (.pointer (some ⟨b4, 0, none⟩)) ∧ W6.heap[wq.heap.size + 2]? = some (.deferred (some [])) ∧ Chg c.PB w W6 ∧ wq.heap.size + 4 ≤ W6.heap.size) ⟨hp4.blocks (o _ _ (by omega)) (o _ _ (by omega)), ht4.keep (fun k hk _ => o _ k hk.2.2.2), (o _ _ (by omega)).trans hb4, (o _ _ (by omega)).trans hJ.dfr, ⟨hJ.os.trans hch.os, hJ.tape.trans hch.tape, hJ.output.trans hch.output, by rw [World.putObj_size]; omega, fun k k1 k2 => (o _ _ (by omega)).trans ((hJ.bel k (by omega) k2).trans (hch.block k k1 k2))⟩, by rw [World.putObj_size]; exact hs4⟩ ?_;intro W6 hW6;have HW6 : Hid (PAt W6 c s4 ∧ TopIn W6 (US W.heap.size wq.heap.size) t4 b4 ∧ Boxed W6 wq.heap.size 83 (.pointer (some ⟨b4, 0, none⟩)) ∧ W6.heap[wq.heap.size + 2]? = some (.deferred (some [])) ∧ Chg c.PB w W6 ∧ wq.heap.size + 4 ≤ W6.heap.size) := hW6;have ce : W6.cell? ⟨wq.heap.size, 0, none⟩ = some (.pointer (some ⟨b4, 0, none⟩)) := hW6.2.2.1.cell;clear hW6 hp4 ht4 hb4 hr4 hlp hrec hJ hJ0 o hch hnodes;go_wp2;refine ⟨by simp, .inl ⟨_, _, rfl, run_takeDeferred HW6.out.2.2.2.1, ?_⟩⟩;have o7 : ∀ k, k ≠ wq.heap.size + 2 → (W6.putObj (wq.heap.size + 2) (.deferred none)).heap[k]? = W6.heap[k]? := fun k hk => World.putObj_heap_other hk;have hch6 := HW6.out.2.2.2.2.1;have hs6 := HW6.out.2.2.2.2.2;have hF7 : PAt (W6.putObj (wq.heap.size + 2) (.deferred none)) c s4 ∧ TopIn (W6.putObj (wq.heap.size + 2) (.deferred none)) (US W.heap.size wq.heap.size) t4 b4 ∧ Chg c.PB w (W6.putObj (wq.heap.size + 2) (.deferred none)) := ⟨HW6.out.1.blocks (o7 _ (by omega)) (o7 _ (by omega)), HW6.out.2.1.keep (fun k hk _ => o7 k hk.2.2.1), ⟨hch6.os, hch6.tape, hch6.output, by rw [World.putObj_size]; exact hch6.size, fun k k1 k2 => (o7 k (by omega)).trans (hch6.block k k1 k2)⟩⟩
      generalize W6.putObj (wq.heap.size + 2) (.deferred none) = W7 at hF7 ⊢
      refine ⟨by simp, .inr ⟨(fun h => by cases h), Fn.func 139, #[], 139, #[.pointer (some ⟨c.PB, 0, none⟩)], rfl, by simp [invoke, go_sem, enters_of func139 (by kernel_rfl) rfl], fun _ _ => trivial, ?_⟩⟩;refine (leave_d c s4 _ _ W7 hF7.1).mono ?_;rintro e u' W8 ⟨rfl, rfl, hp8, hg8⟩;refine ⟨_, (by simp [results, results167, go_sem]; rfl), ?_⟩;rw [HRE.out];dsimp only;rw [HR4.out];exact ⟨b4, rfl, ((hF7.2.1.top (lo := W.heap.size) (fun k hk => hk.1)).chg hg8 (by omega)).mono (by omega), hp8, hF7.2.2.trans hg8⟩
end Go.Proofs.YtlonbaefdffbeaaGreatDoor

