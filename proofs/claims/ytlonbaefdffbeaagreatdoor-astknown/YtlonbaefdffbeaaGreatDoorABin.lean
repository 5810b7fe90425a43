import Derived.Deep.LoopGhost
import Derived.WalkMore
import Derived.Test.YtlonbaefdffbeaaGreatDoorABinM
namespace Go.Proofs.YtlonbaefdffbeaaGreatDoor
open Go.ChangeShapes Go.WideShapes Go.ChangeAt Go.RowKit Go.Proofs.Tryz
set_option linter.unusedSimpArgs false
set_option linter.unusedVariables false
set_option maxRecDepth 20000
set_option maxHeartbeats 8000000

structure LvTab (gb : Nat → Nat × Nat) (w : World) : Prop where
 row : ∀ (l : Nat) (ops : List ByteArray), lvOps[l]? = some ops → w.cell? ⟨7, l, none⟩ = some (.slice (some ⟨(gb l).1, (gb l).2, none⟩) ops.length ops.length)
 op : ∀ (l : Nat) (ops : List ByteArray) (j : Nat) (op : ByteArray), lvOps[l]? = some ops → ops[j]? = some op → w.cell? ⟨(gb l).1, (gb l).2 + j, none⟩ = some (.string op)
theorem row_new {W : World} {lo hi g b y : Nat} {t tx : Tr} (hg : W.heap[g]? = some (.cells #[.pointer (some ⟨b, 0, none⟩), .pointer (some ⟨y, 0, none⟩)] 83 (0, 0))) (h1 : TreeAt W lo hi t b) (h2 : TreeAt W lo hi tx y) (e1 : lo ≤ g) (e2 : hi ≤ g) : RowAt W lo W.heap.size (some ⟨g, 0, none⟩) 2 [t, tx] [b, y] := by
 have hl := (zge hg).1;refine ⟨by simp, fun _ => ⟨g, rfl, e1, hl, fun i x hx => ?_⟩, rfl, fun i t' x ht' hx => ?_⟩
 ·have hi : i = 0 ∨ i = 1 := by have := (List.getElem?_eq_some_iff.1 hx).1; simp at this; omega
  rcases hi with rfl | rfl <;> (simp at hx; subst hx; exact heap_cell hg (by simp))
 ·have hi : i = 0 ∨ i = 1 := by have := (List.getElem?_eq_some_iff.1 hx).1; simp at this; omega
  rcases hi with rfl | rfl
  ·simp at hx ht'; subst hx ht'; exact h1.mono (Nat.le_refl _) (by omega)
  ·simp at hx ht'; subst hx ht'; exact h2.mono (Nat.le_refl _) (by omega)
def BinOk (G : World → Prop) (sub : PSt → Tr × PSt) (c : PC) (r : Nat) (l : Int) : Prop := ∀ (s : PSt) (w : World), PAt w c s → G w → remF c s ≤ r → c.g < w.heap.size → Calls prog 156 #[pp c, .int .i64 l] w (retE c (sub s) w)
theorem binary_step (G : World → Prop) (gb : Nat → Nat × Nat) (sub : PSt → Tr × PSt) (c : PC) (s : PSt) (r l : Nat) (ops : List ByteArray) (w : World) (hp : PAt w c s) (hG : G w) (HGk : Hid (∀ W W', G W → Chg c.PB W W' → G W')) (HGl : Hid (∀ W, G W → LvTab gb W)) (hl : lvOps[l]? = some ops) (HS : Hid (BinOk G sub c r ((l : Int) + 1))) (HM : Hid (Goes sub c (r + 1))) (hr : remF c s ≤ r) (hgl : c.g < w.heap.size) :
  Calls prog 156 #[.pointer (some ⟨c.PB, 0, none⟩), .int .i64 (l : Int)] w (retE c (binOf sub c ops (sub s).1 (sub s).2) w) := by
 have PL := hp.lt;have l10 : l < 10 := (List.getElem?_eq_some_iff.1 hl).1;have l10' : (l : Int) < 10 := by omega
 have l0 : (0 : Int) ≤ (l : Int) := by omega
 have wl : IntKind.i64.wrap ((l : Int) + 1) = (l : Int) + 1 := by rw [IntKind.wrap_i64]; omega
 have q10 : ((l : Int) == 10) = false := by simp; omega
 have q11 : ¬ l = 10 := by omega
 have q12 : (l == 10) = false := by simp; omega
 have q13 : ¬ (l : Int) = 10 := by omega
 have HSz : Hid (SizeOk ops) := lv_size ops (List.mem_of_getElem? hl);have HP : Hid (PAt w c s) := hp;have HG0 : Hid (G w) := hG;have HL : Hid (lvOps[l]? = some ops) := hl;have HS1 : Hid (∀ W, PAt W c s → Chg c.PB w W → Calls prog 156 #[pp c, .int .i64 ((l : Int) + 1)] W (retE c (sub s) W)) := fun W h h2 => HS.out s W h (HGk.out _ _ hG h2) hr (by have := h2.size; omega);have hr1 := HM.out s (by omega);obtain ⟨R, hR⟩ : ∃ R, binOf sub c ops (sub s).1 (sub s).2 = R := ⟨_, rfl⟩;rw [hR];have HR : Hid (binOf sub c ops (sub s).1 (sub s).2 = R ∧ remF c (sub s).2 ≤ r) := ⟨hR, by omega⟩
 have hn : ops.length ≤ 4 := by
  have h9 : lvOps.all (fun o => decide (o.length ≤ 4)) = true := by decide
  have := List.all_eq_true.1 h9 ops (List.mem_of_getElem? hl);simpa using this
 clear hp hG hR hr1 hr hl
 go_enter func156, ntmps156
 go_wp2
 go_step3
 go_wp2_with fail
 refine (HS1.out _ HP.out (Chg.refl _ _)).mono ?_;rintro e w1 ⟨b1, rfl, ht1, hp1, hg1⟩;have HS2 : Hid (PAt w1 c (sub s).2 ∧ Chg c.PB w w1 ∧ Top w1 w.heap.size (sub s).1 b1) := ⟨hp1, hg1, ht1⟩;clear ht1 hp1 hg1;dsimp only;go_wp2
 go_step3
 go_wp2
 go_loopg [5] (remF c (sub s).2) (fun k v5 wr => ∃ (st : PSt) (t : Tr) (b : Nat), v5 = .pointer (some ⟨b, 0, none⟩) ∧ remF c st ≤ k ∧ Hid (PAt wr c st ∧ Chg c.PB w wr ∧ Top wr w.heap.size t b ∧ binOf sub c ops t st = R ∧ remF c st ≤ r))
 case atStart => exact ⟨_, _, b1, rfl, Nat.le_refl _, ⟨HS2.out.1, HS2.out.2.1, HS2.out.2.2, HR.out.1, HR.out.2⟩⟩
 case round =>
  obtain ⟨st, t, b, rfl, hk, HI⟩ := hrel;have HW : Hid (∀ W, PAt W c st → Calls prog 60 #[pp c] W (retWd (wordF c st) W)) := fun W h => word_any c st W h;obtain ⟨x, hx⟩ : ∃ x, wordF c st = x := ⟨_, rfl⟩;rw [hx] at HW;have HXW : Hid (wordF c st = x) := hx;have fa := field_at x.k x.n x.pl x.pc x.s;clear hx;go_wp2_with fail
  refine (HW.out _ HI.out.1).mono ?_;rintro e wa ⟨rfl, hba⟩;have HCa : Hid (Chg c.PB w wa) := HI.out.2.1.trans (.of hba);have hsa : w.heap.size ≤ wa.heap.size := HCa.out.size;have gB : wa.heap.size ≠ c.PB := by omega
  have HWA : Hid (PAt (wa.alloc (.cells #[.int .i64 x.pl, .int .i64 x.pc] 25)) c st ∧ Chg c.PB w (wa.alloc (.cells #[.int .i64 x.pl, .int .i64 x.pc] 25)) ∧ Top (wa.alloc (.cells #[.int .i64 x.pl, .int .i64 x.pc] 25)) w.heap.size t b ∧ (wa.alloc (.cells #[.int .i64 x.pl, .int .i64 x.pc] 25)).heap[wa.heap.size]? = some (.cells #[.int .i64 x.pl, .int .i64 x.pc] 25 (0, 0))) := by
   have hA : Below wa.heap.size wa (wa.alloc (.cells #[.int .i64 x.pl, .int .i64 x.pc] 25)) := bel_alloc (Below.refl _ _) _;exact ⟨(HI.out.1.below hba).below hA, HCa.out.trans (.of hA), (HI.out.2.2.1.chg (.of hba) PL).chg (.of hA) PL, World.alloc_heap_new wa _⟩
  have tab := (HGl.out _ (HGk.out _ _ HG0.out HCa.out)).row l ops HL.out;have tabl : 7 < wa.heap.size := World.block_lt_of_cell? wa _ tab;clear hba;dsimp only;go_wp2;refine wp_namedA (fun W => PAt W c st ∧ Chg c.PB w W ∧ Top W w.heap.size t b ∧ W.heap[wa.heap.size]? = some (.cells #[.int .i64 x.pl, .int .i64 x.pc] 25 (0, 0))) HWA.out ?_;intro W1 hW1;have HW1 : Hid (PAt W1 c st ∧ Chg c.PB w W1 ∧ Top W1 w.heap.size t b ∧ W1.heap[wa.heap.size]? = some (.cells #[.int .i64 x.pl, .int .i64 x.pc] 25 (0, 0))) := hW1;clear hW1 HWA tab
  go_loopg [5, 24] (ops.length) (fun k v5 v24 wj => ∃ j : Nat, j ≤ ops.length ∧ ops.length - j ≤ k ∧ v5 = .pointer (some ⟨b, 0, none⟩) ∧ v24 = .int .i64 (j : Int) ∧ Hid (PAt wj c st ∧ Chg c.PB w wj ∧ Top wj w.heap.size t b ∧ wj.heap[wa.heap.size]? = some (.cells #[.int .i64 x.pl, .int .i64 x.pc] 25 (0, 0)) ∧ opF c st ops = opF c st (ops.drop j)))
  case atStart => exact ⟨0, by omega, by omega, rfl, rfl, ⟨HW1.out.1, HW1.out.2.1, HW1.out.2.2.1, HW1.out.2.2.2, by rw [List.drop_zero]⟩⟩
  case round =>
   obtain ⟨j, hj, hjk, rfl, rfl, HJ⟩ := hrel
   by_cases hjn : j < ops.length
   ·obtain ⟨op, hop⟩ : ∃ op, ops[j]? = some op := ⟨_, List.getElem?_eq_getElem hjn⟩
    have cop := (HGl.out _ (HGk.out _ _ HG0.out HJ.out.2.1)).op l ops j op HL.out hop;have hsz := HSz.out op (List.mem_of_getElem? hop);have hdr := opF_drop c st ops j op hop;have HT1 : Hid (∀ W, PAt W c st → Calls prog 63 #[pp c, .string op] W (pret (.bool (takeF c st op).1) c (takeF c st op).2 W)) := fun W h => take_any c st _ W h hsz
    cases h1 : (takeF c st op).1 with
    | true =>
     rw [h1, if_pos rfl] at hdr;have hfound := HJ.out.2.2.2.2.trans hdr;have hrr := HI.out.2.2.2.2;have hlt := (takeF_true hsz h1).2;have hmore := (binOf_more (t := t) HSz.out HM.out hrr hfound).symm.trans HI.out.2.2.2.1;have hri := rem_bstep HM.out t (wordF c st) op (takeF c st op).2 (by omega);obtain ⟨s1, hs1⟩ : ∃ y, (takeF c st op).2 = y := ⟨_, rfl⟩;rw [h1, hs1] at HT1;rw [HXW.out, hs1] at hmore hri;rw [hs1] at hlt;unfold binStep at hmore hri;have HE : Hid (∀ W, PAt W c s1 → Chg c.PB w W → Calls prog 156 #[pp c, .int .i64 ((l : Int) + 1)] W (retE c (sub s1) W)) := fun W h h2 => HS.out s1 W h (HGk.out _ _ HG0.out h2) (by omega) (by have := h2.size; omega);obtain ⟨tx, htx⟩ : ∃ t, (sub s1).1 = t := ⟨_, rfl⟩;obtain ⟨s2, hs2⟩ : ∃ s2, (sub s1).2 = s2 := ⟨_, rfl⟩;have HS5 : Hid (∀ W, PAt W c s1 → Chg c.PB w W → Calls prog 156 #[pp c, .int .i64 ((l : Int) + 1)] W (retE c (tx, s2) W)) := by rw [← htx, ← hs2]; exact HE
     rw [htx, hs2] at hmore hri;have HMO : Hid (remF c (growS s2 (binD x op) [t, tx]) < remF c st ∧ binOf sub c ops (growT s2 (binD x op) [t, tx]) (growS s2 (binD x op) [t, tx]) = R) := ⟨by dsimp only at hri; omega, hmore⟩;have HGR : Hid (∀ W q y, PAt W c s2 → Chg c.PB w W → RowAt W w.heap.size W.heap.size (some ⟨q, 0, none⟩) 2 [t, tx] [b, y] → Calls prog 125 #[pp c, .agg #[.int .i64 21, .int .i64 x.pl, .int .i64 x.pc, .string ⟨#[]⟩, .string op, .int .i64 0, .string ⟨#[]⟩, .int .i64 0, .bool false, .int .i64 0, .bool false, .slice (some ⟨q, 0, none⟩) 2 2, .int .i64 0, .int .i64 0]] W (retTr c (growS s2 (binD x op) [t, tx]) (growT s2 (binD x op) [t, tx]) w.heap.size W)) := fun W q y h h2 h3 => grow_any c s2 (binD x op) [t, tx] [b, y] _ 2 w.heap.size W h h3 PL hgl h2.size (by simp);clear hdr hfound hrr hlt hmore hri hs1 htx hs2 HE h1 hop hsz;go_wp2_with fail
     refine (HT1.out _ HJ.out.1).mono ?_;rintro e w5 ⟨rfl, hp5, hg5⟩;have HP5 : Hid (PAt w5 c s1) := hp5;have HG5 : Hid (Chg c.PB w w5) := HJ.out.2.1.trans hg5;have HB5 : Hid (w5.heap[wa.heap.size]? = some (.cells #[.int .i64 x.pl, .int .i64 x.pc] 25 (0, 0))) := zero_blk HJ.out.2.2.2.1 hg5 gB;have HT5 : Hid (Top w5 w.heap.size t b) := HJ.out.2.2.1.chg hg5 PL;have l5 : wa.heap.size < w5.heap.size := (zge HB5.out).1;have c0 : w5.cell? ⟨wa.heap.size, 0, none⟩ = some (.int .i64 x.pl) := heap_cell HB5.out (by simp);have c1 : w5.cell? ⟨wa.heap.size, 1, none⟩ = some (.int .i64 x.pc) := heap_cell HB5.out (by simp);clear hp5 hg5 cop;dsimp only;go_wp2_with fail
     refine wp_region_held_drew (S := (fun w' => w'.cell? ⟨wa.heap.size, 0, none⟩ = some (.int .i64 x.pl) ∧ w'.cell? ⟨wa.heap.size, 1, none⟩ = some (.int .i64 x.pc))) (by kernel_rfl) (⟨c0, c1⟩) (fun hHeld => ?_);refine wpAnyH_take (i := 0) (oi := ?o0) (v := ?v0) ?i0 (by kernel_rfl) (by kernel_rfl) (by kernel_rfl) ?q0 ?y0 hHeld ?_
     case i0 => simp only [zga, zgs, zgz]; rfl
     case q0 => exact fun _ _ _ h => h
     case y0 => refine .inl ⟨by rfl, ?_⟩; intro w' hSw; (try dsimp only at hSw); go_simp; try with_reducible rfl
     simp only [Act.put, zsa, zsz, zss];refine wpAnyH_take (i := 1) (oi := ?o1) (v := ?v1) ?i1 (by kernel_rfl) (by kernel_rfl) (by kernel_rfl) ?q1 ?y1 hHeld ?_
     case i1 => simp only [zga, zgs, zgz]; rfl
     case q1 => exact fun _ _ _ h => h
     case y1 => refine .inl ⟨by rfl, ?_⟩; intro w' hSw; (try dsimp only at hSw); go_simp; try with_reducible rfl
     simp only [Act.put, zsa, zsz, zss];refine wpAnyH_take (i := 2) (oi := ?o2) (v := ?v2) ?i2 (by kernel_rfl) (by kernel_rfl) (by kernel_rfl) ?q2 ?y2 hHeld ?_
     case i2 => simp only [zga, zgs, zgz]; rfl
     case q2 => exact fun _ _ _ h => h
     case y2 => refine .inl ⟨by rfl, ?_⟩; intro w' hSw; (try dsimp only at hSw); go_simp; try with_reducible rfl
     simp only [Act.put, zsa, zsz, zss];refine wpAnyH_take (i := 3) (oi := ?o3) (v := ?v3) ?i3 (by kernel_rfl) (by kernel_rfl) (by kernel_rfl) ?q3 ?y3 hHeld ?_
     case i3 => simp only [zga, zgs, zgz]; rfl
     case q3 => exact fun _ _ _ h => h
     case y3 => refine .inl ⟨by rfl, ?_⟩; intro w' hSw; (try dsimp only at hSw); go_simp; try with_reducible rfl
     simp only [Act.put, zsa, zsz, zss];refine wpAnyH_take (i := 4) (oi := ?o4) (v := ?v4) ?i4 (by kernel_rfl) (by kernel_rfl) (by kernel_rfl) ?q4 ?y4 hHeld ?_
     case i4 => simp only [zga, zgs, zgz]; rfl
     case q4 => exact fun _ _ _ h => h
     case y4 => refine .inl ⟨by rfl, ?_⟩; intro w' hSw; (try dsimp only at hSw); go_simp; try with_reducible rfl
     simp only [Act.put, zsa, zsz, zss];refine wpAnyH_take (i := 5) (oi := ?o5) (v := ?v5) ?i5 (by kernel_rfl) (by kernel_rfl) (by kernel_rfl) ?q5 ?y5 hHeld ?_
     case i5 => simp only [zga, zgs, zgz]; rfl
     case q5 => exact fun _ _ _ h => h
     case y5 => refine .inl ⟨by rfl, ?_⟩; intro w' hSw; (try dsimp only at hSw); go_simp; try with_reducible rfl
     simp only [Act.put, zsa, zsz, zss];refine wpAnyH_take (i := 6) (oi := ?o6) (v := ?v6) ?i6 (by kernel_rfl) (by kernel_rfl) (by kernel_rfl) ?q6 ?y6 hHeld ?_
     case i6 => simp only [zga, zgs, zgz]; rfl
     case q6 => exact fun _ _ _ h => h
     case y6 => refine .inl ⟨by rfl, ?_⟩; intro w' hSw; (try dsimp only at hSw); go_simp; try with_reducible rfl
     simp only [Act.put, zsa, zsz, zss];refine zr (r := 7) (o := ?o7) (by kernel_rfl) ?i7 (fun K hK => ?g7)
     case i7 => simp only [zga, zgs, zgz]; rfl
     case g7 =>
      go_simp;have hBel : Below w5.heap.size w5 w5.drew := by (repeat (first | with_reducible exact Below.refl _ _ | with_reducible assumption | with_reducible refine bel_alloc ?_ _ | with_reducible refine bel_set ?_ (by first | exact Nat.le_refl _ | (simp; done) | (simp; omega)) _ | with_reducible refine Below.drew ?_ | with_reducible refine bel_drewN ?_ _))
      have hGd : Chg c.PB w w5.drew := HG5.out.trans (.of hBel);refine (HS5.out _ (HP5.out.below hBel) hGd).mono ?_;rintro e w6 ⟨y, rfl, ht6, hp6, hg6⟩;have HP6 : Hid (PAt w6 c s2) := hp6;have HG6 : Hid (Chg c.PB w w6) := hGd.trans hg6;have hB6 : w6.heap[wa.heap.size]? = some (.cells #[.int .i64 x.pl, .int .i64 x.pc] 25 (0, 0)) := zero_blk ((hBel.block _ l5).trans HB5.out) hg6 gB;have HT6 : Hid (TreeAt w6 w.heap.size w6.heap.size t b) := ((HT5.out.chg (.of hBel) PL).chg hg6 PL).tree;have HX6 : Hid (TreeAt w6 w.heap.size w6.heap.size tx y) := ht6.tree.mono hGd.size (Nat.le_refl _);have l6 : wa.heap.size < w6.heap.size := (zge hB6).1;have c0 : w6.cell? ⟨wa.heap.size, 0, none⟩ = some (.int .i64 x.pl) := heap_cell hB6 (by simp);have c1 : w6.cell? ⟨wa.heap.size, 1, none⟩ = some (.int .i64 x.pc) := heap_cell hB6 (by simp);clear ht6 hp6 hg6 hBel hGd hB6;dsimp only;go_wp2_with fail
      refine hK.out _ _ (⟨c0, c1⟩) (fun hN => ?_);clear hK K hHeld;have hHeld := hN;clear hN
      try simp only [Act.put, zsa, zsz, zss]
      refine zr (r := 8) (o := ?o8) (by kernel_rfl) ?i8 (fun K hK => ?g8)
      case i8 => simp only [zga, zgs, zgz]; rfl
      case g8 =>
       go_simp;refine hK.out _ _ (⟨by go_simp, by go_simp⟩) (fun hN => ?_);clear hK K hHeld;have hHeld := hN;clear hN
       try simp only [Act.put, zsa, zsz, zss]
       refine wpAnyH_take (i := 9) (oi := ?o9) (v := ?v9) ?i9 (by kernel_rfl) (by kernel_rfl) (by kernel_rfl) ?q9 ?y9 hHeld ?_
       case i9 => simp only [zga, zgs, zgz]; rfl
       case q9 => exact fun _ _ _ h => h
       case y9 => refine .inl ⟨by rfl, ?_⟩; intro w' hSw; (try dsimp only at hSw); go_simp; try with_reducible rfl
       simp only [Act.put, zsa, zsz, zss];refine zr (r := 10) (o := ?o10) (by kernel_rfl) ?i10 (fun K hK => ?g10)
       case i10 => simp only [zga, zgs, zgz]; rfl
       case g10 =>
        go_simp;have hA6 : Below w6.heap.size w6 (w6.alloc (.cells #[.pointer (some ⟨b, 0, none⟩), .pointer (some ⟨y, 0, none⟩)] 83)) := bel_alloc (Below.refl _ _) _;have hr6 : RowAt (w6.alloc (.cells #[.pointer (some ⟨b, 0, none⟩), .pointer (some ⟨y, 0, none⟩)] 83)) w.heap.size (w6.alloc (.cells #[.pointer (some ⟨b, 0, none⟩), .pointer (some ⟨y, 0, none⟩)] 83)).heap.size (some ⟨w6.heap.size, 0, none⟩) 2 [t, tx] [b, y] := row_new (hi := w6.heap.size) (World.alloc_heap_new w6 _) (HT6.out.keep (fun k k1 k2 => hA6.block k k2)) (HX6.out.keep (fun k k1 k2 => hA6.block k k2)) HG6.out.size (Nat.le_refl _);refine (HGR.out _ _ y (HP6.out.below hA6) (HG6.out.trans (.of hA6)) hr6).mono ?_;rintro e w8 ⟨b', rfl, ht8, hb8, hp8, hg8⟩;have HF : Hid (PAt w8 c (growS s2 (binD x op) [t, tx]) ∧ Chg c.PB w w8 ∧ Top w8 w.heap.size (growT s2 (binD x op) [t, tx]) b') := ⟨hp8, (HG6.out.trans (.of hA6)).trans hg8, ht8⟩;have c80 : w8.cell? ⟨wa.heap.size, 0, none⟩ = some (.int .i64 x.pl) := (World.cell?_of_block ((hg8.block wa.heap.size (by simp; omega) gB).trans (hA6.block _ l6))).trans c0;have c81 : w8.cell? ⟨wa.heap.size, 1, none⟩ = some (.int .i64 x.pc) := (World.cell?_of_block ((hg8.block wa.heap.size (by simp; omega) gB).trans (hA6.block _ l6))).trans c1;clear ht8 hb8 hp8 hg8 hA6 hr6;dsimp only;go_wp2_with fail
        refine hK.out _ _ (⟨c80, c81⟩) (fun hN => ?_);clear hK K hHeld;have hHeld := hN;clear hN
        try simp only [Act.put, zsa, zsz, zss]
        refine wpAnyH_take (i := 11) (oi := ?o11) (v := ?v11) ?i11 (by kernel_rfl) (by kernel_rfl) (by kernel_rfl) ?q11 ?y11 hHeld ?_
        case i11 => simp only [zga, zgs, zgz]; rfl
        case q11 => exact fun _ _ _ h => h
        case y11 => refine .inl ⟨by rfl, ?_⟩; intro w' hSw; (try dsimp only at hSw); go_simp; try with_reducible rfl
        simp only [Act.put, zsa, zsz, zss];refine wpAnyH_done (by kernel_rfl) ?_ _;clear hHeld;go_wp2
        go_roundg (remF c (growS s2 (binD x op) [t, tx]))
        case measure => have := HMO.out; omega
        case rel => exact ⟨_, _, b', rfl, Nat.le_refl _, ⟨HF.out.1, HF.out.2.1, HF.out.2.2, HMO.out.2, by have := HMO.out.1; have := HI.out.2.2.2.2; omega⟩⟩
    | false =>
     rw [h1, if_neg (by decide)] at hdr;rw [h1, takeF_false h1] at HT1;have HD : Hid (opF c st ops = opF c st (ops.drop (j + 1))) := HJ.out.2.2.2.2.trans hdr;clear hdr h1 hop hsz;go_wp2_with fail
     refine (HT1.out _ HJ.out.1).mono ?_;rintro e w5 ⟨rfl, hp5, hg5⟩;have HF5 : Hid (PAt w5 c st ∧ Chg c.PB w w5 ∧ Top w5 w.heap.size t b ∧ w5.heap[wa.heap.size]? = some (.cells #[.int .i64 x.pl, .int .i64 x.pc] 25 (0, 0))) := ⟨hp5, HJ.out.2.1.trans hg5, HJ.out.2.2.1.chg hg5 PL, zero_blk HJ.out.2.2.2.1 hg5 gB⟩;clear hp5 hg5 cop;dsimp only;go_wp2
     go_roundg (ops.length - (j + 1))
     case rel => exact ⟨j + 1, by omega, by omega, rfl, by simp, ⟨HF5.out.1, HF5.out.2.1, HF5.out.2.2.1, HF5.out.2.2.2, HD.out⟩⟩
     case measure => omega
   ·have hjj : j = ops.length := by omega
    subst hjj;have hnone : opF c st ops = none := by rw [HJ.out.2.2.2.2, List.drop_length]; rfl
    have HRE : Hid (R = (t, st)) := HI.out.2.2.2.1.symm.trans (binOf_end hnone);clear hnone;go_wp2
    try rw [Exit.noGoto_ret]
    go_ret;exact ⟨b, rfl, by rw [HRE.out]; exact HJ.out.2.2.1, by rw [HRE.out]; exact HJ.out.1, HJ.out.2.1⟩
end Go.Proofs.YtlonbaefdffbeaaGreatDoor
