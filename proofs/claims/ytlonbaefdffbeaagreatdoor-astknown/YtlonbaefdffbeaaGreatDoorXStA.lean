import Derived.Test.YtlonbaefdffbeaaGreatDoorXUn
import Derived.Deep.AppendLies
import Derived.Maps.AppendAt
namespace Go.Proofs.YtlonbaefdffbeaaGreatDoor
open Go.ChangeShapes Go.WideShapes Go.ChangeAt Go.RowKit Go.Proofs.Tryz
set_option linter.unusedSimpArgs false
set_option linter.unusedVariables false
set_option maxRecDepth 100000
set_option maxHeartbeats 8000000

structure PartsAt (W : World) (lo B : Nat) (v : Value) (ts : List Tr) (bs : List Nat) : Prop where
 own : W.ownsRow lo 83 1 v ts.length (bs.map ptrV)
 hl : bs.length = ts.length
 nb : v.ownBlock ≠ some B
 sub : ∀ (i : Nat) (t : Tr) (x : Nat), ts[i]? = some t → bs[i]? = some x → TreeIn W (fun k => lo ≤ k ∧ k < W.heap.size ∧ k ≠ B ∧ some k ≠ v.ownBlock) t x
theorem PartsAt.nil (W : World) (lo B : Nat) : PartsAt W lo B (.slice none 0 0) [] [] := ⟨World.ownsRow_nil _ _ _ _, rfl, by simp [Value.ownBlock], fun i t x h => by simp at h⟩
theorem PartsAt.keep {W W' : World} {lo B : Nat} {v : Value} {ts : List Tr} {bs : List Nat} (h : PartsAt W lo B v ts bs) (hs : W.heap.size ≤ W'.heap.size) (hb : ∀ k, lo ≤ k → k < W.heap.size → k ≠ B → W'.heap[k]? = W.heap[k]?) : PartsAt W' lo B v ts bs := by
 refine ⟨?_, h.hl, h.nb, fun i t x ht hx => (h.sub i t x ht hx).keep (fun k hk => hb k hk.1 hk.2.1 hk.2.2.1) (fun k hk => ⟨hk.1, by have := hk.2.1; omega, hk.2.2.1, hk.2.2.2⟩)⟩;refine ⟨h.own.1, ?_⟩
 rcases h.own.2 with e | ⟨g, cap, cur, h1, h2, h3, h4⟩
 ·exact .inl e
 ·refine .inr ⟨g, cap, cur, h1, h2, (hb g h2 (zge h3).1 ?_).trans h3, h4⟩
  intro he
  apply h.nb
  rw [h1, he]
  rfl
theorem PartsAt.chg {PB : Nat} {W W' : World} {lo B : Nat} {v : Value} {ts : List Tr} {bs : List Nat} (h : PartsAt W lo B v ts bs) (hc : Chg PB W W') (hp : PB < lo) : PartsAt W' lo B v ts bs :=
 h.keep hc.size (fun k k1 k2 _ => hc.block k k2 (by omega))
theorem PartsAt.push {W W1 W2 : World} {lo B l x : Nat} {v v' : Value} {ts : List Tr} {bs : List Nat} {t : Tr} (h : PartsAt W lo B v ts bs) (ht : TreeIn W (fun k => lo ≤ k ∧ k < W.heap.size ∧ k ≠ B ∧ some k ≠ v.ownBlock) t x) (hB : B < W.heap.size)
  (h1 : Below W.heap.size W W1) (hown : W2.ownsRow lo 83 1 v' (ts.length + 1) (bs.map ptrV ++ [ptrV x])) (hg : W1.grownBy W2 v.ownBlock) (hat : v'.ownBlock = v.ownBlock ∨ v'.ownBlock = some W1.heap.size) : PartsAt W2 lo B v' (ts ++ [t]) (bs ++ [x]) := by
 have hs1 := h1.size;have hs2 := hg.size
 have keepT : ∀ (t' : Tr) (x' : Nat), TreeIn W (fun k => lo ≤ k ∧ k < W.heap.size ∧ k ≠ B ∧ some k ≠ v.ownBlock) t' x' → TreeIn W2 (fun k => lo ≤ k ∧ k < W2.heap.size ∧ k ≠ B ∧ some k ≠ v'.ownBlock) t' x' := fun t' x' e =>
  e.keep (fun k hk => (hg.block k (by omega) hk.2.2.2).trans (h1.block k hk.2.1)) (fun k hk => ⟨hk.1, by have := hk.2.1; omega, hk.2.2.1, by
   rcases hat with e | e
   ·rw [e]; exact hk.2.2.2
   ·rw [e]
    intro he
    injection he with he
    have := hk.2.1
    omega⟩)
 refine ⟨by rw [List.length_append, List.map_append]; exact hown, by rw [List.length_append, List.length_append, h.hl]; rfl, ?_, fun i t' x' ht' hx' => ?_⟩
 ·rcases hat with e | e
  ·rw [e]; exact h.nb
  ·rw [e]
   intro he
   injection he with he
   omega
 by_cases hi : i < ts.length
 ·rw [List.getElem?_append_left hi] at ht'
  rw [List.getElem?_append_left (by rw [h.hl]; exact hi)] at hx';exact keepT t' x' (h.sub i t' x' ht' hx')
 ·rw [List.getElem?_append_right (by omega)] at ht'
  rw [List.getElem?_append_right (by rw [h.hl]; omega), h.hl] at hx'
  have hz : i - ts.length = 0 := by
   have := (List.getElem?_eq_some_iff.1 ht').1;simp at this
   omega
  rw [hz] at ht' hx';simp at ht' hx';subst ht' hx';exact keepT t x ht
theorem PartsAt.row {W : World} {lo B : Nat} {v : Value} {ts : List Tr} {bs : List Nat} (h : PartsAt W lo B v ts bs) : ∃ a cap, v = .slice a ts.length cap ∧ RowAt W lo W.heap.size a cap ts bs := by
 have hsub : ∀ (i : Nat) (t : Tr) (x : Nat), ts[i]? = some t → bs[i]? = some x → TreeAt W lo W.heap.size t x := fun i t x ht hx => (h.sub i t x ht hx).at_ (fun k hk => ⟨hk.1, hk.2.1⟩)
 rcases h.own.2 with ⟨e1, e2⟩ | ⟨g, cap, cur, h1, h2, h3, h4, h5, h6, h7⟩
 ·have hn : ts = [] := List.length_eq_zero_iff.1 e2
  subst hn;exact ⟨none, 0, e1, ⟨Nat.le_refl _, fun hne => absurd rfl hne, h.hl, hsub⟩⟩
 ·refine ⟨_, cap, h1, ⟨h4, fun _ => ⟨g, rfl, h2, (zge h3).1, fun i x hx => ?_⟩, h.hl, hsub⟩⟩
  have hi : i < ts.length := by
   have := (List.getElem?_eq_some_iff.1 hx).1;have := h.hl
   omega
  refine heap_cell h3 ?_;have e : (bs.map ptrV)[i]? = some (ptrV x) := by rw [List.getElem?_map, hx]; rfl
  rw [← h7, List.getElem?_take, if_pos (by omega)] at e;simpa [ptrV] using e
theorem PartsAt.one {W : World} {lo B g x cap : Nat} {t : Tr} (hg : W.heap[g]? = some (.cells #[ptrV x] 83 (0, 0))) (h1 : lo ≤ g) (h2 : g ≠ B) (ht : TreeIn W (fun k => lo ≤ k ∧ k < W.heap.size ∧ k ≠ B ∧ k ≠ g) t x) : PartsAt W lo B (.slice (some ⟨g, 0, none⟩) 1 1) [t] [x] := by
 refine ⟨⟨rfl, .inr ⟨g, 1, #[ptrV x], rfl, h1, hg, Nat.le_refl _, by unfold maxLen; omega, rfl, rfl⟩⟩, rfl, by simp [Value.ownBlock]; exact h2, fun i t' x' ht' hx' => ?_⟩;have hi : i = 0 := by have := (List.getElem?_eq_some_iff.1 ht').1; simp at this; omega
 subst hi;simp at ht' hx';subst ht' hx';exact ht.keep (fun _ _ => rfl) (fun k hk => ⟨hk.1, hk.2.1, hk.2.2.1, by simp [Value.ownBlock]; exact hk.2.2.2⟩)
theorem PartsAt.two {W : World} {lo B g x y : Nat} {t u : Tr} (hg : W.heap[g]? = some (.cells #[ptrV x, ptrV y] 83 (0, 0))) (h1 : lo ≤ g) (h2 : g ≠ B) (ht : TreeIn W (fun k => lo ≤ k ∧ k < W.heap.size ∧ k ≠ B ∧ k ≠ g) t x) (hu : TreeIn W (fun k => lo ≤ k ∧ k < W.heap.size ∧ k ≠ B ∧ k ≠ g) u y) : PartsAt W lo B (.slice (some ⟨g, 0, none⟩) 2 2) [t, u] [x, y] := by
 refine ⟨⟨rfl, .inr ⟨g, 2, #[ptrV x, ptrV y], rfl, h1, hg, Nat.le_refl _, by unfold maxLen; omega, rfl, rfl⟩⟩, rfl, by simp [Value.ownBlock]; exact h2, fun i t' x' ht' hx' => ?_⟩;have hi : i = 0 ∨ i = 1 := by have := (List.getElem?_eq_some_iff.1 ht').1; simp at this; omega
 have k : ∀ (t' : Tr) (x' : Nat), TreeIn W (fun k => lo ≤ k ∧ k < W.heap.size ∧ k ≠ B ∧ k ≠ g) t' x' → TreeIn W (fun k => lo ≤ k ∧ k < W.heap.size ∧ k ≠ B ∧ some k ≠ (Value.slice (some ⟨g, 0, none⟩) 2 2).ownBlock) t' x' := fun t' x' h => h.keep (fun _ _ => rfl) (fun k hk => ⟨hk.1, hk.2.1, hk.2.2.1, by simp [Value.ownBlock]; exact hk.2.2.2⟩)
 rcases hi with rfl | rfl
 ·simp at ht' hx'; subst ht' hx'; exact k _ _ ht
 ·simp at ht' hx'; subst ht' hx'; exact k _ _ hu
theorem own_lt_parts {W : World} {lo B : Nat} {v : Value} {ts : List Tr} {bs : List Nat} (h : PartsAt W lo B v ts bs) {k : Nat} (hk : v.ownBlock = some k) : lo ≤ k ∧ k < W.heap.size := own_lt h.own hk

structure Chg' (PB lo : Nat) (w W : World) : Prop where
 os : W.os = w.os
 tape : W.tape = w.tape
 output : W.output = w.output
 size : w.heap.size ≤ W.heap.size
 block : ∀ k, k < lo → k ≠ PB → W.heap[k]? = w.heap[k]?
theorem Chg'.chg {PB lo : Nat} {w0 w W : World} (h : Chg' PB lo w W) (hc : Chg PB w0 w) (hb : w0.heap.size ≤ lo) : Chg PB w0 W :=
 ⟨h.os.trans hc.os, h.tape.trans hc.tape, h.output.trans hc.output, Nat.le_trans hc.size h.size, fun k h1 h2 => (h.block k (by omega) h2).trans (hc.block k h1 h2)⟩
theorem ap_end {c : PC} {s2 : PSt} {w1 w6 w7 : World} {lo B n cap q cap2 y : Nat} {a : Option Addr} {d : ND} {ts : List Tr} {bs : List Nat} {tx : Tr}
  (HP6 : PAt w6 c s2) (HG6 : Chg c.PB w1 w6) (HQ6 : PartsAt w6 lo B (.slice a n cap) ts bs) (HQ7 : PartsAt w7 lo B (.slice (some ⟨q, 0, none⟩) (n + 1) cap2) (ts ++ [tx]) (bs ++ [y]))
  (HK7 : ∀ k, k < w6.heap.size → some k ≠ (Value.slice a n cap).ownBlock → w7.heap[k]? = w6.heap[k]?) (HB7 : w7.heap[B]? = some (.cells (nodeCells d (.slice a n cap) 0) 87 (0, 0))) (HS7 : w7.os = w6.os ∧ w7.tape = w6.tape ∧ w7.output = w6.output ∧ w6.heap.size ≤ w7.heap.size)
  (PL : c.PB < lo) (hg : c.g < lo) (hlB : lo ≤ B) (hls : lo ≤ w1.heap.size) (gB : B ≠ c.PB) :
  PAt (w7.setCell ⟨B, 11, none⟩ (.slice (some ⟨q, 0, none⟩) (n + 1) cap2)) c s2 ∧ Chg' c.PB lo w1 (w7.setCell ⟨B, 11, none⟩ (.slice (some ⟨q, 0, none⟩) (n + 1) cap2)) ∧ (w7.setCell ⟨B, 11, none⟩ (.slice (some ⟨q, 0, none⟩) (n + 1) cap2)).heap[B]? = some (.cells (nodeCells d (.slice (some ⟨q, 0, none⟩) (n + 1) cap2) 0) 87 (0, 0)) ∧ PartsAt (w7.setCell ⟨B, 11, none⟩ (.slice (some ⟨q, 0, none⟩) (n + 1) cap2)) lo B (.slice (some ⟨q, 0, none⟩) (n + 1) cap2) (ts ++ [tx]) (bs ++ [y]) := by
 have hs6 := HG6.size;refine ⟨?_, ?_, ?_, ?_⟩
 ·exact (HP6.blocks (HK7 _ HP6.lt (fun he => by have := (own_lt_parts HQ6 he.symm).1; omega)) (HK7 _ (by omega) (fun he => by have := (own_lt_parts HQ6 he.symm).1; omega))).blocks (heap_set_other (Ne.symm gB)) (heap_set_other (by omega))
 ·exact ⟨HS7.1.trans HG6.os, HS7.2.1.trans HG6.tape, HS7.2.2.1.trans HG6.output, by rw [size_set]; exact Nat.le_trans HG6.size HS7.2.2.2, fun k k1 k2 => (heap_set_other (by omega)).trans ((HK7 k (by omega) (fun he => by have := (own_lt_parts HQ6 he.symm).1; omega)).trans (HG6.block k (by omega) k2))⟩
 ·exact Eq.trans (heap_set_same (o := 11) HB7 _) (by simp [nodeCells])
 ·exact HQ7.keep (by rw [size_set]; exact Nat.le_refl _) (fun k _ _ hk => heap_set_other hk)
noncomputable def ap_blockLR : Code := ((Tryz.f99.body.bind (regionU 5)).getD .skip)
theorem ap_blockL (B lo n cap : Nat) (a : Option Addr) (d : ND) (ts : List Tr) (bs : List Nat) (tx : Tr) (c : PC) (s s2 : PSt) (w1 : World) (ds : List Deferred) (z1z z2z z4z z5z z6z z7z z8z z9z z10z z11z z12z z13z z14z z15z z16z z17z z18z z19z z20z z21z z22z z23z z24z z25z z26z z27z z28z z29z z30z z31z z32z z33z z34z z35z z36z : Value) (K : Act → World → Prop) (QQ : Exit → Act → World → Prop)
  (HP : Hid (PAt w1 c s)) (HBX : Hid (w1.heap[B]? = some (.cells (nodeCells d (.slice a n cap) 0) 87 (0, 0)))) (HPT : Hid (PartsAt w1 lo B (.slice a n cap) ts bs)) (hnl : ts.length = n)
  (PL : c.PB < lo) (hg : c.g < lo) (hlB : lo ≤ B) (hls : lo ≤ w1.heap.size) (hn : n ≤ 100000)
  (HC : Hid (∀ W, PAt W c s → Chg c.PB w1 W → Calls prog 123 #[pp c] W (retE c (tx, s2) W)))
  (HK : Hid (∀ y18 y19 y20 y21 y22 y23 y24 W q cap2 y, PAt W c s2 → Chg' c.PB lo w1 W → W.heap[B]? = some (.cells (nodeCells d (.slice (some ⟨q, 0, none⟩) (n + 1) cap2) 0) 87 (0, 0)) → PartsAt W lo B (.slice (some ⟨q, 0, none⟩) (n + 1) cap2) (ts ++ [tx]) (bs ++ [y]) → K ⟨#[.pointer (some ⟨c.PB, 0, none⟩), z1z, z2z, .pointer (some ⟨B, 0, none⟩), z4z, z5z, z6z, z7z, z8z, z9z, z10z, z11z, z12z, z13z, z14z, z15z, z16z, z17z, y18, y19, y20, y21, y22, y23, y24, z25z, z26z, z27z, z28z, z29z, z30z, z31z, z32z, z33z, z34z, z35z, z36z], ds⟩ W)) :
  Code.wp prog ap_blockLR (Exit.then K QQ) ⟨#[.pointer (some ⟨c.PB, 0, none⟩), z1z, z2z, .pointer (some ⟨B, 0, none⟩), z4z, z5z, z6z, z7z, z8z, z9z, z10z, z11z, z12z, z13z, z14z, z15z, z16z, z17z, z18z, z19z, z20z, z21z, z22z, z23z, z24z, z25z, z26z, z27z, z28z, z29z, z30z, z31z, z32z, z33z, z34z, z35z, z36z], ds⟩ w1 := by
 obtain ⟨i0', hinf, hz0, hz1, hz2⟩ := info_parts infoP;have lB : B < w1.heap.size := (zge HBX.out).1;have gB : B ≠ c.PB := by omega
 have c11 := nc11 HBX.out;have hno : ∀ {W : World} {v : Value} {xs : List Value}, W.ownsRow lo 83 1 v ts.length xs → W.ownsRow lo 83 1 v n xs := fun h => hnl ▸ h;refine wp_calm ?_
 conv => arg 2; whnf
 refine wp_region_held_drew (S := (fun _ => True)) (by kernel_rfl) (trivial) (fun hHeld => ?_);refine wpAnyH_take (i := 0) (oi := ?o0) (v := ?v0) ?i0 (by kernel_rfl) (by kernel_rfl) (by kernel_rfl) ?q0 ?y0 hHeld ?_
 case i0 => simp only [zga, zgs, zgz]; rfl
 case q0 => exact fun _ _ _ h => h
 case y0 => refine .inl ⟨by rfl, ?_⟩; intro w' hSw; (try dsimp only at hSw); go_simp; try with_reducible rfl
 simp only [Act.put, zsa, zsz, zss];refine wpAnyH_take (i := 2) (oi := ?o1) (v := ?v1) ?i1 (by kernel_rfl) (by kernel_rfl) (by kernel_rfl) ?q1 ?y1 hHeld ?_
 case i1 => simp only [zga, zgs, zgz]; rfl
 case q1 => exact fun _ _ _ h => h
 case y1 => refine .inl ⟨by rfl, ?_⟩; intro w' hSw; (try dsimp only at hSw); go_simp; try with_reducible rfl
 simp only [Act.put, zsa, zsz, zss];refine wpAnyH_ready (rs := [1, 3]) (by kernel_rfl) (by simp) ?_;refine (AllReadyH.cons (o := ?o2) ?i2 (fun K hK => ?g2) (AllReadyH.cons (o := ?o3) ?i3 (fun K hK => ?g3) AllReadyH.nil))
 case i2 => simp only [zga, zgs, zgz]; rfl
 case i3 => simp only [zga, zgs, zgz]; rfl
 case g2 =>
  go_simp;refine hK.out _ _ (trivial) (fun hN => ?_);clear hK K hHeld;have hHeld := hN;clear hN
  try simp only [Act.put, zsa, zsz, zss]
  refine zr (r := 3) (o := ?o4) (by kernel_rfl) ?i4 (fun K hK => ?g4)
  case i4 => simp only [zga, zgs, zgz]; rfl
  case g4 =>
   go_simp;have hBel : Below w1.heap.size w1 w1.drew := by (repeat (first | with_reducible exact Below.refl _ _ | with_reducible assumption | with_reducible refine bel_alloc ?_ _ | with_reducible refine bel_set ?_ (by first | exact Nat.le_refl _ | (simp; done) | (simp; omega)) _ | with_reducible refine Below.drew ?_ | with_reducible refine bel_drewN ?_ _))
   refine (HC.out _ (HP.out.below hBel) (.of hBel)).mono ?_;rintro e w6 ⟨y, rfl, ht6, hp6, hg6⟩;have HP6 : Hid (PAt w6 c s2) := hp6;have HG6 : Hid (Chg c.PB w1 w6) := (Chg.of hBel).trans hg6;have HB6 : Hid (w6.heap[B]? = some (.cells (nodeCells d (.slice a n cap) 0) 87 (0, 0))) := (HG6.out.block _ lB gB).trans HBX.out;have HQ6 : Hid (PartsAt w6 lo B (.slice a n cap) ts bs) := HPT.out.chg HG6.out PL;have hs6 := HG6.out.size;have hsd := hBel.size;have HX6 : Hid (TreeIn w6 (fun k => lo ≤ k ∧ k < w6.heap.size ∧ k ≠ B ∧ some k ≠ (Value.slice a n cap).ownBlock) tx y) := ht6.tree.within (fun k k1 k2 => ⟨by omega, k2, by omega, fun he => by have := (own_lt_parts HPT.out he.symm).2; omega⟩);have l6 : B < w6.heap.size := by omega
   have c11 := nc11 HB6.out;clear ht6 hp6 hg6 hBel hsd;dsimp only;go_wp2_with fail
   refine hK.out _ _ (trivial) (fun hN => ?_);clear hK K hHeld;have hHeld := hN;clear hN
   try simp only [Act.put, zsa, zsz, zss]
   refine zr (r := 4) (o := ?o5) (by kernel_rfl) ?i5 (fun K hK => ?g5)
   case i5 => simp only [zga, zgs, zgz]; rfl
   case g5 =>
    go_simp;refine hK.out _ _ (trivial) (fun hN => ?_);clear hK K hHeld;have hHeld := hN;clear hN
    try simp only [Act.put, zsa, zsz, zss]
    refine zr (r := 5) (o := ?o6) (by kernel_rfl) ?i6 (fun K hK => ?g6)
    case i6 => simp only [zga, zgs, zgz]; rfl
    case g6 =>
     refine step_append_lies _ (by rfl) _ _ 61 (by rfl) lo 83 i0' (.pointer none) 1 8 underlying61 hinf hz0 hz1 hz2 rfl (by decide) (.slice a n cap) n (bs.map ptrV) (by rfl) ((hno HQ6.out.own).alloc _) ⟨w6.heap.size, 0, none⟩ 1 1 [ptrV y] (by rfl) (by rfl) (World.news_of_block (World.alloc_heap_new w6 (.cells #[ptrV y] 83))) (by intro u hu; simp at hu; subst hu; rfl) (by decide) (by unfold maxLen; omega) (by omega) (by simp; omega) (w6.heap.size + 1) (by simp) ?_;intro q cap2 w7 hown hgrow hat hlt;have HQ7 : Hid (PartsAt w7 lo B (.slice (some ⟨q, 0, none⟩) (n + 1) cap2) (ts ++ [tx]) (bs ++ [y])) := HQ6.out.push (l := 0) HX6.out l6 ((Below.refl _ _).alloc (Nat.le_refl _) (.cells #[ptrV y] 83)) (by rw [hnl]; exact hown) hgrow (hat.elim (fun h => .inl h.symm) (fun h => .inr (by rw [World.size_alloc, ← h]; rfl)));have HK7 : Hid (∀ k, k < w6.heap.size → some k ≠ (Value.slice a n cap).ownBlock → w7.heap[k]? = w6.heap[k]?) := fun k k1 k2 => (hgrow.block k (by simp; omega) k2).trans (Below.heap_alloc w6 _ k k1);have HB7 : Hid (w7.heap[B]? = some (.cells (nodeCells d (.slice a n cap) 0) 87 (0, 0))) := (HK7.out _ l6 (fun he => HQ6.out.nb he.symm)).trans HB6.out;have HS7 : Hid (w7.os = w6.os ∧ w7.tape = w6.tape ∧ w7.output = w6.output ∧ w6.heap.size ≤ w7.heap.size) := ⟨hgrow.os, hgrow.tape, hgrow.output, by have := hgrow.size; simp at this; omega⟩;clear hown hgrow hat hlt;have c11 := nc11 HB7.out;have f11 : w7.frozen? ⟨B, 11, none⟩ = false := heap_frozen HB7.out;refine hK.out _ _ (trivial) (fun hN => ?_);clear hK K hHeld;have hHeld := hN;clear hN
     try simp only [Act.put, zsa, zsz, zss]
     refine wpAnyH_take (i := 6) (oi := ?o7) (v := ?v7) ?i7 (by kernel_rfl) (by kernel_rfl) (by kernel_rfl) ?q7 ?y7 hHeld ?_
     case i7 => simp only [zga, zgs, zgz]; rfl
     case q7 => exact fun _ _ _ h => h
     case y7 => refine .inl ⟨by rfl, ?_⟩; intro w' hSw; (try dsimp only at hSw); go_simp; try with_reducible rfl
     simp only [Act.put, zsa, zsz, zss];refine zr (r := 7) (o := ?o8) (by kernel_rfl) ?i8 (fun K hK => ?g8)
     case i8 => simp only [zga, zgs, zgz]; rfl
     case g8 =>
      go_simp;refine hK.out _ _ (trivial) (fun hN => ?_);clear hK K hHeld;have hHeld := hN;clear hN
      try simp only [Act.put, zsa, zsz, zss]
      refine wpAnyH_done (by kernel_rfl) ?_ _;clear hHeld c11;have fin := ap_end HP6.out HG6.out HQ6.out HQ7.out HK7.out HB7.out HS7.out PL hg hlB hls gB;exact HK.out _ _ _ _ _ _ _ _ q cap2 y fin.1 fin.2.1 fin.2.2.1 fin.2.2.2
 case g3 =>
  go_simp;have hBel : Below w1.heap.size w1 w1.drew := by (repeat (first | with_reducible exact Below.refl _ _ | with_reducible assumption | with_reducible refine bel_alloc ?_ _ | with_reducible refine bel_set ?_ (by first | exact Nat.le_refl _ | (simp; done) | (simp; omega)) _ | with_reducible refine Below.drew ?_ | with_reducible refine bel_drewN ?_ _))
  refine (HC.out _ (HP.out.below hBel) (.of hBel)).mono ?_;rintro e w6 ⟨y, rfl, ht6, hp6, hg6⟩;have HP6 : Hid (PAt w6 c s2) := hp6;have HG6 : Hid (Chg c.PB w1 w6) := (Chg.of hBel).trans hg6;have HB6 : Hid (w6.heap[B]? = some (.cells (nodeCells d (.slice a n cap) 0) 87 (0, 0))) := (HG6.out.block _ lB gB).trans HBX.out;have HQ6 : Hid (PartsAt w6 lo B (.slice a n cap) ts bs) := HPT.out.chg HG6.out PL;have hs6 := HG6.out.size;have hsd := hBel.size;have HX6 : Hid (TreeIn w6 (fun k => lo ≤ k ∧ k < w6.heap.size ∧ k ≠ B ∧ some k ≠ (Value.slice a n cap).ownBlock) tx y) := ht6.tree.within (fun k k1 k2 => ⟨by omega, k2, by omega, fun he => by have := (own_lt_parts HPT.out he.symm).2; omega⟩);have l6 : B < w6.heap.size := by omega
  have c11 := nc11 HB6.out;clear ht6 hp6 hg6 hBel hsd;dsimp only;go_wp2_with fail
  refine hK.out _ _ (trivial) (fun hN => ?_);clear hK K hHeld;have hHeld := hN;clear hN
  try simp only [Act.put, zsa, zsz, zss]
  refine wpAnyH_ready (rs := [1, 4]) (by kernel_rfl) (by simp) ?_;refine (AllReadyH.cons (o := ?o9) ?i9 (fun K hK => ?g9) (AllReadyH.cons (o := ?o10) ?i10 (fun K hK => ?g10) AllReadyH.nil))
  case i9 => simp only [zga, zgs, zgz]; rfl
  case i10 => simp only [zga, zgs, zgz]; rfl
  case g9 =>
   go_simp;refine hK.out _ _ (trivial) (fun hN => ?_);clear hK K hHeld;have hHeld := hN;clear hN
   try simp only [Act.put, zsa, zsz, zss]
   refine zr (r := 4) (o := ?o11) (by kernel_rfl) ?i11 (fun K hK => ?g11)
   case i11 => simp only [zga, zgs, zgz]; rfl
   case g11 =>
    go_simp;refine hK.out _ _ (trivial) (fun hN => ?_);clear hK K hHeld;have hHeld := hN;clear hN
    try simp only [Act.put, zsa, zsz, zss]
    refine zr (r := 5) (o := ?o12) (by kernel_rfl) ?i12 (fun K hK => ?g12)
    case i12 => simp only [zga, zgs, zgz]; rfl
    case g12 =>
     refine step_append_lies _ (by rfl) _ _ 61 (by rfl) lo 83 i0' (.pointer none) 1 8 underlying61 hinf hz0 hz1 hz2 rfl (by decide) (.slice a n cap) n (bs.map ptrV) (by rfl) ((hno HQ6.out.own).alloc _) ⟨w6.heap.size, 0, none⟩ 1 1 [ptrV y] (by rfl) (by rfl) (World.news_of_block (World.alloc_heap_new w6 (.cells #[ptrV y] 83))) (by intro u hu; simp at hu; subst hu; rfl) (by decide) (by unfold maxLen; omega) (by omega) (by simp; omega) (w6.heap.size + 1) (by simp) ?_;intro q cap2 w7 hown hgrow hat hlt;have HQ7 : Hid (PartsAt w7 lo B (.slice (some ⟨q, 0, none⟩) (n + 1) cap2) (ts ++ [tx]) (bs ++ [y])) := HQ6.out.push (l := 0) HX6.out l6 ((Below.refl _ _).alloc (Nat.le_refl _) (.cells #[ptrV y] 83)) (by rw [hnl]; exact hown) hgrow (hat.elim (fun h => .inl h.symm) (fun h => .inr (by rw [World.size_alloc, ← h]; rfl)));have HK7 : Hid (∀ k, k < w6.heap.size → some k ≠ (Value.slice a n cap).ownBlock → w7.heap[k]? = w6.heap[k]?) := fun k k1 k2 => (hgrow.block k (by simp; omega) k2).trans (Below.heap_alloc w6 _ k k1);have HB7 : Hid (w7.heap[B]? = some (.cells (nodeCells d (.slice a n cap) 0) 87 (0, 0))) := (HK7.out _ l6 (fun he => HQ6.out.nb he.symm)).trans HB6.out;have HS7 : Hid (w7.os = w6.os ∧ w7.tape = w6.tape ∧ w7.output = w6.output ∧ w6.heap.size ≤ w7.heap.size) := ⟨hgrow.os, hgrow.tape, hgrow.output, by have := hgrow.size; simp at this; omega⟩;clear hown hgrow hat hlt;have c11 := nc11 HB7.out;have f11 : w7.frozen? ⟨B, 11, none⟩ = false := heap_frozen HB7.out;refine hK.out _ _ (trivial) (fun hN => ?_);clear hK K hHeld;have hHeld := hN;clear hN
     try simp only [Act.put, zsa, zsz, zss]
     refine wpAnyH_take (i := 6) (oi := ?o13) (v := ?v13) ?i13 (by kernel_rfl) (by kernel_rfl) (by kernel_rfl) ?q13 ?y13 hHeld ?_
     case i13 => simp only [zga, zgs, zgz]; rfl
     case q13 => exact fun _ _ _ h => h
     case y13 => refine .inl ⟨by rfl, ?_⟩; intro w' hSw; (try dsimp only at hSw); go_simp; try with_reducible rfl
     simp only [Act.put, zsa, zsz, zss];refine zr (r := 7) (o := ?o14) (by kernel_rfl) ?i14 (fun K hK => ?g14)
     case i14 => simp only [zga, zgs, zgz]; rfl
     case g14 =>
      go_simp;refine hK.out _ _ (trivial) (fun hN => ?_);clear hK K hHeld;have hHeld := hN;clear hN
      try simp only [Act.put, zsa, zsz, zss]
      refine wpAnyH_done (by kernel_rfl) ?_ _;clear hHeld c11;have fin := ap_end HP6.out HG6.out HQ6.out HQ7.out HK7.out HB7.out HS7.out PL hg hlB hls gB;exact HK.out _ _ _ _ _ _ _ _ q cap2 y fin.1 fin.2.1 fin.2.2.1 fin.2.2.2
  case g10 =>
   go_simp;refine hK.out _ _ (trivial) (fun hN => ?_);clear hK K hHeld;have hHeld := hN;clear hN
   try simp only [Act.put, zsa, zsz, zss]
   refine zr (r := 1) (o := ?o15) (by kernel_rfl) ?i15 (fun K hK => ?g15)
   case i15 => simp only [zga, zgs, zgz]; rfl
   case g15 =>
    go_simp;refine hK.out _ _ (trivial) (fun hN => ?_);clear hK K hHeld;have hHeld := hN;clear hN
    try simp only [Act.put, zsa, zsz, zss]
    refine zr (r := 5) (o := ?o16) (by kernel_rfl) ?i16 (fun K hK => ?g16)
    case i16 => simp only [zga, zgs, zgz]; rfl
    case g16 =>
     refine step_append_lies _ (by rfl) _ _ 61 (by rfl) lo 83 i0' (.pointer none) 1 8 underlying61 hinf hz0 hz1 hz2 rfl (by decide) (.slice a n cap) n (bs.map ptrV) (by rfl) ((hno HQ6.out.own).alloc _) ⟨w6.heap.size, 0, none⟩ 1 1 [ptrV y] (by rfl) (by rfl) (World.news_of_block (World.alloc_heap_new w6 (.cells #[ptrV y] 83))) (by intro u hu; simp at hu; subst hu; rfl) (by decide) (by unfold maxLen; omega) (by omega) (by simp; omega) (w6.heap.size + 1) (by simp) ?_;intro q cap2 w7 hown hgrow hat hlt;have HQ7 : Hid (PartsAt w7 lo B (.slice (some ⟨q, 0, none⟩) (n + 1) cap2) (ts ++ [tx]) (bs ++ [y])) := HQ6.out.push (l := 0) HX6.out l6 ((Below.refl _ _).alloc (Nat.le_refl _) (.cells #[ptrV y] 83)) (by rw [hnl]; exact hown) hgrow (hat.elim (fun h => .inl h.symm) (fun h => .inr (by rw [World.size_alloc, ← h]; rfl)));have HK7 : Hid (∀ k, k < w6.heap.size → some k ≠ (Value.slice a n cap).ownBlock → w7.heap[k]? = w6.heap[k]?) := fun k k1 k2 => (hgrow.block k (by simp; omega) k2).trans (Below.heap_alloc w6 _ k k1);have HB7 : Hid (w7.heap[B]? = some (.cells (nodeCells d (.slice a n cap) 0) 87 (0, 0))) := (HK7.out _ l6 (fun he => HQ6.out.nb he.symm)).trans HB6.out;have HS7 : Hid (w7.os = w6.os ∧ w7.tape = w6.tape ∧ w7.output = w6.output ∧ w6.heap.size ≤ w7.heap.size) := ⟨hgrow.os, hgrow.tape, hgrow.output, by have := hgrow.size; simp at this; omega⟩;clear hown hgrow hat hlt;have c11 := nc11 HB7.out;have f11 : w7.frozen? ⟨B, 11, none⟩ = false := heap_frozen HB7.out;refine hK.out _ _ (trivial) (fun hN => ?_);clear hK K hHeld;have hHeld := hN;clear hN
     try simp only [Act.put, zsa, zsz, zss]
     refine wpAnyH_take (i := 6) (oi := ?o17) (v := ?v17) ?i17 (by kernel_rfl) (by kernel_rfl) (by kernel_rfl) ?q17 ?y17 hHeld ?_
     case i17 => simp only [zga, zgs, zgz]; rfl
     case q17 => exact fun _ _ _ h => h
     case y17 => refine .inl ⟨by rfl, ?_⟩; intro w' hSw; (try dsimp only at hSw); go_simp; try with_reducible rfl
     simp only [Act.put, zsa, zsz, zss];refine zr (r := 7) (o := ?o18) (by kernel_rfl) ?i18 (fun K hK => ?g18)
     case i18 => simp only [zga, zgs, zgz]; rfl
     case g18 =>
      go_simp;refine hK.out _ _ (trivial) (fun hN => ?_);clear hK K hHeld;have hHeld := hN;clear hN
      try simp only [Act.put, zsa, zsz, zss]
      refine wpAnyH_done (by kernel_rfl) ?_ _;clear hHeld c11;have fin := ap_end HP6.out HG6.out HQ6.out HQ7.out HK7.out HB7.out HS7.out PL hg hlB hls gB;exact HK.out _ _ _ _ _ _ _ _ q cap2 y fin.1 fin.2.1 fin.2.2.1 fin.2.2.2
noncomputable def ap_blockSR : Code := ((Tryz.f99.body.bind (regionU 6)).getD .skip)
theorem ap_blockS (B lo n cap : Nat) (a : Option Addr) (d : ND) (ts : List Tr) (bs : List Nat) (tx : Tr) (c : PC) (s s2 : PSt) (w1 : World) (ds : List Deferred) (z1z z2z z4z z5z z6z z7z z8z z9z z10z z11z z12z z13z z14z z15z z16z z17z z18z z19z z20z z21z z22z z23z z24z z25z z26z z27z z28z z29z z30z z31z z32z z33z z34z z35z z36z : Value) (K : Act → World → Prop) (QQ : Exit → Act → World → Prop)
  (HP : Hid (PAt w1 c s)) (HBX : Hid (w1.heap[B]? = some (.cells (nodeCells d (.slice a n cap) 0) 87 (0, 0)))) (HPT : Hid (PartsAt w1 lo B (.slice a n cap) ts bs)) (hnl : ts.length = n)
  (PL : c.PB < lo) (hg : c.g < lo) (hlB : lo ≤ B) (hls : lo ≤ w1.heap.size) (hn : n ≤ 100000)
  (HC : Hid (∀ W, PAt W c s → Chg c.PB w1 W → Calls prog 124 #[pp c] W (retE c (tx, s2) W)))
  (HK : Hid (∀ y25 y26 y27 y28 y29 y30 y31 W q cap2 y, PAt W c s2 → Chg' c.PB lo w1 W → W.heap[B]? = some (.cells (nodeCells d (.slice (some ⟨q, 0, none⟩) (n + 1) cap2) 0) 87 (0, 0)) → PartsAt W lo B (.slice (some ⟨q, 0, none⟩) (n + 1) cap2) (ts ++ [tx]) (bs ++ [y]) → K ⟨#[.pointer (some ⟨c.PB, 0, none⟩), z1z, z2z, .pointer (some ⟨B, 0, none⟩), z4z, z5z, z6z, z7z, z8z, z9z, z10z, z11z, z12z, z13z, z14z, z15z, z16z, z17z, z18z, z19z, z20z, z21z, z22z, z23z, z24z, y25, y26, y27, y28, y29, y30, y31, z32z, z33z, z34z, z35z, z36z], ds⟩ W)) :
  Code.wp prog ap_blockSR (Exit.then K QQ) ⟨#[.pointer (some ⟨c.PB, 0, none⟩), z1z, z2z, .pointer (some ⟨B, 0, none⟩), z4z, z5z, z6z, z7z, z8z, z9z, z10z, z11z, z12z, z13z, z14z, z15z, z16z, z17z, z18z, z19z, z20z, z21z, z22z, z23z, z24z, z25z, z26z, z27z, z28z, z29z, z30z, z31z, z32z, z33z, z34z, z35z, z36z], ds⟩ w1 := by
 obtain ⟨i0', hinf, hz0, hz1, hz2⟩ := info_parts infoP;have lB : B < w1.heap.size := (zge HBX.out).1;have gB : B ≠ c.PB := by omega
 have c11 := nc11 HBX.out;have hno : ∀ {W : World} {v : Value} {xs : List Value}, W.ownsRow lo 83 1 v ts.length xs → W.ownsRow lo 83 1 v n xs := fun h => hnl ▸ h;refine wp_calm ?_
 conv => arg 2; whnf
 refine wp_region_held_drew (S := (fun _ => True)) (by kernel_rfl) (trivial) (fun hHeld => ?_);refine wpAnyH_take (i := 0) (oi := ?o0) (v := ?v0) ?i0 (by kernel_rfl) (by kernel_rfl) (by kernel_rfl) ?q0 ?y0 hHeld ?_
 case i0 => simp only [zga, zgs, zgz]; rfl
 case q0 => exact fun _ _ _ h => h
 case y0 => refine .inl ⟨by rfl, ?_⟩; intro w' hSw; (try dsimp only at hSw); go_simp; try with_reducible rfl
 simp only [Act.put, zsa, zsz, zss];refine wpAnyH_take (i := 2) (oi := ?o1) (v := ?v1) ?i1 (by kernel_rfl) (by kernel_rfl) (by kernel_rfl) ?q1 ?y1 hHeld ?_
 case i1 => simp only [zga, zgs, zgz]; rfl
 case q1 => exact fun _ _ _ h => h
 case y1 => refine .inl ⟨by rfl, ?_⟩; intro w' hSw; (try dsimp only at hSw); go_simp; try with_reducible rfl
 simp only [Act.put, zsa, zsz, zss];refine wpAnyH_ready (rs := [1, 3]) (by kernel_rfl) (by simp) ?_;refine (AllReadyH.cons (o := ?o2) ?i2 (fun K hK => ?g2) (AllReadyH.cons (o := ?o3) ?i3 (fun K hK => ?g3) AllReadyH.nil))
 case i2 => simp only [zga, zgs, zgz]; rfl
 case i3 => simp only [zga, zgs, zgz]; rfl
 case g2 =>
  go_simp;refine hK.out _ _ (trivial) (fun hN => ?_);clear hK K hHeld;have hHeld := hN;clear hN
  try simp only [Act.put, zsa, zsz, zss]
  refine zr (r := 3) (o := ?o4) (by kernel_rfl) ?i4 (fun K hK => ?g4)
  case i4 => simp only [zga, zgs, zgz]; rfl
  case g4 =>
   go_simp;have hBel : Below w1.heap.size w1 w1.drew := by (repeat (first | with_reducible exact Below.refl _ _ | with_reducible assumption | with_reducible refine bel_alloc ?_ _ | with_reducible refine bel_set ?_ (by first | exact Nat.le_refl _ | (simp; done) | (simp; omega)) _ | with_reducible refine Below.drew ?_ | with_reducible refine bel_drewN ?_ _))
   refine (HC.out _ (HP.out.below hBel) (.of hBel)).mono ?_;rintro e w6 ⟨y, rfl, ht6, hp6, hg6⟩;have HP6 : Hid (PAt w6 c s2) := hp6;have HG6 : Hid (Chg c.PB w1 w6) := (Chg.of hBel).trans hg6;have HB6 : Hid (w6.heap[B]? = some (.cells (nodeCells d (.slice a n cap) 0) 87 (0, 0))) := (HG6.out.block _ lB gB).trans HBX.out;have HQ6 : Hid (PartsAt w6 lo B (.slice a n cap) ts bs) := HPT.out.chg HG6.out PL;have hs6 := HG6.out.size;have hsd := hBel.size;have HX6 : Hid (TreeIn w6 (fun k => lo ≤ k ∧ k < w6.heap.size ∧ k ≠ B ∧ some k ≠ (Value.slice a n cap).ownBlock) tx y) := ht6.tree.within (fun k k1 k2 => ⟨by omega, k2, by omega, fun he => by have := (own_lt_parts HPT.out he.symm).2; omega⟩);have l6 : B < w6.heap.size := by omega
   have c11 := nc11 HB6.out;clear ht6 hp6 hg6 hBel hsd;dsimp only;go_wp2_with fail
   refine hK.out _ _ (trivial) (fun hN => ?_);clear hK K hHeld;have hHeld := hN;clear hN
   try simp only [Act.put, zsa, zsz, zss]
   refine zr (r := 4) (o := ?o5) (by kernel_rfl) ?i5 (fun K hK => ?g5)
   case i5 => simp only [zga, zgs, zgz]; rfl
   case g5 =>
    go_simp;refine hK.out _ _ (trivial) (fun hN => ?_);clear hK K hHeld;have hHeld := hN;clear hN
    try simp only [Act.put, zsa, zsz, zss]
    refine zr (r := 5) (o := ?o6) (by kernel_rfl) ?i6 (fun K hK => ?g6)
    case i6 => simp only [zga, zgs, zgz]; rfl
    case g6 =>
     refine step_append_lies _ (by rfl) _ _ 61 (by rfl) lo 83 i0' (.pointer none) 1 8 underlying61 hinf hz0 hz1 hz2 rfl (by decide) (.slice a n cap) n (bs.map ptrV) (by rfl) ((hno HQ6.out.own).alloc _) ⟨w6.heap.size, 0, none⟩ 1 1 [ptrV y] (by rfl) (by rfl) (World.news_of_block (World.alloc_heap_new w6 (.cells #[ptrV y] 83))) (by intro u hu; simp at hu; subst hu; rfl) (by decide) (by unfold maxLen; omega) (by omega) (by simp; omega) (w6.heap.size + 1) (by simp) ?_;intro q cap2 w7 hown hgrow hat hlt;have HQ7 : Hid (PartsAt w7 lo B (.slice (some ⟨q, 0, none⟩) (n + 1) cap2) (ts ++ [tx]) (bs ++ [y])) := HQ6.out.push (l := 0) HX6.out l6 ((Below.refl _ _).alloc (Nat.le_refl _) (.cells #[ptrV y] 83)) (by rw [hnl]; exact hown) hgrow (hat.elim (fun h => .inl h.symm) (fun h => .inr (by rw [World.size_alloc, ← h]; rfl)));have HK7 : Hid (∀ k, k < w6.heap.size → some k ≠ (Value.slice a n cap).ownBlock → w7.heap[k]? = w6.heap[k]?) := fun k k1 k2 => (hgrow.block k (by simp; omega) k2).trans (Below.heap_alloc w6 _ k k1);have HB7 : Hid (w7.heap[B]? = some (.cells (nodeCells d (.slice a n cap) 0) 87 (0, 0))) := (HK7.out _ l6 (fun he => HQ6.out.nb he.symm)).trans HB6.out;have HS7 : Hid (w7.os = w6.os ∧ w7.tape = w6.tape ∧ w7.output = w6.output ∧ w6.heap.size ≤ w7.heap.size) := ⟨hgrow.os, hgrow.tape, hgrow.output, by have := hgrow.size; simp at this; omega⟩;clear hown hgrow hat hlt;have c11 := nc11 HB7.out;have f11 : w7.frozen? ⟨B, 11, none⟩ = false := heap_frozen HB7.out;refine hK.out _ _ (trivial) (fun hN => ?_);clear hK K hHeld;have hHeld := hN;clear hN
     try simp only [Act.put, zsa, zsz, zss]
     refine wpAnyH_take (i := 6) (oi := ?o7) (v := ?v7) ?i7 (by kernel_rfl) (by kernel_rfl) (by kernel_rfl) ?q7 ?y7 hHeld ?_
     case i7 => simp only [zga, zgs, zgz]; rfl
     case q7 => exact fun _ _ _ h => h
     case y7 => refine .inl ⟨by rfl, ?_⟩; intro w' hSw; (try dsimp only at hSw); go_simp; try with_reducible rfl
     simp only [Act.put, zsa, zsz, zss];refine zr (r := 7) (o := ?o8) (by kernel_rfl) ?i8 (fun K hK => ?g8)
     case i8 => simp only [zga, zgs, zgz]; rfl
     case g8 =>
      go_simp;refine hK.out _ _ (trivial) (fun hN => ?_);clear hK K hHeld;have hHeld := hN;clear hN
      try simp only [Act.put, zsa, zsz, zss]
      refine wpAnyH_done (by kernel_rfl) ?_ _;clear hHeld c11;have fin := ap_end HP6.out HG6.out HQ6.out HQ7.out HK7.out HB7.out HS7.out PL hg hlB hls gB;exact HK.out _ _ _ _ _ _ _ _ q cap2 y fin.1 fin.2.1 fin.2.2.1 fin.2.2.2
 case g3 =>
  go_simp;have hBel : Below w1.heap.size w1 w1.drew := by (repeat (first | with_reducible exact Below.refl _ _ | with_reducible assumption | with_reducible refine bel_alloc ?_ _ | with_reducible refine bel_set ?_ (by first | exact Nat.le_refl _ | (simp; done) | (simp; omega)) _ | with_reducible refine Below.drew ?_ | with_reducible refine bel_drewN ?_ _))
  refine (HC.out _ (HP.out.below hBel) (.of hBel)).mono ?_;rintro e w6 ⟨y, rfl, ht6, hp6, hg6⟩;have HP6 : Hid (PAt w6 c s2) := hp6;have HG6 : Hid (Chg c.PB w1 w6) := (Chg.of hBel).trans hg6;have HB6 : Hid (w6.heap[B]? = some (.cells (nodeCells d (.slice a n cap) 0) 87 (0, 0))) := (HG6.out.block _ lB gB).trans HBX.out;have HQ6 : Hid (PartsAt w6 lo B (.slice a n cap) ts bs) := HPT.out.chg HG6.out PL;have hs6 := HG6.out.size;have hsd := hBel.size;have HX6 : Hid (TreeIn w6 (fun k => lo ≤ k ∧ k < w6.heap.size ∧ k ≠ B ∧ some k ≠ (Value.slice a n cap).ownBlock) tx y) := ht6.tree.within (fun k k1 k2 => ⟨by omega, k2, by omega, fun he => by have := (own_lt_parts HPT.out he.symm).2; omega⟩);have l6 : B < w6.heap.size := by omega
  have c11 := nc11 HB6.out;clear ht6 hp6 hg6 hBel hsd;dsimp only;go_wp2_with fail
  refine hK.out _ _ (trivial) (fun hN => ?_);clear hK K hHeld;have hHeld := hN;clear hN
  try simp only [Act.put, zsa, zsz, zss]
  refine wpAnyH_ready (rs := [1, 4]) (by kernel_rfl) (by simp) ?_;refine (AllReadyH.cons (o := ?o9) ?i9 (fun K hK => ?g9) (AllReadyH.cons (o := ?o10) ?i10 (fun K hK => ?g10) AllReadyH.nil))
  case i9 => simp only [zga, zgs, zgz]; rfl
  case i10 => simp only [zga, zgs, zgz]; rfl
  case g9 =>
   go_simp;refine hK.out _ _ (trivial) (fun hN => ?_);clear hK K hHeld;have hHeld := hN;clear hN
   try simp only [Act.put, zsa, zsz, zss]
   refine zr (r := 4) (o := ?o11) (by kernel_rfl) ?i11 (fun K hK => ?g11)
   case i11 => simp only [zga, zgs, zgz]; rfl
   case g11 =>
    go_simp;refine hK.out _ _ (trivial) (fun hN => ?_);clear hK K hHeld;have hHeld := hN;clear hN
    try simp only [Act.put, zsa, zsz, zss]
    refine zr (r := 5) (o := ?o12) (by kernel_rfl) ?i12 (fun K hK => ?g12)
    case i12 => simp only [zga, zgs, zgz]; rfl
    case g12 =>
     refine step_append_lies _ (by rfl) _ _ 61 (by rfl) lo 83 i0' (.pointer none) 1 8 underlying61 hinf hz0 hz1 hz2 rfl (by decide) (.slice a n cap) n (bs.map ptrV) (by rfl) ((hno HQ6.out.own).alloc _) ⟨w6.heap.size, 0, none⟩ 1 1 [ptrV y] (by rfl) (by rfl) (World.news_of_block (World.alloc_heap_new w6 (.cells #[ptrV y] 83))) (by intro u hu; simp at hu; subst hu; rfl) (by decide) (by unfold maxLen; omega) (by omega) (by simp; omega) (w6.heap.size + 1) (by simp) ?_;intro q cap2 w7 hown hgrow hat hlt;have HQ7 : Hid (PartsAt w7 lo B (.slice (some ⟨q, 0, none⟩) (n + 1) cap2) (ts ++ [tx]) (bs ++ [y])) := HQ6.out.push (l := 0) HX6.out l6 ((Below.refl _ _).alloc (Nat.le_refl _) (.cells #[ptrV y] 83)) (by rw [hnl]; exact hown) hgrow (hat.elim (fun h => .inl h.symm) (fun h => .inr (by rw [World.size_alloc, ← h]; rfl)));have HK7 : Hid (∀ k, k < w6.heap.size → some k ≠ (Value.slice a n cap).ownBlock → w7.heap[k]? = w6.heap[k]?) := fun k k1 k2 => (hgrow.block k (by simp; omega) k2).trans (Below.heap_alloc w6 _ k k1);have HB7 : Hid (w7.heap[B]? = some (.cells (nodeCells d (.slice a n cap) 0) 87 (0, 0))) := (HK7.out _ l6 (fun he => HQ6.out.nb he.symm)).trans HB6.out;have HS7 : Hid (w7.os = w6.os ∧ w7.tape = w6.tape ∧ w7.output = w6.output ∧ w6.heap.size ≤ w7.heap.size) := ⟨hgrow.os, hgrow.tape, hgrow.output, by have := hgrow.size; simp at this; omega⟩;clear hown hgrow hat hlt;have c11 := nc11 HB7.out;have f11 : w7.frozen? ⟨B, 11, none⟩ = false := heap_frozen HB7.out;refine hK.out _ _ (trivial) (fun hN => ?_);clear hK K hHeld;have hHeld := hN;clear hN
     try simp only [Act.put, zsa, zsz, zss]
     refine wpAnyH_take (i := 6) (oi := ?o13) (v := ?v13) ?i13 (by kernel_rfl) (by kernel_rfl) (by kernel_rfl) ?q13 ?y13 hHeld ?_
     case i13 => simp only [zga, zgs, zgz]; rfl
     case q13 => exact fun _ _ _ h => h
     case y13 => refine .inl ⟨by rfl, ?_⟩; intro w' hSw; (try dsimp only at hSw); go_simp; try with_reducible rfl
     simp only [Act.put, zsa, zsz, zss];refine zr (r := 7) (o := ?o14) (by kernel_rfl) ?i14 (fun K hK => ?g14)
     case i14 => simp only [zga, zgs, zgz]; rfl
     case g14 =>
      go_simp;refine hK.out _ _ (trivial) (fun hN => ?_);clear hK K hHeld;have hHeld := hN;clear hN
      try simp only [Act.put, zsa, zsz, zss]
      refine wpAnyH_done (by kernel_rfl) ?_ _;clear hHeld c11;have fin := ap_end HP6.out HG6.out HQ6.out HQ7.out HK7.out HB7.out HS7.out PL hg hlB hls gB;exact HK.out _ _ _ _ _ _ _ _ q cap2 y fin.1 fin.2.1 fin.2.2.1 fin.2.2.2
  case g10 =>
   go_simp;refine hK.out _ _ (trivial) (fun hN => ?_);clear hK K hHeld;have hHeld := hN;clear hN
   try simp only [Act.put, zsa, zsz, zss]
   refine zr (r := 1) (o := ?o15) (by kernel_rfl) ?i15 (fun K hK => ?g15)
   case i15 => simp only [zga, zgs, zgz]; rfl
   case g15 =>
    go_simp;refine hK.out _ _ (trivial) (fun hN => ?_);clear hK K hHeld;have hHeld := hN;clear hN
    try simp only [Act.put, zsa, zsz, zss]
    refine zr (r := 5) (o := ?o16) (by kernel_rfl) ?i16 (fun K hK => ?g16)
    case i16 => simp only [zga, zgs, zgz]; rfl
    case g16 =>
     refine step_append_lies _ (by rfl) _ _ 61 (by rfl) lo 83 i0' (.pointer none) 1 8 underlying61 hinf hz0 hz1 hz2 rfl (by decide) (.slice a n cap) n (bs.map ptrV) (by rfl) ((hno HQ6.out.own).alloc _) ⟨w6.heap.size, 0, none⟩ 1 1 [ptrV y] (by rfl) (by rfl) (World.news_of_block (World.alloc_heap_new w6 (.cells #[ptrV y] 83))) (by intro u hu; simp at hu; subst hu; rfl) (by decide) (by unfold maxLen; omega) (by omega) (by simp; omega) (w6.heap.size + 1) (by simp) ?_;intro q cap2 w7 hown hgrow hat hlt;have HQ7 : Hid (PartsAt w7 lo B (.slice (some ⟨q, 0, none⟩) (n + 1) cap2) (ts ++ [tx]) (bs ++ [y])) := HQ6.out.push (l := 0) HX6.out l6 ((Below.refl _ _).alloc (Nat.le_refl _) (.cells #[ptrV y] 83)) (by rw [hnl]; exact hown) hgrow (hat.elim (fun h => .inl h.symm) (fun h => .inr (by rw [World.size_alloc, ← h]; rfl)));have HK7 : Hid (∀ k, k < w6.heap.size → some k ≠ (Value.slice a n cap).ownBlock → w7.heap[k]? = w6.heap[k]?) := fun k k1 k2 => (hgrow.block k (by simp; omega) k2).trans (Below.heap_alloc w6 _ k k1);have HB7 : Hid (w7.heap[B]? = some (.cells (nodeCells d (.slice a n cap) 0) 87 (0, 0))) := (HK7.out _ l6 (fun he => HQ6.out.nb he.symm)).trans HB6.out;have HS7 : Hid (w7.os = w6.os ∧ w7.tape = w6.tape ∧ w7.output = w6.output ∧ w6.heap.size ≤ w7.heap.size) := ⟨hgrow.os, hgrow.tape, hgrow.output, by have := hgrow.size; simp at this; omega⟩;clear hown hgrow hat hlt;have c11 := nc11 HB7.out;have f11 : w7.frozen? ⟨B, 11, none⟩ = false := heap_frozen HB7.out;refine hK.out _ _ (trivial) (fun hN => ?_);clear hK K hHeld;have hHeld := hN;clear hN
     try simp only [Act.put, zsa, zsz, zss]
     refine wpAnyH_take (i := 6) (oi := ?o17) (v := ?v17) ?i17 (by kernel_rfl) (by kernel_rfl) (by kernel_rfl) ?q17 ?y17 hHeld ?_
     case i17 => simp only [zga, zgs, zgz]; rfl
     case q17 => exact fun _ _ _ h => h
     case y17 => refine .inl ⟨by rfl, ?_⟩; intro w' hSw; (try dsimp only at hSw); go_simp; try with_reducible rfl
     simp only [Act.put, zsa, zsz, zss];refine zr (r := 7) (o := ?o18) (by kernel_rfl) ?i18 (fun K hK => ?g18)
     case i18 => simp only [zga, zgs, zgz]; rfl
     case g18 =>
      go_simp;refine hK.out _ _ (trivial) (fun hN => ?_);clear hK K hHeld;have hHeld := hN;clear hN
      try simp only [Act.put, zsa, zsz, zss]
      refine wpAnyH_done (by kernel_rfl) ?_ _;clear hHeld c11;have fin := ap_end HP6.out HG6.out HQ6.out HQ7.out HK7.out HB7.out HS7.out PL hg hlB hls gB;exact HK.out _ _ _ _ _ _ _ _ q cap2 y fin.1 fin.2.1 fin.2.2.1 fin.2.2.2
noncomputable def ap_assignR : Code := ((Tryz.f143.body.bind (regionU 4)).getD .skip)
theorem ap_assign (B lo n cap : Nat) (a : Option Addr) (d : ND) (ts : List Tr) (bs : List Nat) (tx : Tr) (c : PC) (s s2 : PSt) (w1 : World) (ds : List Deferred) (z1z z2z z3z z4z z6z z7z z8z z9z z10z z11z z12z z13z z14z z15z z16z z17z z18z z19z z20z z21z z22z z23z : Value) (K : Act → World → Prop) (QQ : Exit → Act → World → Prop)
  (HP : Hid (PAt w1 c s)) (HBX : Hid (w1.heap[B]? = some (.cells (nodeCells d (.slice a n cap) 0) 87 (0, 0)))) (HPT : Hid (PartsAt w1 lo B (.slice a n cap) ts bs)) (hnl : ts.length = n)
  (PL : c.PB < lo) (hg : c.g < lo) (hlB : lo ≤ B) (hls : lo ≤ w1.heap.size) (hn : n ≤ 100000)
  (HC : Hid (∀ W, PAt W c s → Chg c.PB w1 W → Calls prog 136 #[pp c] W (retE c (tx, s2) W)))
  (HK : Hid (∀ y14 y15 y16 y17 y18 y19 y20 W q cap2 y, PAt W c s2 → Chg' c.PB lo w1 W → W.heap[B]? = some (.cells (nodeCells d (.slice (some ⟨q, 0, none⟩) (n + 1) cap2) 0) 87 (0, 0)) → PartsAt W lo B (.slice (some ⟨q, 0, none⟩) (n + 1) cap2) (ts ++ [tx]) (bs ++ [y]) → K ⟨#[.pointer (some ⟨c.PB, 0, none⟩), z1z, z2z, z3z, z4z, .pointer (some ⟨B, 0, none⟩), z6z, z7z, z8z, z9z, z10z, z11z, z12z, z13z, y14, y15, y16, y17, y18, y19, y20, z21z, z22z, z23z], ds⟩ W)) :
  Code.wp prog ap_assignR (Exit.then K QQ) ⟨#[.pointer (some ⟨c.PB, 0, none⟩), z1z, z2z, z3z, z4z, .pointer (some ⟨B, 0, none⟩), z6z, z7z, z8z, z9z, z10z, z11z, z12z, z13z, z14z, z15z, z16z, z17z, z18z, z19z, z20z, z21z, z22z, z23z], ds⟩ w1 := by
 obtain ⟨i0', hinf, hz0, hz1, hz2⟩ := info_parts infoP;have lB : B < w1.heap.size := (zge HBX.out).1;have gB : B ≠ c.PB := by omega
 have c11 := nc11 HBX.out;have hno : ∀ {W : World} {v : Value} {xs : List Value}, W.ownsRow lo 83 1 v ts.length xs → W.ownsRow lo 83 1 v n xs := fun h => hnl ▸ h;refine wp_calm ?_
 conv => arg 2; whnf
 refine wp_region_held_drew (S := (fun _ => True)) (by kernel_rfl) (trivial) (fun hHeld => ?_);refine wpAnyH_take (i := 0) (oi := ?o0) (v := ?v0) ?i0 (by kernel_rfl) (by kernel_rfl) (by kernel_rfl) ?q0 ?y0 hHeld ?_
 case i0 => simp only [zga, zgs, zgz]; rfl
 case q0 => exact fun _ _ _ h => h
 case y0 => refine .inl ⟨by rfl, ?_⟩; intro w' hSw; (try dsimp only at hSw); go_simp; try with_reducible rfl
 simp only [Act.put, zsa, zsz, zss];refine wpAnyH_take (i := 2) (oi := ?o1) (v := ?v1) ?i1 (by kernel_rfl) (by kernel_rfl) (by kernel_rfl) ?q1 ?y1 hHeld ?_
 case i1 => simp only [zga, zgs, zgz]; rfl
 case q1 => exact fun _ _ _ h => h
 case y1 => refine .inl ⟨by rfl, ?_⟩; intro w' hSw; (try dsimp only at hSw); go_simp; try with_reducible rfl
 simp only [Act.put, zsa, zsz, zss];refine wpAnyH_ready (rs := [1, 3]) (by kernel_rfl) (by simp) ?_;refine (AllReadyH.cons (o := ?o2) ?i2 (fun K hK => ?g2) (AllReadyH.cons (o := ?o3) ?i3 (fun K hK => ?g3) AllReadyH.nil))
 case i2 => simp only [zga, zgs, zgz]; rfl
 case i3 => simp only [zga, zgs, zgz]; rfl
 case g2 =>
  go_simp;refine hK.out _ _ (trivial) (fun hN => ?_);clear hK K hHeld;have hHeld := hN;clear hN
  try simp only [Act.put, zsa, zsz, zss]
  refine zr (r := 3) (o := ?o4) (by kernel_rfl) ?i4 (fun K hK => ?g4)
  case i4 => simp only [zga, zgs, zgz]; rfl
  case g4 =>
   go_simp;have hBel : Below w1.heap.size w1 w1.drew := by (repeat (first | with_reducible exact Below.refl _ _ | with_reducible assumption | with_reducible refine bel_alloc ?_ _ | with_reducible refine bel_set ?_ (by first | exact Nat.le_refl _ | (simp; done) | (simp; omega)) _ | with_reducible refine Below.drew ?_ | with_reducible refine bel_drewN ?_ _))
   refine (HC.out _ (HP.out.below hBel) (.of hBel)).mono ?_;rintro e w6 ⟨y, rfl, ht6, hp6, hg6⟩;have HP6 : Hid (PAt w6 c s2) := hp6;have HG6 : Hid (Chg c.PB w1 w6) := (Chg.of hBel).trans hg6;have HB6 : Hid (w6.heap[B]? = some (.cells (nodeCells d (.slice a n cap) 0) 87 (0, 0))) := (HG6.out.block _ lB gB).trans HBX.out;have HQ6 : Hid (PartsAt w6 lo B (.slice a n cap) ts bs) := HPT.out.chg HG6.out PL;have hs6 := HG6.out.size;have hsd := hBel.size;have HX6 : Hid (TreeIn w6 (fun k => lo ≤ k ∧ k < w6.heap.size ∧ k ≠ B ∧ some k ≠ (Value.slice a n cap).ownBlock) tx y) := ht6.tree.within (fun k k1 k2 => ⟨by omega, k2, by omega, fun he => by have := (own_lt_parts HPT.out he.symm).2; omega⟩);have l6 : B < w6.heap.size := by omega
   have c11 := nc11 HB6.out;clear ht6 hp6 hg6 hBel hsd;dsimp only;go_wp2_with fail
   refine hK.out _ _ (trivial) (fun hN => ?_);clear hK K hHeld;have hHeld := hN;clear hN
   try simp only [Act.put, zsa, zsz, zss]
   refine zr (r := 4) (o := ?o5) (by kernel_rfl) ?i5 (fun K hK => ?g5)
   case i5 => simp only [zga, zgs, zgz]; rfl
   case g5 =>
    go_simp;refine hK.out _ _ (trivial) (fun hN => ?_);clear hK K hHeld;have hHeld := hN;clear hN
    try simp only [Act.put, zsa, zsz, zss]
    refine zr (r := 5) (o := ?o6) (by kernel_rfl) ?i6 (fun K hK => ?g6)
    case i6 => simp only [zga, zgs, zgz]; rfl
    case g6 =>
     refine step_append_lies _ (by rfl) _ _ 61 (by rfl) lo 83 i0' (.pointer none) 1 8 underlying61 hinf hz0 hz1 hz2 rfl (by decide) (.slice a n cap) n (bs.map ptrV) (by rfl) ((hno HQ6.out.own).alloc _) ⟨w6.heap.size, 0, none⟩ 1 1 [ptrV y] (by rfl) (by rfl) (World.news_of_block (World.alloc_heap_new w6 (.cells #[ptrV y] 83))) (by intro u hu; simp at hu; subst hu; rfl) (by decide) (by unfold maxLen; omega) (by omega) (by simp; omega) (w6.heap.size + 1) (by simp) ?_;intro q cap2 w7 hown hgrow hat hlt;have HQ7 : Hid (PartsAt w7 lo B (.slice (some ⟨q, 0, none⟩) (n + 1) cap2) (ts ++ [tx]) (bs ++ [y])) := HQ6.out.push (l := 0) HX6.out l6 ((Below.refl _ _).alloc (Nat.le_refl _) (.cells #[ptrV y] 83)) (by rw [hnl]; exact hown) hgrow (hat.elim (fun h => .inl h.symm) (fun h => .inr (by rw [World.size_alloc, ← h]; rfl)));have HK7 : Hid (∀ k, k < w6.heap.size → some k ≠ (Value.slice a n cap).ownBlock → w7.heap[k]? = w6.heap[k]?) := fun k k1 k2 => (hgrow.block k (by simp; omega) k2).trans (Below.heap_alloc w6 _ k k1);have HB7 : Hid (w7.heap[B]? = some (.cells (nodeCells d (.slice a n cap) 0) 87 (0, 0))) := (HK7.out _ l6 (fun he => HQ6.out.nb he.symm)).trans HB6.out;have HS7 : Hid (w7.os = w6.os ∧ w7.tape = w6.tape ∧ w7.output = w6.output ∧ w6.heap.size ≤ w7.heap.size) := ⟨hgrow.os, hgrow.tape, hgrow.output, by have := hgrow.size; simp at this; omega⟩;clear hown hgrow hat hlt;have c11 := nc11 HB7.out;have f11 : w7.frozen? ⟨B, 11, none⟩ = false := heap_frozen HB7.out;refine hK.out _ _ (trivial) (fun hN => ?_);clear hK K hHeld;have hHeld := hN;clear hN
     try simp only [Act.put, zsa, zsz, zss]
     refine wpAnyH_take (i := 6) (oi := ?o7) (v := ?v7) ?i7 (by kernel_rfl) (by kernel_rfl) (by kernel_rfl) ?q7 ?y7 hHeld ?_
     case i7 => simp only [zga, zgs, zgz]; rfl
     case q7 => exact fun _ _ _ h => h
     case y7 => refine .inl ⟨by rfl, ?_⟩; intro w' hSw; (try dsimp only at hSw); go_simp; try with_reducible rfl
     simp only [Act.put, zsa, zsz, zss];refine zr (r := 7) (o := ?o8) (by kernel_rfl) ?i8 (fun K hK => ?g8)
     case i8 => simp only [zga, zgs, zgz]; rfl
     case g8 =>
      go_simp;refine hK.out _ _ (trivial) (fun hN => ?_);clear hK K hHeld;have hHeld := hN;clear hN
      try simp only [Act.put, zsa, zsz, zss]
      refine wpAnyH_done (by kernel_rfl) ?_ _;clear hHeld c11;have fin := ap_end HP6.out HG6.out HQ6.out HQ7.out HK7.out HB7.out HS7.out PL hg hlB hls gB;exact HK.out _ _ _ _ _ _ _ _ q cap2 y fin.1 fin.2.1 fin.2.2.1 fin.2.2.2
 case g3 =>
  go_simp;have hBel : Below w1.heap.size w1 w1.drew := by (repeat (first | with_reducible exact Below.refl _ _ | with_reducible assumption | with_reducible refine bel_alloc ?_ _ | with_reducible refine bel_set ?_ (by first | exact Nat.le_refl _ | (simp; done) | (simp; omega)) _ | with_reducible refine Below.drew ?_ | with_reducible refine bel_drewN ?_ _))
  refine (HC.out _ (HP.out.below hBel) (.of hBel)).mono ?_;rintro e w6 ⟨y, rfl, ht6, hp6, hg6⟩;have HP6 : Hid (PAt w6 c s2) := hp6;have HG6 : Hid (Chg c.PB w1 w6) := (Chg.of hBel).trans hg6;have HB6 : Hid (w6.heap[B]? = some (.cells (nodeCells d (.slice a n cap) 0) 87 (0, 0))) := (HG6.out.block _ lB gB).trans HBX.out;have HQ6 : Hid (PartsAt w6 lo B (.slice a n cap) ts bs) := HPT.out.chg HG6.out PL;have hs6 := HG6.out.size;have hsd := hBel.size;have HX6 : Hid (TreeIn w6 (fun k => lo ≤ k ∧ k < w6.heap.size ∧ k ≠ B ∧ some k ≠ (Value.slice a n cap).ownBlock) tx y) := ht6.tree.within (fun k k1 k2 => ⟨by omega, k2, by omega, fun he => by have := (own_lt_parts HPT.out he.symm).2; omega⟩);have l6 : B < w6.heap.size := by omega
  have c11 := nc11 HB6.out;clear ht6 hp6 hg6 hBel hsd;dsimp only;go_wp2_with fail
  refine hK.out _ _ (trivial) (fun hN => ?_);clear hK K hHeld;have hHeld := hN;clear hN
  try simp only [Act.put, zsa, zsz, zss]
  refine wpAnyH_ready (rs := [1, 4]) (by kernel_rfl) (by simp) ?_;refine (AllReadyH.cons (o := ?o9) ?i9 (fun K hK => ?g9) (AllReadyH.cons (o := ?o10) ?i10 (fun K hK => ?g10) AllReadyH.nil))
  case i9 => simp only [zga, zgs, zgz]; rfl
  case i10 => simp only [zga, zgs, zgz]; rfl
  case g9 =>
   go_simp;refine hK.out _ _ (trivial) (fun hN => ?_);clear hK K hHeld;have hHeld := hN;clear hN
   try simp only [Act.put, zsa, zsz, zss]
   refine zr (r := 4) (o := ?o11) (by kernel_rfl) ?i11 (fun K hK => ?g11)
   case i11 => simp only [zga, zgs, zgz]; rfl
   case g11 =>
    go_simp;refine hK.out _ _ (trivial) (fun hN => ?_);clear hK K hHeld;have hHeld := hN;clear hN
    try simp only [Act.put, zsa, zsz, zss]
    refine zr (r := 5) (o := ?o12) (by kernel_rfl) ?i12 (fun K hK => ?g12)
    case i12 => simp only [zga, zgs, zgz]; rfl
    case g12 =>
     refine step_append_lies _ (by rfl) _ _ 61 (by rfl) lo 83 i0' (.pointer none) 1 8 underlying61 hinf hz0 hz1 hz2 rfl (by decide) (.slice a n cap) n (bs.map ptrV) (by rfl) ((hno HQ6.out.own).alloc _) ⟨w6.heap.size, 0, none⟩ 1 1 [ptrV y] (by rfl) (by rfl) (World.news_of_block (World.alloc_heap_new w6 (.cells #[ptrV y] 83))) (by intro u hu; simp at hu; subst hu; rfl) (by decide) (by unfold maxLen; omega) (by omega) (by simp; omega) (w6.heap.size + 1) (by simp) ?_;intro q cap2 w7 hown hgrow hat hlt;have HQ7 : Hid (PartsAt w7 lo B (.slice (some ⟨q, 0, none⟩) (n + 1) cap2) (ts ++ [tx]) (bs ++ [y])) := HQ6.out.push (l := 0) HX6.out l6 ((Below.refl _ _).alloc (Nat.le_refl _) (.cells #[ptrV y] 83)) (by rw [hnl]; exact hown) hgrow (hat.elim (fun h => .inl h.symm) (fun h => .inr (by rw [World.size_alloc, ← h]; rfl)));have HK7 : Hid (∀ k, k < w6.heap.size → some k ≠ (Value.slice a n cap).ownBlock → w7.heap[k]? = w6.heap[k]?) := fun k k1 k2 => (hgrow.block k (by simp; omega) k2).trans (Below.heap_alloc w6 _ k k1);have HB7 : Hid (w7.heap[B]? = some (.cells (nodeCells d (.slice a n cap) 0) 87 (0, 0))) := (HK7.out _ l6 (fun he => HQ6.out.nb he.symm)).trans HB6.out;have HS7 : Hid (w7.os = w6.os ∧ w7.tape = w6.tape ∧ w7.output = w6.output ∧ w6.heap.size ≤ w7.heap.size) := ⟨hgrow.os, hgrow.tape, hgrow.output, by have := hgrow.size; simp at this; omega⟩;clear hown hgrow hat hlt;have c11 := nc11 HB7.out;have f11 : w7.frozen? ⟨B, 11, none⟩ = false := heap_frozen HB7.out;refine hK.out _ _ (trivial) (fun hN => ?_);clear hK K hHeld;have hHeld := hN;clear hN
     try simp only [Act.put, zsa, zsz, zss]
     refine wpAnyH_take (i := 6) (oi := ?o13) (v := ?v13) ?i13 (by kernel_rfl) (by kernel_rfl) (by kernel_rfl) ?q13 ?y13 hHeld ?_
     case i13 => simp only [zga, zgs, zgz]; rfl
     case q13 => exact fun _ _ _ h => h
     case y13 => refine .inl ⟨by rfl, ?_⟩; intro w' hSw; (try dsimp only at hSw); go_simp; try with_reducible rfl
     simp only [Act.put, zsa, zsz, zss];refine zr (r := 7) (o := ?o14) (by kernel_rfl) ?i14 (fun K hK => ?g14)
     case i14 => simp only [zga, zgs, zgz]; rfl
     case g14 =>
      go_simp;refine hK.out _ _ (trivial) (fun hN => ?_);clear hK K hHeld;have hHeld := hN;clear hN
      try simp only [Act.put, zsa, zsz, zss]
      refine wpAnyH_done (by kernel_rfl) ?_ _;clear hHeld c11;have fin := ap_end HP6.out HG6.out HQ6.out HQ7.out HK7.out HB7.out HS7.out PL hg hlB hls gB;exact HK.out _ _ _ _ _ _ _ _ q cap2 y fin.1 fin.2.1 fin.2.2.1 fin.2.2.2
  case g10 =>
   go_simp;refine hK.out _ _ (trivial) (fun hN => ?_);clear hK K hHeld;have hHeld := hN;clear hN
   try simp only [Act.put, zsa, zsz, zss]
   refine zr (r := 1) (o := ?o15) (by kernel_rfl) ?i15 (fun K hK => ?g15)
   case i15 => simp only [zga, zgs, zgz]; rfl
   case g15 =>
    go_simp;refine hK.out _ _ (trivial) (fun hN => ?_);clear hK K hHeld;have hHeld := hN;clear hN
    try simp only [Act.put, zsa, zsz, zss]
    refine zr (r := 5) (o := ?o16) (by kernel_rfl) ?i16 (fun K hK => ?g16)
    case i16 => simp only [zga, zgs, zgz]; rfl
    case g16 =>
     refine step_append_lies _ (by rfl) _ _ 61 (by rfl) lo 83 i0' (.pointer none) 1 8 underlying61 hinf hz0 hz1 hz2 rfl (by decide) (.slice a n cap) n (bs.map ptrV) (by rfl) ((hno HQ6.out.own).alloc _) ⟨w6.heap.size, 0, none⟩ 1 1 [ptrV y] (by rfl) (by rfl) (World.news_of_block (World.alloc_heap_new w6 (.cells #[ptrV y] 83))) (by intro u hu; simp at hu; subst hu; rfl) (by decide) (by unfold maxLen; omega) (by omega) (by simp; omega) (w6.heap.size + 1) (by simp) ?_;intro q cap2 w7 hown hgrow hat hlt;have HQ7 : Hid (PartsAt w7 lo B (.slice (some ⟨q, 0, none⟩) (n + 1) cap2) (ts ++ [tx]) (bs ++ [y])) := HQ6.out.push (l := 0) HX6.out l6 ((Below.refl _ _).alloc (Nat.le_refl _) (.cells #[ptrV y] 83)) (by rw [hnl]; exact hown) hgrow (hat.elim (fun h => .inl h.symm) (fun h => .inr (by rw [World.size_alloc, ← h]; rfl)));have HK7 : Hid (∀ k, k < w6.heap.size → some k ≠ (Value.slice a n cap).ownBlock → w7.heap[k]? = w6.heap[k]?) := fun k k1 k2 => (hgrow.block k (by simp; omega) k2).trans (Below.heap_alloc w6 _ k k1);have HB7 : Hid (w7.heap[B]? = some (.cells (nodeCells d (.slice a n cap) 0) 87 (0, 0))) := (HK7.out _ l6 (fun he => HQ6.out.nb he.symm)).trans HB6.out;have HS7 : Hid (w7.os = w6.os ∧ w7.tape = w6.tape ∧ w7.output = w6.output ∧ w6.heap.size ≤ w7.heap.size) := ⟨hgrow.os, hgrow.tape, hgrow.output, by have := hgrow.size; simp at this; omega⟩;clear hown hgrow hat hlt;have c11 := nc11 HB7.out;have f11 : w7.frozen? ⟨B, 11, none⟩ = false := heap_frozen HB7.out;refine hK.out _ _ (trivial) (fun hN => ?_);clear hK K hHeld;have hHeld := hN;clear hN
     try simp only [Act.put, zsa, zsz, zss]
     refine wpAnyH_take (i := 6) (oi := ?o17) (v := ?v17) ?i17 (by kernel_rfl) (by kernel_rfl) (by kernel_rfl) ?q17 ?y17 hHeld ?_
     case i17 => simp only [zga, zgs, zgz]; rfl
     case q17 => exact fun _ _ _ h => h
     case y17 => refine .inl ⟨by rfl, ?_⟩; intro w' hSw; (try dsimp only at hSw); go_simp; try with_reducible rfl
     simp only [Act.put, zsa, zsz, zss];refine zr (r := 7) (o := ?o18) (by kernel_rfl) ?i18 (fun K hK => ?g18)
     case i18 => simp only [zga, zgs, zgz]; rfl
     case g18 =>
      go_simp;refine hK.out _ _ (trivial) (fun hN => ?_);clear hK K hHeld;have hHeld := hN;clear hN
      try simp only [Act.put, zsa, zsz, zss]
      refine wpAnyH_done (by kernel_rfl) ?_ _;clear hHeld c11;have fin := ap_end HP6.out HG6.out HQ6.out HQ7.out HK7.out HB7.out HS7.out PL hg hlB hls gB;exact HK.out _ _ _ _ _ _ _ _ q cap2 y fin.1 fin.2.1 fin.2.2.1 fin.2.2.2
noncomputable def ap_choiceR : Code := ((Tryz.f140.body.bind (regionU 3)).getD .skip)
theorem ap_choice (B lo n cap : Nat) (a : Option Addr) (d : ND) (ts : List Tr) (bs : List Nat) (tx : Tr) (c : PC) (s s2 : PSt) (w1 : World) (ds : List Deferred) (z1z z2z z3z z4z z6z z7z z8z z9z z10z z11z z12z z13z z14z z15z z16z z17z z18z z19z z20z z21z z22z z23z z24z : Value) (K : Act → World → Prop) (QQ : Exit → Act → World → Prop)
  (HP : Hid (PAt w1 c s)) (HBX : Hid (w1.heap[B]? = some (.cells (nodeCells d (.slice a n cap) 0) 87 (0, 0)))) (HPT : Hid (PartsAt w1 lo B (.slice a n cap) ts bs)) (hnl : ts.length = n)
  (PL : c.PB < lo) (hg : c.g < lo) (hlB : lo ≤ B) (hls : lo ≤ w1.heap.size) (hn : n ≤ 100000)
  (HC : Hid (∀ W, PAt W c s → Chg c.PB w1 W → Calls prog 124 #[pp c] W (retE c (tx, s2) W)))
  (HK : Hid (∀ y15 y16 y17 y18 y19 y20 y21 W q cap2 y, PAt W c s2 → Chg' c.PB lo w1 W → W.heap[B]? = some (.cells (nodeCells d (.slice (some ⟨q, 0, none⟩) (n + 1) cap2) 0) 87 (0, 0)) → PartsAt W lo B (.slice (some ⟨q, 0, none⟩) (n + 1) cap2) (ts ++ [tx]) (bs ++ [y]) → K ⟨#[.pointer (some ⟨c.PB, 0, none⟩), z1z, z2z, z3z, z4z, .pointer (some ⟨B, 0, none⟩), z6z, z7z, z8z, z9z, z10z, z11z, z12z, z13z, z14z, y15, y16, y17, y18, y19, y20, y21, z22z, z23z, z24z], ds⟩ W)) :
  Code.wp prog ap_choiceR (Exit.then K QQ) ⟨#[.pointer (some ⟨c.PB, 0, none⟩), z1z, z2z, z3z, z4z, .pointer (some ⟨B, 0, none⟩), z6z, z7z, z8z, z9z, z10z, z11z, z12z, z13z, z14z, z15z, z16z, z17z, z18z, z19z, z20z, z21z, z22z, z23z, z24z], ds⟩ w1 := by
 obtain ⟨i0', hinf, hz0, hz1, hz2⟩ := info_parts infoP;have lB : B < w1.heap.size := (zge HBX.out).1;have gB : B ≠ c.PB := by omega
 have c11 := nc11 HBX.out;have hno : ∀ {W : World} {v : Value} {xs : List Value}, W.ownsRow lo 83 1 v ts.length xs → W.ownsRow lo 83 1 v n xs := fun h => hnl ▸ h;refine wp_calm ?_
 conv => arg 2; whnf
 refine wp_region_held_drew (S := (fun _ => True)) (by kernel_rfl) (trivial) (fun hHeld => ?_);refine wpAnyH_take (i := 0) (oi := ?o0) (v := ?v0) ?i0 (by kernel_rfl) (by kernel_rfl) (by kernel_rfl) ?q0 ?y0 hHeld ?_
 case i0 => simp only [zga, zgs, zgz]; rfl
 case q0 => exact fun _ _ _ h => h
 case y0 => refine .inl ⟨by rfl, ?_⟩; intro w' hSw; (try dsimp only at hSw); go_simp; try with_reducible rfl
 simp only [Act.put, zsa, zsz, zss];refine wpAnyH_take (i := 2) (oi := ?o1) (v := ?v1) ?i1 (by kernel_rfl) (by kernel_rfl) (by kernel_rfl) ?q1 ?y1 hHeld ?_
 case i1 => simp only [zga, zgs, zgz]; rfl
 case q1 => exact fun _ _ _ h => h
 case y1 => refine .inl ⟨by rfl, ?_⟩; intro w' hSw; (try dsimp only at hSw); go_simp; try with_reducible rfl
 simp only [Act.put, zsa, zsz, zss];refine wpAnyH_ready (rs := [1, 3]) (by kernel_rfl) (by simp) ?_;refine (AllReadyH.cons (o := ?o2) ?i2 (fun K hK => ?g2) (AllReadyH.cons (o := ?o3) ?i3 (fun K hK => ?g3) AllReadyH.nil))
 case i2 => simp only [zga, zgs, zgz]; rfl
 case i3 => simp only [zga, zgs, zgz]; rfl
 case g2 =>
  go_simp;refine hK.out _ _ (trivial) (fun hN => ?_);clear hK K hHeld;have hHeld := hN;clear hN
  try simp only [Act.put, zsa, zsz, zss]
  refine zr (r := 3) (o := ?o4) (by kernel_rfl) ?i4 (fun K hK => ?g4)
  case i4 => simp only [zga, zgs, zgz]; rfl
  case g4 =>
   go_simp;have hBel : Below w1.heap.size w1 w1.drew := by (repeat (first | with_reducible exact Below.refl _ _ | with_reducible assumption | with_reducible refine bel_alloc ?_ _ | with_reducible refine bel_set ?_ (by first | exact Nat.le_refl _ | (simp; done) | (simp; omega)) _ | with_reducible refine Below.drew ?_ | with_reducible refine bel_drewN ?_ _))
   refine (HC.out _ (HP.out.below hBel) (.of hBel)).mono ?_;rintro e w6 ⟨y, rfl, ht6, hp6, hg6⟩;have HP6 : Hid (PAt w6 c s2) := hp6;have HG6 : Hid (Chg c.PB w1 w6) := (Chg.of hBel).trans hg6;have HB6 : Hid (w6.heap[B]? = some (.cells (nodeCells d (.slice a n cap) 0) 87 (0, 0))) := (HG6.out.block _ lB gB).trans HBX.out;have HQ6 : Hid (PartsAt w6 lo B (.slice a n cap) ts bs) := HPT.out.chg HG6.out PL;have hs6 := HG6.out.size;have hsd := hBel.size;have HX6 : Hid (TreeIn w6 (fun k => lo ≤ k ∧ k < w6.heap.size ∧ k ≠ B ∧ some k ≠ (Value.slice a n cap).ownBlock) tx y) := ht6.tree.within (fun k k1 k2 => ⟨by omega, k2, by omega, fun he => by have := (own_lt_parts HPT.out he.symm).2; omega⟩);have l6 : B < w6.heap.size := by omega
   have c11 := nc11 HB6.out;clear ht6 hp6 hg6 hBel hsd;dsimp only;go_wp2_with fail
   refine hK.out _ _ (trivial) (fun hN => ?_);clear hK K hHeld;have hHeld := hN;clear hN
   try simp only [Act.put, zsa, zsz, zss]
   refine zr (r := 4) (o := ?o5) (by kernel_rfl) ?i5 (fun K hK => ?g5)
   case i5 => simp only [zga, zgs, zgz]; rfl
   case g5 =>
    go_simp;refine hK.out _ _ (trivial) (fun hN => ?_);clear hK K hHeld;have hHeld := hN;clear hN
    try simp only [Act.put, zsa, zsz, zss]
    refine zr (r := 5) (o := ?o6) (by kernel_rfl) ?i6 (fun K hK => ?g6)
    case i6 => simp only [zga, zgs, zgz]; rfl
    case g6 =>
     refine step_append_lies _ (by rfl) _ _ 61 (by rfl) lo 83 i0' (.pointer none) 1 8 underlying61 hinf hz0 hz1 hz2 rfl (by decide) (.slice a n cap) n (bs.map ptrV) (by rfl) ((hno HQ6.out.own).alloc _) ⟨w6.heap.size, 0, none⟩ 1 1 [ptrV y] (by rfl) (by rfl) (World.news_of_block (World.alloc_heap_new w6 (.cells #[ptrV y] 83))) (by intro u hu; simp at hu; subst hu; rfl) (by decide) (by unfold maxLen; omega) (by omega) (by simp; omega) (w6.heap.size + 1) (by simp) ?_;intro q cap2 w7 hown hgrow hat hlt;have HQ7 : Hid (PartsAt w7 lo B (.slice (some ⟨q, 0, none⟩) (n + 1) cap2) (ts ++ [tx]) (bs ++ [y])) := HQ6.out.push (l := 0) HX6.out l6 ((Below.refl _ _).alloc (Nat.le_refl _) (.cells #[ptrV y] 83)) (by rw [hnl]; exact hown) hgrow (hat.elim (fun h => .inl h.symm) (fun h => .inr (by rw [World.size_alloc, ← h]; rfl)));have HK7 : Hid (∀ k, k < w6.heap.size → some k ≠ (Value.slice a n cap).ownBlock → w7.heap[k]? = w6.heap[k]?) := fun k k1 k2 => (hgrow.block k (by simp; omega) k2).trans (Below.heap_alloc w6 _ k k1);have HB7 : Hid (w7.heap[B]? = some (.cells (nodeCells d (.slice a n cap) 0) 87 (0, 0))) := (HK7.out _ l6 (fun he => HQ6.out.nb he.symm)).trans HB6.out;have HS7 : Hid (w7.os = w6.os ∧ w7.tape = w6.tape ∧ w7.output = w6.output ∧ w6.heap.size ≤ w7.heap.size) := ⟨hgrow.os, hgrow.tape, hgrow.output, by have := hgrow.size; simp at this; omega⟩;clear hown hgrow hat hlt;have c11 := nc11 HB7.out;have f11 : w7.frozen? ⟨B, 11, none⟩ = false := heap_frozen HB7.out;refine hK.out _ _ (trivial) (fun hN => ?_);clear hK K hHeld;have hHeld := hN;clear hN
     try simp only [Act.put, zsa, zsz, zss]
     refine wpAnyH_take (i := 6) (oi := ?o7) (v := ?v7) ?i7 (by kernel_rfl) (by kernel_rfl) (by kernel_rfl) ?q7 ?y7 hHeld ?_
     case i7 => simp only [zga, zgs, zgz]; rfl
     case q7 => exact fun _ _ _ h => h
     case y7 => refine .inl ⟨by rfl, ?_⟩; intro w' hSw; (try dsimp only at hSw); go_simp; try with_reducible rfl
     simp only [Act.put, zsa, zsz, zss];refine zr (r := 7) (o := ?o8) (by kernel_rfl) ?i8 (fun K hK => ?g8)
     case i8 => simp only [zga, zgs, zgz]; rfl
     case g8 =>
      go_simp;refine hK.out _ _ (trivial) (fun hN => ?_);clear hK K hHeld;have hHeld := hN;clear hN
      try simp only [Act.put, zsa, zsz, zss]
      refine wpAnyH_done (by kernel_rfl) ?_ _;clear hHeld c11;have fin := ap_end HP6.out HG6.out HQ6.out HQ7.out HK7.out HB7.out HS7.out PL hg hlB hls gB;exact HK.out _ _ _ _ _ _ _ _ q cap2 y fin.1 fin.2.1 fin.2.2.1 fin.2.2.2
 case g3 =>
  go_simp;have hBel : Below w1.heap.size w1 w1.drew := by (repeat (first | with_reducible exact Below.refl _ _ | with_reducible assumption | with_reducible refine bel_alloc ?_ _ | with_reducible refine bel_set ?_ (by first | exact Nat.le_refl _ | (simp; done) | (simp; omega)) _ | with_reducible refine Below.drew ?_ | with_reducible refine bel_drewN ?_ _))
  refine (HC.out _ (HP.out.below hBel) (.of hBel)).mono ?_;rintro e w6 ⟨y, rfl, ht6, hp6, hg6⟩;have HP6 : Hid (PAt w6 c s2) := hp6;have HG6 : Hid (Chg c.PB w1 w6) := (Chg.of hBel).trans hg6;have HB6 : Hid (w6.heap[B]? = some (.cells (nodeCells d (.slice a n cap) 0) 87 (0, 0))) := (HG6.out.block _ lB gB).trans HBX.out;have HQ6 : Hid (PartsAt w6 lo B (.slice a n cap) ts bs) := HPT.out.chg HG6.out PL;have hs6 := HG6.out.size;have hsd := hBel.size;have HX6 : Hid (TreeIn w6 (fun k => lo ≤ k ∧ k < w6.heap.size ∧ k ≠ B ∧ some k ≠ (Value.slice a n cap).ownBlock) tx y) := ht6.tree.within (fun k k1 k2 => ⟨by omega, k2, by omega, fun he => by have := (own_lt_parts HPT.out he.symm).2; omega⟩);have l6 : B < w6.heap.size := by omega
  have c11 := nc11 HB6.out;clear ht6 hp6 hg6 hBel hsd;dsimp only;go_wp2_with fail
  refine hK.out _ _ (trivial) (fun hN => ?_);clear hK K hHeld;have hHeld := hN;clear hN
  try simp only [Act.put, zsa, zsz, zss]
  refine wpAnyH_ready (rs := [1, 4]) (by kernel_rfl) (by simp) ?_;refine (AllReadyH.cons (o := ?o9) ?i9 (fun K hK => ?g9) (AllReadyH.cons (o := ?o10) ?i10 (fun K hK => ?g10) AllReadyH.nil))
  case i9 => simp only [zga, zgs, zgz]; rfl
  case i10 => simp only [zga, zgs, zgz]; rfl
  case g9 =>
   go_simp;refine hK.out _ _ (trivial) (fun hN => ?_);clear hK K hHeld;have hHeld := hN;clear hN
   try simp only [Act.put, zsa, zsz, zss]
   refine zr (r := 4) (o := ?o11) (by kernel_rfl) ?i11 (fun K hK => ?g11)
   case i11 => simp only [zga, zgs, zgz]; rfl
   case g11 =>
    go_simp;refine hK.out _ _ (trivial) (fun hN => ?_);clear hK K hHeld;have hHeld := hN;clear hN
    try simp only [Act.put, zsa, zsz, zss]
    refine zr (r := 5) (o := ?o12) (by kernel_rfl) ?i12 (fun K hK => ?g12)
    case i12 => simp only [zga, zgs, zgz]; rfl
    case g12 =>
     refine step_append_lies _ (by rfl) _ _ 61 (by rfl) lo 83 i0' (.pointer none) 1 8 underlying61 hinf hz0 hz1 hz2 rfl (by decide) (.slice a n cap) n (bs.map ptrV) (by rfl) ((hno HQ6.out.own).alloc _) ⟨w6.heap.size, 0, none⟩ 1 1 [ptrV y] (by rfl) (by rfl) (World.news_of_block (World.alloc_heap_new w6 (.cells #[ptrV y] 83))) (by intro u hu; simp at hu; subst hu; rfl) (by decide) (by unfold maxLen; omega) (by omega) (by simp; omega) (w6.heap.size + 1) (by simp) ?_;intro q cap2 w7 hown hgrow hat hlt;have HQ7 : Hid (PartsAt w7 lo B (.slice (some ⟨q, 0, none⟩) (n + 1) cap2) (ts ++ [tx]) (bs ++ [y])) := HQ6.out.push (l := 0) HX6.out l6 ((Below.refl _ _).alloc (Nat.le_refl _) (.cells #[ptrV y] 83)) (by rw [hnl]; exact hown) hgrow (hat.elim (fun h => .inl h.symm) (fun h => .inr (by rw [World.size_alloc, ← h]; rfl)));have HK7 : Hid (∀ k, k < w6.heap.size → some k ≠ (Value.slice a n cap).ownBlock → w7.heap[k]? = w6.heap[k]?) := fun k k1 k2 => (hgrow.block k (by simp; omega) k2).trans (Below.heap_alloc w6 _ k k1);have HB7 : Hid (w7.heap[B]? = some (.cells (nodeCells d (.slice a n cap) 0) 87 (0, 0))) := (HK7.out _ l6 (fun he => HQ6.out.nb he.symm)).trans HB6.out;have HS7 : Hid (w7.os = w6.os ∧ w7.tape = w6.tape ∧ w7.output = w6.output ∧ w6.heap.size ≤ w7.heap.size) := ⟨hgrow.os, hgrow.tape, hgrow.output, by have := hgrow.size; simp at this; omega⟩;clear hown hgrow hat hlt;have c11 := nc11 HB7.out;have f11 : w7.frozen? ⟨B, 11, none⟩ = false := heap_frozen HB7.out;refine hK.out _ _ (trivial) (fun hN => ?_);clear hK K hHeld;have hHeld := hN;clear hN
     try simp only [Act.put, zsa, zsz, zss]
     refine wpAnyH_take (i := 6) (oi := ?o13) (v := ?v13) ?i13 (by kernel_rfl) (by kernel_rfl) (by kernel_rfl) ?q13 ?y13 hHeld ?_
     case i13 => simp only [zga, zgs, zgz]; rfl
     case q13 => exact fun _ _ _ h => h
     case y13 => refine .inl ⟨by rfl, ?_⟩; intro w' hSw; (try dsimp only at hSw); go_simp; try with_reducible rfl
     simp only [Act.put, zsa, zsz, zss];refine zr (r := 7) (o := ?o14) (by kernel_rfl) ?i14 (fun K hK => ?g14)
     case i14 => simp only [zga, zgs, zgz]; rfl
     case g14 =>
      go_simp;refine hK.out _ _ (trivial) (fun hN => ?_);clear hK K hHeld;have hHeld := hN;clear hN
      try simp only [Act.put, zsa, zsz, zss]
      refine wpAnyH_done (by kernel_rfl) ?_ _;clear hHeld c11;have fin := ap_end HP6.out HG6.out HQ6.out HQ7.out HK7.out HB7.out HS7.out PL hg hlB hls gB;exact HK.out _ _ _ _ _ _ _ _ q cap2 y fin.1 fin.2.1 fin.2.2.1 fin.2.2.2
  case g10 =>
   go_simp;refine hK.out _ _ (trivial) (fun hN => ?_);clear hK K hHeld;have hHeld := hN;clear hN
   try simp only [Act.put, zsa, zsz, zss]
   refine zr (r := 1) (o := ?o15) (by kernel_rfl) ?i15 (fun K hK => ?g15)
   case i15 => simp only [zga, zgs, zgz]; rfl
   case g15 =>
    go_simp;refine hK.out _ _ (trivial) (fun hN => ?_);clear hK K hHeld;have hHeld := hN;clear hN
    try simp only [Act.put, zsa, zsz, zss]
    refine zr (r := 5) (o := ?o16) (by kernel_rfl) ?i16 (fun K hK => ?g16)
    case i16 => simp only [zga, zgs, zgz]; rfl
    case g16 =>
     refine step_append_lies _ (by rfl) _ _ 61 (by rfl) lo 83 i0' (.pointer none) 1 8 underlying61 hinf hz0 hz1 hz2 rfl (by decide) (.slice a n cap) n (bs.map ptrV) (by rfl) ((hno HQ6.out.own).alloc _) ⟨w6.heap.size, 0, none⟩ 1 1 [ptrV y] (by rfl) (by rfl) (World.news_of_block (World.alloc_heap_new w6 (.cells #[ptrV y] 83))) (by intro u hu; simp at hu; subst hu; rfl) (by decide) (by unfold maxLen; omega) (by omega) (by simp; omega) (w6.heap.size + 1) (by simp) ?_;intro q cap2 w7 hown hgrow hat hlt;have HQ7 : Hid (PartsAt w7 lo B (.slice (some ⟨q, 0, none⟩) (n + 1) cap2) (ts ++ [tx]) (bs ++ [y])) := HQ6.out.push (l := 0) HX6.out l6 ((Below.refl _ _).alloc (Nat.le_refl _) (.cells #[ptrV y] 83)) (by rw [hnl]; exact hown) hgrow (hat.elim (fun h => .inl h.symm) (fun h => .inr (by rw [World.size_alloc, ← h]; rfl)));have HK7 : Hid (∀ k, k < w6.heap.size → some k ≠ (Value.slice a n cap).ownBlock → w7.heap[k]? = w6.heap[k]?) := fun k k1 k2 => (hgrow.block k (by simp; omega) k2).trans (Below.heap_alloc w6 _ k k1);have HB7 : Hid (w7.heap[B]? = some (.cells (nodeCells d (.slice a n cap) 0) 87 (0, 0))) := (HK7.out _ l6 (fun he => HQ6.out.nb he.symm)).trans HB6.out;have HS7 : Hid (w7.os = w6.os ∧ w7.tape = w6.tape ∧ w7.output = w6.output ∧ w6.heap.size ≤ w7.heap.size) := ⟨hgrow.os, hgrow.tape, hgrow.output, by have := hgrow.size; simp at this; omega⟩;clear hown hgrow hat hlt;have c11 := nc11 HB7.out;have f11 : w7.frozen? ⟨B, 11, none⟩ = false := heap_frozen HB7.out;refine hK.out _ _ (trivial) (fun hN => ?_);clear hK K hHeld;have hHeld := hN;clear hN
     try simp only [Act.put, zsa, zsz, zss]
     refine wpAnyH_take (i := 6) (oi := ?o17) (v := ?v17) ?i17 (by kernel_rfl) (by kernel_rfl) (by kernel_rfl) ?q17 ?y17 hHeld ?_
     case i17 => simp only [zga, zgs, zgz]; rfl
     case q17 => exact fun _ _ _ h => h
     case y17 => refine .inl ⟨by rfl, ?_⟩; intro w' hSw; (try dsimp only at hSw); go_simp; try with_reducible rfl
     simp only [Act.put, zsa, zsz, zss];refine zr (r := 7) (o := ?o18) (by kernel_rfl) ?i18 (fun K hK => ?g18)
     case i18 => simp only [zga, zgs, zgz]; rfl
     case g18 =>
      go_simp;refine hK.out _ _ (trivial) (fun hN => ?_);clear hK K hHeld;have hHeld := hN;clear hN
      try simp only [Act.put, zsa, zsz, zss]
      refine wpAnyH_done (by kernel_rfl) ?_ _;clear hHeld c11;have fin := ap_end HP6.out HG6.out HQ6.out HQ7.out HK7.out HB7.out HS7.out PL hg hlB hls gB;exact HK.out _ _ _ _ _ _ _ _ q cap2 y fin.1 fin.2.1 fin.2.2.1 fin.2.2.2
noncomputable def ap_functionR : Code := ((Tryz.f66.body.bind (regionU 5)).getD .skip)
theorem ap_function (B lo n cap : Nat) (a : Option Addr) (d : ND) (ts : List Tr) (bs : List Nat) (tx : Tr) (c : PC) (s s2 : PSt) (w1 : World) (ds : List Deferred) (z2z z3z z4z z5z z6z z7z z8z z9z z10z z11z z12z z13z z14z z15z z16z z17z z18z z19z z20z z21z z22z z23z z24z z25z z26z z27z z28z z29z z30z z31z z32z z33z z34z z35z z36z z37z z38z z39z z40z z41z : Value) (K : Act → World → Prop) (QQ : Exit → Act → World → Prop)
  (HP : Hid (PAt w1 c s)) (HBX : Hid (w1.heap[B]? = some (.cells (nodeCells d (.slice a n cap) 0) 87 (0, 0)))) (HPT : Hid (PartsAt w1 lo B (.slice a n cap) ts bs)) (hnl : ts.length = n)
  (PL : c.PB < lo) (hg : c.g < lo) (hlB : lo ≤ B) (hls : lo ≤ w1.heap.size) (hn : n ≤ 100000)
  (HC : Hid (∀ W, PAt W c s → Chg c.PB w1 W → Calls prog 99 #[pp c] W (retE c (tx, s2) W)))
  (HK : Hid (∀ y30 y31 y32 y33 y34 y35 y36 y37 y38 y39 y40 W q cap2 y, PAt W c s2 → Chg' c.PB lo w1 W → W.heap[B]? = some (.cells (nodeCells d (.slice (some ⟨q, 0, none⟩) (n + 1) cap2) 0) 87 (0, 0)) → PartsAt W lo B (.slice (some ⟨q, 0, none⟩) (n + 1) cap2) (ts ++ [tx]) (bs ++ [y]) → K ⟨#[.pointer (some ⟨c.PB, 0, none⟩), .pointer (some ⟨B, 0, none⟩), z2z, z3z, z4z, z5z, z6z, z7z, z8z, z9z, z10z, z11z, z12z, z13z, z14z, z15z, z16z, z17z, z18z, z19z, z20z, z21z, z22z, z23z, z24z, z25z, z26z, z27z, z28z, z29z, y30, y31, y32, y33, y34, y35, y36, y37, y38, y39, y40, z41z], ds⟩ W)) :
  Code.wp prog ap_functionR (Exit.then K QQ) ⟨#[.pointer (some ⟨c.PB, 0, none⟩), .pointer (some ⟨B, 0, none⟩), z2z, z3z, z4z, z5z, z6z, z7z, z8z, z9z, z10z, z11z, z12z, z13z, z14z, z15z, z16z, z17z, z18z, z19z, z20z, z21z, z22z, z23z, z24z, z25z, z26z, z27z, z28z, z29z, z30z, z31z, z32z, z33z, z34z, z35z, z36z, z37z, z38z, z39z, z40z, z41z], ds⟩ w1 := by
 obtain ⟨i0', hinf, hz0, hz1, hz2⟩ := info_parts infoP;have lB : B < w1.heap.size := (zge HBX.out).1;have gB : B ≠ c.PB := by omega
 have c11 := nc11 HBX.out;have hno : ∀ {W : World} {v : Value} {xs : List Value}, W.ownsRow lo 83 1 v ts.length xs → W.ownsRow lo 83 1 v n xs := fun h => hnl ▸ h;refine wp_calm ?_
 conv => arg 2; whnf
 refine wp_region_held_drew (S := (fun _ => True)) (by kernel_rfl) (trivial) (fun hHeld => ?_);refine wpAnyH_take (i := 0) (oi := ?o0) (v := ?v0) ?i0 (by kernel_rfl) (by kernel_rfl) (by kernel_rfl) ?q0 ?y0 hHeld ?_
 case i0 => simp only [zga, zgs, zgz]; rfl
 case q0 => exact fun _ _ _ h => h
 case y0 => refine .inl ⟨by rfl, ?_⟩; intro w' hSw; (try dsimp only at hSw); go_simp; try with_reducible rfl
 simp only [Act.put, zsa, zsz, zss];refine wpAnyH_take (i := 1) (oi := ?o1) (v := ?v1) ?i1 (by kernel_rfl) (by kernel_rfl) (by kernel_rfl) ?q1 ?y1 hHeld ?_
 case i1 => simp only [zga, zgs, zgz]; rfl
 case q1 => exact fun _ _ _ h => h
 case y1 => refine .inl ⟨by rfl, ?_⟩; intro w' hSw; (try dsimp only at hSw); go_simp; try with_reducible rfl
 simp only [Act.put, zsa, zsz, zss];refine wpAnyH_take (i := 2) (oi := ?o2) (v := ?v2) ?i2 (by kernel_rfl) (by kernel_rfl) (by kernel_rfl) ?q2 ?y2 hHeld ?_
 case i2 => simp only [zga, zgs, zgz]; rfl
 case q2 => exact fun _ _ _ h => h
 case y2 => refine .inl ⟨by rfl, ?_⟩; intro w' hSw; (try dsimp only at hSw); go_simp; try with_reducible rfl
 simp only [Act.put, zsa, zsz, zss];refine wpAnyH_take (i := 3) (oi := ?o3) (v := ?v3) ?i3 (by kernel_rfl) (by kernel_rfl) (by kernel_rfl) ?q3 ?y3 hHeld ?_
 case i3 => simp only [zga, zgs, zgz]; rfl
 case q3 => exact fun _ _ _ h => h
 case y3 => refine .inl ⟨by rfl, ?_⟩; intro w' hSw; (try dsimp only at hSw); go_simp; try with_reducible rfl
 simp only [Act.put, zsa, zsz, zss];refine wpAnyH_take (i := 5) (oi := ?o4) (v := ?v4) ?i4 (by kernel_rfl) (by kernel_rfl) (by kernel_rfl) ?q4 ?y4 hHeld ?_
 case i4 => simp only [zga, zgs, zgz]; rfl
 case q4 => exact fun _ _ _ h => h
 case y4 => refine .inl ⟨by rfl, ?_⟩; intro w' hSw; (try dsimp only at hSw); go_simp; try with_reducible rfl
 simp only [Act.put, zsa, zsz, zss];refine wpAnyH_ready (rs := [4, 6]) (by kernel_rfl) (by simp) ?_;refine (AllReadyH.cons (o := ?o5) ?i5 (fun K hK => ?g5) (AllReadyH.cons (o := ?o6) ?i6 (fun K hK => ?g6) AllReadyH.nil))
 case i5 => simp only [zga, zgs, zgz]; rfl
 case i6 => simp only [zga, zgs, zgz]; rfl
 case g5 =>
  go_simp;refine hK.out _ _ (trivial) (fun hN => ?_);clear hK K hHeld;have hHeld := hN;clear hN
  try simp only [Act.put, zsa, zsz, zss]
  refine zr (r := 6) (o := ?o7) (by kernel_rfl) ?i7 (fun K hK => ?g7)
  case i7 => simp only [zga, zgs, zgz]; rfl
  case g7 =>
   go_simp;have hBel : Below w1.heap.size w1 w1.drew := by (repeat (first | with_reducible exact Below.refl _ _ | with_reducible assumption | with_reducible refine bel_alloc ?_ _ | with_reducible refine bel_set ?_ (by first | exact Nat.le_refl _ | (simp; done) | (simp; omega)) _ | with_reducible refine Below.drew ?_ | with_reducible refine bel_drewN ?_ _))
   refine (HC.out _ (HP.out.below hBel) (.of hBel)).mono ?_;rintro e w6 ⟨y, rfl, ht6, hp6, hg6⟩;have HP6 : Hid (PAt w6 c s2) := hp6;have HG6 : Hid (Chg c.PB w1 w6) := (Chg.of hBel).trans hg6;have HB6 : Hid (w6.heap[B]? = some (.cells (nodeCells d (.slice a n cap) 0) 87 (0, 0))) := (HG6.out.block _ lB gB).trans HBX.out;have HQ6 : Hid (PartsAt w6 lo B (.slice a n cap) ts bs) := HPT.out.chg HG6.out PL;have hs6 := HG6.out.size;have hsd := hBel.size;have HX6 : Hid (TreeIn w6 (fun k => lo ≤ k ∧ k < w6.heap.size ∧ k ≠ B ∧ some k ≠ (Value.slice a n cap).ownBlock) tx y) := ht6.tree.within (fun k k1 k2 => ⟨by omega, k2, by omega, fun he => by have := (own_lt_parts HPT.out he.symm).2; omega⟩);have l6 : B < w6.heap.size := by omega
   have c11 := nc11 HB6.out;clear ht6 hp6 hg6 hBel hsd;dsimp only;go_wp2_with fail
   refine hK.out _ _ (trivial) (fun hN => ?_);clear hK K hHeld;have hHeld := hN;clear hN
   try simp only [Act.put, zsa, zsz, zss]
   refine zr (r := 7) (o := ?o8) (by kernel_rfl) ?i8 (fun K hK => ?g8)
   case i8 => simp only [zga, zgs, zgz]; rfl
   case g8 =>
    go_simp;refine hK.out _ _ (trivial) (fun hN => ?_);clear hK K hHeld;have hHeld := hN;clear hN
    try simp only [Act.put, zsa, zsz, zss]
    refine zr (r := 8) (o := ?o9) (by kernel_rfl) ?i9 (fun K hK => ?g9)
    case i9 => simp only [zga, zgs, zgz]; rfl
    case g9 =>
     refine step_append_lies _ (by rfl) _ _ 61 (by rfl) lo 83 i0' (.pointer none) 1 8 underlying61 hinf hz0 hz1 hz2 rfl (by decide) (.slice a n cap) n (bs.map ptrV) (by rfl) ((hno HQ6.out.own).alloc _) ⟨w6.heap.size, 0, none⟩ 1 1 [ptrV y] (by rfl) (by rfl) (World.news_of_block (World.alloc_heap_new w6 (.cells #[ptrV y] 83))) (by intro u hu; simp at hu; subst hu; rfl) (by decide) (by unfold maxLen; omega) (by omega) (by simp; omega) (w6.heap.size + 1) (by simp) ?_;intro q cap2 w7 hown hgrow hat hlt;have HQ7 : Hid (PartsAt w7 lo B (.slice (some ⟨q, 0, none⟩) (n + 1) cap2) (ts ++ [tx]) (bs ++ [y])) := HQ6.out.push (l := 0) HX6.out l6 ((Below.refl _ _).alloc (Nat.le_refl _) (.cells #[ptrV y] 83)) (by rw [hnl]; exact hown) hgrow (hat.elim (fun h => .inl h.symm) (fun h => .inr (by rw [World.size_alloc, ← h]; rfl)));have HK7 : Hid (∀ k, k < w6.heap.size → some k ≠ (Value.slice a n cap).ownBlock → w7.heap[k]? = w6.heap[k]?) := fun k k1 k2 => (hgrow.block k (by simp; omega) k2).trans (Below.heap_alloc w6 _ k k1);have HB7 : Hid (w7.heap[B]? = some (.cells (nodeCells d (.slice a n cap) 0) 87 (0, 0))) := (HK7.out _ l6 (fun he => HQ6.out.nb he.symm)).trans HB6.out;have HS7 : Hid (w7.os = w6.os ∧ w7.tape = w6.tape ∧ w7.output = w6.output ∧ w6.heap.size ≤ w7.heap.size) := ⟨hgrow.os, hgrow.tape, hgrow.output, by have := hgrow.size; simp at this; omega⟩;clear hown hgrow hat hlt;have c11 := nc11 HB7.out;have f11 : w7.frozen? ⟨B, 11, none⟩ = false := heap_frozen HB7.out;refine hK.out _ _ (trivial) (fun hN => ?_);clear hK K hHeld;have hHeld := hN;clear hN
     try simp only [Act.put, zsa, zsz, zss]
     refine wpAnyH_take (i := 9) (oi := ?o10) (v := ?v10) ?i10 (by kernel_rfl) (by kernel_rfl) (by kernel_rfl) ?q10 ?y10 hHeld ?_
     case i10 => simp only [zga, zgs, zgz]; rfl
     case q10 => exact fun _ _ _ h => h
     case y10 => refine .inl ⟨by rfl, ?_⟩; intro w' hSw; (try dsimp only at hSw); go_simp; try with_reducible rfl
     simp only [Act.put, zsa, zsz, zss];refine wpAnyH_take (i := 10) (oi := ?o11) (v := ?v11) ?i11 (by kernel_rfl) (by kernel_rfl) (by kernel_rfl) ?q11 ?y11 hHeld ?_
     case i11 => simp only [zga, zgs, zgz]; rfl
     case q11 => exact fun _ _ _ h => h
     case y11 => refine .inl ⟨by rfl, ?_⟩; intro w' hSw; (try dsimp only at hSw); go_simp; try with_reducible rfl
     simp only [Act.put, zsa, zsz, zss];refine zr (r := 11) (o := ?o12) (by kernel_rfl) ?i12 (fun K hK => ?g12)
     case i12 => simp only [zga, zgs, zgz]; rfl
     case g12 =>
      go_simp;refine hK.out _ _ (trivial) (fun hN => ?_);clear hK K hHeld;have hHeld := hN;clear hN
      try simp only [Act.put, zsa, zsz, zss]
      refine wpAnyH_done (by kernel_rfl) ?_ _;clear hHeld c11;have fin := ap_end HP6.out HG6.out HQ6.out HQ7.out HK7.out HB7.out HS7.out PL hg hlB hls gB;exact HK.out _ _ _ _ _ _ _ _ _ _ _ _ q cap2 y fin.1 fin.2.1 fin.2.2.1 fin.2.2.2
 case g6 =>
  go_simp;have hBel : Below w1.heap.size w1 w1.drew := by (repeat (first | with_reducible exact Below.refl _ _ | with_reducible assumption | with_reducible refine bel_alloc ?_ _ | with_reducible refine bel_set ?_ (by first | exact Nat.le_refl _ | (simp; done) | (simp; omega)) _ | with_reducible refine Below.drew ?_ | with_reducible refine bel_drewN ?_ _))
  refine (HC.out _ (HP.out.below hBel) (.of hBel)).mono ?_;rintro e w6 ⟨y, rfl, ht6, hp6, hg6⟩;have HP6 : Hid (PAt w6 c s2) := hp6;have HG6 : Hid (Chg c.PB w1 w6) := (Chg.of hBel).trans hg6;have HB6 : Hid (w6.heap[B]? = some (.cells (nodeCells d (.slice a n cap) 0) 87 (0, 0))) := (HG6.out.block _ lB gB).trans HBX.out;have HQ6 : Hid (PartsAt w6 lo B (.slice a n cap) ts bs) := HPT.out.chg HG6.out PL;have hs6 := HG6.out.size;have hsd := hBel.size;have HX6 : Hid (TreeIn w6 (fun k => lo ≤ k ∧ k < w6.heap.size ∧ k ≠ B ∧ some k ≠ (Value.slice a n cap).ownBlock) tx y) := ht6.tree.within (fun k k1 k2 => ⟨by omega, k2, by omega, fun he => by have := (own_lt_parts HPT.out he.symm).2; omega⟩);have l6 : B < w6.heap.size := by omega
  have c11 := nc11 HB6.out;clear ht6 hp6 hg6 hBel hsd;dsimp only;go_wp2_with fail
  refine hK.out _ _ (trivial) (fun hN => ?_);clear hK K hHeld;have hHeld := hN;clear hN
  try simp only [Act.put, zsa, zsz, zss]
  refine wpAnyH_ready (rs := [4, 7]) (by kernel_rfl) (by simp) ?_;refine (AllReadyH.cons (o := ?o13) ?i13 (fun K hK => ?g13) (AllReadyH.cons (o := ?o14) ?i14 (fun K hK => ?g14) AllReadyH.nil))
  case i13 => simp only [zga, zgs, zgz]; rfl
  case i14 => simp only [zga, zgs, zgz]; rfl
  case g13 =>
   go_simp;refine hK.out _ _ (trivial) (fun hN => ?_);clear hK K hHeld;have hHeld := hN;clear hN
   try simp only [Act.put, zsa, zsz, zss]
   refine zr (r := 7) (o := ?o15) (by kernel_rfl) ?i15 (fun K hK => ?g15)
   case i15 => simp only [zga, zgs, zgz]; rfl
   case g15 =>
    go_simp;refine hK.out _ _ (trivial) (fun hN => ?_);clear hK K hHeld;have hHeld := hN;clear hN
    try simp only [Act.put, zsa, zsz, zss]
    refine zr (r := 8) (o := ?o16) (by kernel_rfl) ?i16 (fun K hK => ?g16)
    case i16 => simp only [zga, zgs, zgz]; rfl
    case g16 =>
     refine step_append_lies _ (by rfl) _ _ 61 (by rfl) lo 83 i0' (.pointer none) 1 8 underlying61 hinf hz0 hz1 hz2 rfl (by decide) (.slice a n cap) n (bs.map ptrV) (by rfl) ((hno HQ6.out.own).alloc _) ⟨w6.heap.size, 0, none⟩ 1 1 [ptrV y] (by rfl) (by rfl) (World.news_of_block (World.alloc_heap_new w6 (.cells #[ptrV y] 83))) (by intro u hu; simp at hu; subst hu; rfl) (by decide) (by unfold maxLen; omega) (by omega) (by simp; omega) (w6.heap.size + 1) (by simp) ?_;intro q cap2 w7 hown hgrow hat hlt;have HQ7 : Hid (PartsAt w7 lo B (.slice (some ⟨q, 0, none⟩) (n + 1) cap2) (ts ++ [tx]) (bs ++ [y])) := HQ6.out.push (l := 0) HX6.out l6 ((Below.refl _ _).alloc (Nat.le_refl _) (.cells #[ptrV y] 83)) (by rw [hnl]; exact hown) hgrow (hat.elim (fun h => .inl h.symm) (fun h => .inr (by rw [World.size_alloc, ← h]; rfl)));have HK7 : Hid (∀ k, k < w6.heap.size → some k ≠ (Value.slice a n cap).ownBlock → w7.heap[k]? = w6.heap[k]?) := fun k k1 k2 => (hgrow.block k (by simp; omega) k2).trans (Below.heap_alloc w6 _ k k1);have HB7 : Hid (w7.heap[B]? = some (.cells (nodeCells d (.slice a n cap) 0) 87 (0, 0))) := (HK7.out _ l6 (fun he => HQ6.out.nb he.symm)).trans HB6.out;have HS7 : Hid (w7.os = w6.os ∧ w7.tape = w6.tape ∧ w7.output = w6.output ∧ w6.heap.size ≤ w7.heap.size) := ⟨hgrow.os, hgrow.tape, hgrow.output, by have := hgrow.size; simp at this; omega⟩;clear hown hgrow hat hlt;have c11 := nc11 HB7.out;have f11 : w7.frozen? ⟨B, 11, none⟩ = false := heap_frozen HB7.out;refine hK.out _ _ (trivial) (fun hN => ?_);clear hK K hHeld;have hHeld := hN;clear hN
     try simp only [Act.put, zsa, zsz, zss]
     refine wpAnyH_take (i := 9) (oi := ?o17) (v := ?v17) ?i17 (by kernel_rfl) (by kernel_rfl) (by kernel_rfl) ?q17 ?y17 hHeld ?_
     case i17 => simp only [zga, zgs, zgz]; rfl
     case q17 => exact fun _ _ _ h => h
     case y17 => refine .inl ⟨by rfl, ?_⟩; intro w' hSw; (try dsimp only at hSw); go_simp; try with_reducible rfl
     simp only [Act.put, zsa, zsz, zss];refine wpAnyH_take (i := 10) (oi := ?o18) (v := ?v18) ?i18 (by kernel_rfl) (by kernel_rfl) (by kernel_rfl) ?q18 ?y18 hHeld ?_
     case i18 => simp only [zga, zgs, zgz]; rfl
     case q18 => exact fun _ _ _ h => h
     case y18 => refine .inl ⟨by rfl, ?_⟩; intro w' hSw; (try dsimp only at hSw); go_simp; try with_reducible rfl
     simp only [Act.put, zsa, zsz, zss];refine zr (r := 11) (o := ?o19) (by kernel_rfl) ?i19 (fun K hK => ?g19)
     case i19 => simp only [zga, zgs, zgz]; rfl
     case g19 =>
      go_simp;refine hK.out _ _ (trivial) (fun hN => ?_);clear hK K hHeld;have hHeld := hN;clear hN
      try simp only [Act.put, zsa, zsz, zss]
      refine wpAnyH_done (by kernel_rfl) ?_ _;clear hHeld c11;have fin := ap_end HP6.out HG6.out HQ6.out HQ7.out HK7.out HB7.out HS7.out PL hg hlB hls gB;exact HK.out _ _ _ _ _ _ _ _ _ _ _ _ q cap2 y fin.1 fin.2.1 fin.2.2.1 fin.2.2.2
  case g14 =>
   go_simp;refine hK.out _ _ (trivial) (fun hN => ?_);clear hK K hHeld;have hHeld := hN;clear hN
   try simp only [Act.put, zsa, zsz, zss]
   refine zr (r := 4) (o := ?o20) (by kernel_rfl) ?i20 (fun K hK => ?g20)
   case i20 => simp only [zga, zgs, zgz]; rfl
   case g20 =>
    go_simp;refine hK.out _ _ (trivial) (fun hN => ?_);clear hK K hHeld;have hHeld := hN;clear hN
    try simp only [Act.put, zsa, zsz, zss]
    refine zr (r := 8) (o := ?o21) (by kernel_rfl) ?i21 (fun K hK => ?g21)
    case i21 => simp only [zga, zgs, zgz]; rfl
    case g21 =>
     refine step_append_lies _ (by rfl) _ _ 61 (by rfl) lo 83 i0' (.pointer none) 1 8 underlying61 hinf hz0 hz1 hz2 rfl (by decide) (.slice a n cap) n (bs.map ptrV) (by rfl) ((hno HQ6.out.own).alloc _) ⟨w6.heap.size, 0, none⟩ 1 1 [ptrV y] (by rfl) (by rfl) (World.news_of_block (World.alloc_heap_new w6 (.cells #[ptrV y] 83))) (by intro u hu; simp at hu; subst hu; rfl) (by decide) (by unfold maxLen; omega) (by omega) (by simp; omega) (w6.heap.size + 1) (by simp) ?_;intro q cap2 w7 hown hgrow hat hlt;have HQ7 : Hid (PartsAt w7 lo B (.slice (some ⟨q, 0, none⟩) (n + 1) cap2) (ts ++ [tx]) (bs ++ [y])) := HQ6.out.push (l := 0) HX6.out l6 ((Below.refl _ _).alloc (Nat.le_refl _) (.cells #[ptrV y] 83)) (by rw [hnl]; exact hown) hgrow (hat.elim (fun h => .inl h.symm) (fun h => .inr (by rw [World.size_alloc, ← h]; rfl)));have HK7 : Hid (∀ k, k < w6.heap.size → some k ≠ (Value.slice a n cap).ownBlock → w7.heap[k]? = w6.heap[k]?) := fun k k1 k2 => (hgrow.block k (by simp; omega) k2).trans (Below.heap_alloc w6 _ k k1);have HB7 : Hid (w7.heap[B]? = some (.cells (nodeCells d (.slice a n cap) 0) 87 (0, 0))) := (HK7.out _ l6 (fun he => HQ6.out.nb he.symm)).trans HB6.out;have HS7 : Hid (w7.os = w6.os ∧ w7.tape = w6.tape ∧ w7.output = w6.output ∧ w6.heap.size ≤ w7.heap.size) := ⟨hgrow.os, hgrow.tape, hgrow.output, by have := hgrow.size; simp at this; omega⟩;clear hown hgrow hat hlt;have c11 := nc11 HB7.out;have f11 : w7.frozen? ⟨B, 11, none⟩ = false := heap_frozen HB7.out;refine hK.out _ _ (trivial) (fun hN => ?_);clear hK K hHeld;have hHeld := hN;clear hN
     try simp only [Act.put, zsa, zsz, zss]
     refine wpAnyH_take (i := 9) (oi := ?o22) (v := ?v22) ?i22 (by kernel_rfl) (by kernel_rfl) (by kernel_rfl) ?q22 ?y22 hHeld ?_
     case i22 => simp only [zga, zgs, zgz]; rfl
     case q22 => exact fun _ _ _ h => h
     case y22 => refine .inl ⟨by rfl, ?_⟩; intro w' hSw; (try dsimp only at hSw); go_simp; try with_reducible rfl
     simp only [Act.put, zsa, zsz, zss];refine wpAnyH_take (i := 10) (oi := ?o23) (v := ?v23) ?i23 (by kernel_rfl) (by kernel_rfl) (by kernel_rfl) ?q23 ?y23 hHeld ?_
     case i23 => simp only [zga, zgs, zgz]; rfl
     case q23 => exact fun _ _ _ h => h
     case y23 => refine .inl ⟨by rfl, ?_⟩; intro w' hSw; (try dsimp only at hSw); go_simp; try with_reducible rfl
     simp only [Act.put, zsa, zsz, zss];refine zr (r := 11) (o := ?o24) (by kernel_rfl) ?i24 (fun K hK => ?g24)
     case i24 => simp only [zga, zgs, zgz]; rfl
     case g24 =>
      go_simp;refine hK.out _ _ (trivial) (fun hN => ?_);clear hK K hHeld;have hHeld := hN;clear hN
      try simp only [Act.put, zsa, zsz, zss]
      refine wpAnyH_done (by kernel_rfl) ?_ _;clear hHeld c11;have fin := ap_end HP6.out HG6.out HQ6.out HQ7.out HK7.out HB7.out HS7.out PL hg hlB hls gB;exact HK.out _ _ _ _ _ _ _ _ _ _ _ _ q cap2 y fin.1 fin.2.1 fin.2.2.1 fin.2.2.2

def retRow (c : PC) (s : PSt) (t : Tr) (lo : Nat) (w : World) : Ending → World → Prop := fun e W => ∃ b, e = .returned (.pointer (some ⟨b, 0, none⟩)) ∧ Top W lo t b ∧ PAt W c s ∧ Chg c.PB w W
noncomputable def mk_assignR : Code := ((Tryz.f143.body.bind (regionU 1)).getD .skip)
theorem mk_assign (pb : Nat) (pl pc : Int) (t0 : Tr) (c : PC) (s0 s1 : PSt) (w1 : World) (ds : List Deferred) (z1z z2z z4z z5z z6z z7z z8z z9z z10z z11z z12z z13z z14z z15z z16z z17z z18z z19z z20z z21z z22z z23z : Value) (K : Act → World → Prop) (QQ : Exit → Act → World → Prop)
  (HP : Hid (PAt w1 c s0)) (b0 : w1.cell? ⟨pb, 0, none⟩ = some (.int .i64 pl)) (b1 : w1.cell? ⟨pb, 1, none⟩ = some (.int .i64 pc)) (nb : pb ≠ c.PB) (hgl : c.g < w1.heap.size)
  (HC0 : Hid (∀ W, PAt W c s0 → Chg c.PB w1 W → Calls prog 136 #[pp c] W (retE c (t0, s1) W))) 
  (HK : Hid (∀ y6 y7 y8 y9 y10 W B g x0, w1.heap.size ≤ B → PAt W c s1 → Chg c.PB w1 W → W.heap[B]? = some (.cells #[.int .i64 16, .int .i64 pl, .int .i64 pc, .string ⟨#[]⟩, .string ⟨#[]⟩, .int .i64 0, .string ⟨#[]⟩, .int .i64 0, .bool false, .int .i64 0, .bool false, .slice (some ⟨g, 0, none⟩) 1 1, .int .i64 0, .int .i64 0] 87 (0, 0)) → PartsAt W w1.heap.size B (.slice (some ⟨g, 0, none⟩) 1 1) [t0] [x0] → K ⟨#[.pointer (some ⟨c.PB, 0, none⟩), z1z, z2z, .pointer (some ⟨pb, 0, none⟩), z4z, .pointer (some ⟨B, 0, none⟩), y6, y7, y8, y9, y10, z11z, z12z, z13z, z14z, z15z, z16z, z17z, z18z, z19z, z20z, z21z, z22z, z23z], ds⟩ W)) :
  Code.wp prog mk_assignR (Exit.then K QQ) ⟨#[.pointer (some ⟨c.PB, 0, none⟩), z1z, z2z, .pointer (some ⟨pb, 0, none⟩), z4z, z5z, z6z, z7z, z8z, z9z, z10z, z11z, z12z, z13z, z14z, z15z, z16z, z17z, z18z, z19z, z20z, z21z, z22z, z23z], ds⟩ w1 := by
 have PL := HP.out.lt;have HPw1 : Hid (PAt w1 c s0) := HP;have HGw1 : Hid (Chg c.PB w1 w1) := Chg.refl _ _;have lpw1 : pb < w1.heap.size := block_lt_of_cell b0;refine wp_calm ?_
 conv => arg 2; whnf
 refine wp_region_held_drew (S := (fun w' => w'.cell? ⟨pb, 0, none⟩ = some (.int .i64 pl) ∧ w'.cell? ⟨pb, 1, none⟩ = some (.int .i64 pc))) (by kernel_rfl) (⟨b0, b1⟩) (fun hHeld => ?_);refine wpAnyH_take (i := 0) (oi := ?o0) (v := ?v0) ?i0 (by kernel_rfl) (by kernel_rfl) (by kernel_rfl) ?q0 ?y0 hHeld ?_
 case i0 => simp only [zga, zgs, zgz]; rfl
 case q0 => exact fun _ _ _ h => h
 case y0 => refine .inl ⟨by rfl, ?_⟩; intro w' hSw; (try dsimp only at hSw); go_simp; try with_reducible rfl
 simp only [Act.put, zsa, zsz, zss];refine wpAnyH_take (i := 1) (oi := ?o1) (v := ?v1) ?i1 (by kernel_rfl) (by kernel_rfl) (by kernel_rfl) ?q1 ?y1 hHeld ?_
 case i1 => simp only [zga, zgs, zgz]; rfl
 case q1 => exact fun _ _ _ h => h
 case y1 => refine .inl ⟨by rfl, ?_⟩; intro w' hSw; (try dsimp only at hSw); go_simp; try with_reducible rfl
 simp only [Act.put, zsa, zsz, zss];refine wpAnyH_ready (rs := [2, 5]) (by kernel_rfl) (by simp) ?_;refine (AllReadyH.cons (o := ?o2) ?i2 (fun K hK => ?g2) (AllReadyH.cons (o := ?o3) ?i3 (fun K hK => ?g3) AllReadyH.nil))
 case i2 => simp only [zga, zgs, zgz]; rfl
 case i3 => simp only [zga, zgs, zgz]; rfl
 case g2 =>
  go_simp;have hBel : Below w1.heap.size w1 w1.drew := by (repeat (first | with_reducible exact Below.refl _ _ | with_reducible assumption | with_reducible refine bel_alloc ?_ _ | with_reducible refine bel_set ?_ (by first | exact Nat.le_refl _ | (simp; done) | (simp; omega)) _ | with_reducible refine Below.drew ?_ | with_reducible refine bel_drewN ?_ _))
  have hGd : Chg c.PB w1 w1.drew := HGw1.out.trans (.of hBel);refine (HC0.out _ (HPw1.out.below hBel) hGd).mono ?_;rintro e v1 ⟨x0, rfl, ht, hp, hg⟩;have HPv1 : Hid (PAt v1 c s1) := hp;have HGv1 : Hid (Chg c.PB w1 v1) := hGd.trans hg;have hzv1 := hg.size;have hyv1 := hGd.size;have hqv1 := hBel.size;have HT0v1 : Hid (TreeIn v1 (fun k => w1.heap.size ≤ k ∧ k < v1.heap.size) t0 x0) := ht.tree.within (fun k k1 k2 => ⟨by omega, k2⟩);have c0 : v1.cell? ⟨pb, 0, none⟩ = some (.int .i64 pl) := HGv1.out.cell b0 nb;have c1 : v1.cell? ⟨pb, 1, none⟩ = some (.int .i64 pc) := HGv1.out.cell b1 nb;have lpv1 : pb < v1.heap.size := block_lt_of_cell c0;clear ht hp hg hBel hGd;dsimp only;go_wp2_with fail
  refine hK.out _ _ (⟨c0, c1⟩) (fun hN => ?_);clear hK K hHeld;have hHeld := hN;clear hN
  try simp only [Act.put, zsa, zsz, zss]
  refine wpAnyH_ready (rs := [3, 5]) (by kernel_rfl) (by simp) ?_;refine (AllReadyH.cons (o := ?o4) ?i4 (fun K hK => ?g4) (AllReadyH.cons (o := ?o5) ?i5 (fun K hK => ?g5) AllReadyH.nil))
  case i4 => simp only [zga, zgs, zgz]; rfl
  case i5 => simp only [zga, zgs, zgz]; rfl
  case g4 =>
   go_simp;refine hK.out _ _ (⟨by go_simp, by go_simp⟩) (fun hN => ?_);clear hK K hHeld;have hHeld := hN;clear hN
   try simp only [Act.put, zsa, zsz, zss]
   refine wpAnyH_take (i := 4) (oi := ?o6) (v := ?v6) ?i6 (by kernel_rfl) (by kernel_rfl) (by kernel_rfl) ?q6 ?y6 hHeld ?_
   case i6 => simp only [zga, zgs, zgz]; rfl
   case q6 => exact fun _ _ _ h => h
   case y6 => refine .inl ⟨by rfl, ?_⟩; intro w' hSw; (try dsimp only at hSw); go_simp; try with_reducible rfl
   simp only [Act.put, zsa, zsz, zss];refine zr (r := 5) (o := ?o7) (by kernel_rfl) ?i7 (fun K hK => ?g7)
   case i7 => simp only [zga, zgs, zgz]; rfl
   case g7 =>
    go_simp;refine hK.out _ _ (⟨by go_simp, by go_simp⟩) (fun hN => ?_);clear hK K hHeld;have hHeld := hN;clear hN
    try simp only [Act.put, zsa, zsz, zss]
    refine zr (r := 6) (o := ?o8) (by kernel_rfl) ?i8 (fun K hK => ?g8)
    case i8 => simp only [zga, zgs, zgz]; rfl
    case g8 =>
     have hBel : Below v1.heap.size v1 ((v1.alloc (.cells #[.pointer (some ⟨x0, 0, none⟩)] 83)).alloc (.cells #[.int .i64 0, .int .i64 0, .int .i64 0, .string ⟨#[]⟩, .string ⟨#[]⟩, .int .i64 0, .string ⟨#[]⟩, .int .i64 0, .bool false, .int .i64 0, .bool false, .slice none 0 0, .int .i64 0, .int .i64 0] 87)) := by (repeat (first | with_reducible exact Below.refl _ _ | with_reducible assumption | with_reducible refine bel_alloc ?_ _ | with_reducible refine bel_set ?_ (by first | exact Nat.le_refl _ | (simp; done) | (simp; omega)) _ | with_reducible refine Below.drew ?_ | with_reducible refine bel_drewN ?_ _))
     have hW : ((v1.alloc (.cells #[.pointer (some ⟨x0, 0, none⟩)] 83)).alloc (.cells #[.int .i64 0, .int .i64 0, .int .i64 0, .string ⟨#[]⟩, .string ⟨#[]⟩, .int .i64 0, .string ⟨#[]⟩, .int .i64 0, .bool false, .int .i64 0, .bool false, .slice none 0 0, .int .i64 0, .int .i64 0] 87)).heap[v1.heap.size + 1]? = some (.cells #[.int .i64 0, .int .i64 0, .int .i64 0, .string ⟨#[]⟩, .string ⟨#[]⟩, .int .i64 0, .string ⟨#[]⟩, .int .i64 0, .bool false, .int .i64 0, .bool false, .slice none 0 0, .int .i64 0, .int .i64 0] 87 (0, 0)) := by have := World.alloc_heap_new (v1.alloc (.cells #[.pointer (some ⟨x0, 0, none⟩)] 83)) (.cells #[.int .i64 0, .int .i64 0, .int .i64 0, .string ⟨#[]⟩, .string ⟨#[]⟩, .int .i64 0, .string ⟨#[]⟩, .int .i64 0, .bool false, .int .i64 0, .bool false, .slice none 0 0, .int .i64 0, .int .i64 0] 87); simpa using this
     have hR : ((v1.alloc (.cells #[.pointer (some ⟨x0, 0, none⟩)] 83)).alloc (.cells #[.int .i64 0, .int .i64 0, .int .i64 0, .string ⟨#[]⟩, .string ⟨#[]⟩, .int .i64 0, .string ⟨#[]⟩, .int .i64 0, .bool false, .int .i64 0, .bool false, .slice none 0 0, .int .i64 0, .int .i64 0] 87)).heap[v1.heap.size]? = some (.cells #[.pointer (some ⟨x0, 0, none⟩)] 83 (0, 0)) := by rw [Below.heap_alloc _ _ _ (by simp)]; have := World.alloc_heap_new v1 (.cells #[.pointer (some ⟨x0, 0, none⟩)] 83); simpa using this
     have lzB := (zge hW).1;have lzR := (zge hR).1;have hne : v1.heap.size ≠ v1.heap.size + 1 := by omega
     have hBl : w1.heap.size ≤ v1.heap.size + 1 := by omega
     rw [if_pos (by rfl)];refine wp_store_mid 87 _ _ rfl (v1.heap.size + 1) 0 #[.int .i64 16, .int .i64 pl, .int .i64 pc, .string ⟨#[]⟩, .string ⟨#[]⟩, .int .i64 0, .string ⟨#[]⟩, .int .i64 0, .bool false, .int .i64 0, .bool false, .slice (some ⟨v1.heap.size, 0, none⟩) 1 1, .int .i64 0, .int .i64 0] rfl rfl (there_block hW 14 (by simp)) infoN (by simp [Value.oneCell']) ?_;have hst : Stored (v1.heap.size + 1) #[.int .i64 16, .int .i64 pl, .int .i64 pc, .string ⟨#[]⟩, .string ⟨#[]⟩, .int .i64 0, .string ⟨#[]⟩, .int .i64 0, .bool false, .int .i64 0, .bool false, .slice (some ⟨v1.heap.size, 0, none⟩) 1 1, .int .i64 0, .int .i64 0] ((v1.alloc (.cells #[.pointer (some ⟨x0, 0, none⟩)] 83)).alloc (.cells #[.int .i64 0, .int .i64 0, .int .i64 0, .string ⟨#[]⟩, .string ⟨#[]⟩, .int .i64 0, .string ⟨#[]⟩, .int .i64 0, .bool false, .int .i64 0, .bool false, .slice none 0 0, .int .i64 0, .int .i64 0] 87)) (((v1.alloc (.cells #[.pointer (some ⟨x0, 0, none⟩)] 83)).alloc (.cells #[.int .i64 0, .int .i64 0, .int .i64 0, .string ⟨#[]⟩, .string ⟨#[]⟩, .int .i64 0, .string ⟨#[]⟩, .int .i64 0, .bool false, .int .i64 0, .bool false, .slice none 0 0, .int .i64 0, .int .i64 0] 87)).setCells (v1.heap.size + 1) 0 (#[.int .i64 16, .int .i64 pl, .int .i64 pc, .string ⟨#[]⟩, .string ⟨#[]⟩, .int .i64 0, .string ⟨#[]⟩, .int .i64 0, .bool false, .int .i64 0, .bool false, .slice (some ⟨v1.heap.size, 0, none⟩) 1 1, .int .i64 0, .int .i64 0] : Array Value).toList) := stored hW (setFrom14 _ _ _ _ _ _ _ _ _ _ _ _ _ _ _ _ _ _ _ _ _ _ _ _ _ _ _ _)
     generalize ((v1.alloc (.cells #[.pointer (some ⟨x0, 0, none⟩)] 83)).alloc (.cells #[.int .i64 0, .int .i64 0, .int .i64 0, .string ⟨#[]⟩, .string ⟨#[]⟩, .int .i64 0, .string ⟨#[]⟩, .int .i64 0, .bool false, .int .i64 0, .bool false, .slice none 0 0, .int .i64 0, .int .i64 0] 87)).setCells (v1.heap.size + 1) 0 (#[.int .i64 16, .int .i64 pl, .int .i64 pc, .string ⟨#[]⟩, .string ⟨#[]⟩, .int .i64 0, .string ⟨#[]⟩, .int .i64 0, .bool false, .int .i64 0, .bool false, .slice (some ⟨v1.heap.size, 0, none⟩) 1 1, .int .i64 0, .int .i64 0] : Array Value).toList = w4 at hst ⊢
     have hsz4 := hst.size;have hsW : ((v1.alloc (.cells #[.pointer (some ⟨x0, 0, none⟩)] 83)).alloc (.cells #[.int .i64 0, .int .i64 0, .int .i64 0, .string ⟨#[]⟩, .string ⟨#[]⟩, .int .i64 0, .string ⟨#[]⟩, .int .i64 0, .bool false, .int .i64 0, .bool false, .slice none 0 0, .int .i64 0, .int .i64 0] 87)).heap.size = v1.heap.size + 2 := by simp
     have HP4 : Hid (PAt w4 c s1) := (HPv1.out.below hBel).blocks (hst.rest _ (by omega)) (hst.rest _ (by omega));have HG4 : Hid (Chg c.PB w1 w4) := hst.chg (HGv1.out.trans (.of hBel)) (by omega);have HB4 : Hid (w4.heap[v1.heap.size + 1]? = some (.cells #[.int .i64 16, .int .i64 pl, .int .i64 pc, .string ⟨#[]⟩, .string ⟨#[]⟩, .int .i64 0, .string ⟨#[]⟩, .int .i64 0, .bool false, .int .i64 0, .bool false, .slice (some ⟨v1.heap.size, 0, none⟩) 1 1, .int .i64 0, .int .i64 0] 87 (0, 0))) := hst.blk;have HQ4 : Hid (PartsAt w4 w1.heap.size (v1.heap.size + 1) (.slice (some ⟨v1.heap.size, 0, none⟩) 1 1) [t0] [x0]) := PartsAt.one (cap := 1) ((hst.rest _ hne).trans hR) (by omega) hne (HT0v1.out.keep (fun k hk => (hst.rest k (by have := hk.2; omega)).trans (hBel.block k (by have := hk.2; omega))) (fun k hk => ⟨hk.1, by have := hk.2; omega, by have := hk.2; omega, by have := hk.2; omega⟩));have c0 : w4.cell? ⟨pb, 0, none⟩ = some (.int .i64 pl) := HG4.out.cell b0 nb;have c1 : w4.cell? ⟨pb, 1, none⟩ = some (.int .i64 pc) := HG4.out.cell b1 nb;clear hst hW hR hBel;refine hK.out _ _ (⟨c0, c1⟩) (fun hN => ?_);clear hK K hHeld;have hHeld := hN;clear hN
     try simp only [Act.put, zsa, zsz, zss]
     refine wpAnyH_done (by kernel_rfl) ?_ _;clear hHeld;exact HK.out _ _ _ _ _ w4 _ _ x0 hBl HP4.out HG4.out HB4.out HQ4.out
  case g5 =>
   go_simp;refine hK.out _ _ (⟨by go_simp, by go_simp⟩) (fun hN => ?_);clear hK K hHeld;have hHeld := hN;clear hN
   try simp only [Act.put, zsa, zsz, zss]
   refine zr (r := 3) (o := ?o9) (by kernel_rfl) ?i9 (fun K hK => ?g9)
   case i9 => simp only [zga, zgs, zgz]; rfl
   case g9 =>
    go_simp;refine hK.out _ _ (⟨by go_simp, by go_simp⟩) (fun hN => ?_);clear hK K hHeld;have hHeld := hN;clear hN
    try simp only [Act.put, zsa, zsz, zss]
    refine wpAnyH_take (i := 4) (oi := ?o10) (v := ?v10) ?i10 (by kernel_rfl) (by kernel_rfl) (by kernel_rfl) ?q10 ?y10 hHeld ?_
    case i10 => simp only [zga, zgs, zgz]; rfl
    case q10 => exact fun _ _ _ h => h
    case y10 => refine .inl ⟨by rfl, ?_⟩; intro w' hSw; (try dsimp only at hSw); go_simp; try with_reducible rfl
    simp only [Act.put, zsa, zsz, zss];refine zr (r := 6) (o := ?o11) (by kernel_rfl) ?i11 (fun K hK => ?g11)
    case i11 => simp only [zga, zgs, zgz]; rfl
    case g11 =>
     have hBel : Below v1.heap.size v1 ((v1.alloc (.cells #[.int .i64 0, .int .i64 0, .int .i64 0, .string ⟨#[]⟩, .string ⟨#[]⟩, .int .i64 0, .string ⟨#[]⟩, .int .i64 0, .bool false, .int .i64 0, .bool false, .slice none 0 0, .int .i64 0, .int .i64 0] 87)).alloc (.cells #[.pointer (some ⟨x0, 0, none⟩)] 83)) := by (repeat (first | with_reducible exact Below.refl _ _ | with_reducible assumption | with_reducible refine bel_alloc ?_ _ | with_reducible refine bel_set ?_ (by first | exact Nat.le_refl _ | (simp; done) | (simp; omega)) _ | with_reducible refine Below.drew ?_ | with_reducible refine bel_drewN ?_ _))
     have hW : ((v1.alloc (.cells #[.int .i64 0, .int .i64 0, .int .i64 0, .string ⟨#[]⟩, .string ⟨#[]⟩, .int .i64 0, .string ⟨#[]⟩, .int .i64 0, .bool false, .int .i64 0, .bool false, .slice none 0 0, .int .i64 0, .int .i64 0] 87)).alloc (.cells #[.pointer (some ⟨x0, 0, none⟩)] 83)).heap[v1.heap.size]? = some (.cells #[.int .i64 0, .int .i64 0, .int .i64 0, .string ⟨#[]⟩, .string ⟨#[]⟩, .int .i64 0, .string ⟨#[]⟩, .int .i64 0, .bool false, .int .i64 0, .bool false, .slice none 0 0, .int .i64 0, .int .i64 0] 87 (0, 0)) := by rw [Below.heap_alloc _ _ _ (by simp)]; have := World.alloc_heap_new v1 (.cells #[.int .i64 0, .int .i64 0, .int .i64 0, .string ⟨#[]⟩, .string ⟨#[]⟩, .int .i64 0, .string ⟨#[]⟩, .int .i64 0, .bool false, .int .i64 0, .bool false, .slice none 0 0, .int .i64 0, .int .i64 0] 87); simpa using this
     have hR : ((v1.alloc (.cells #[.int .i64 0, .int .i64 0, .int .i64 0, .string ⟨#[]⟩, .string ⟨#[]⟩, .int .i64 0, .string ⟨#[]⟩, .int .i64 0, .bool false, .int .i64 0, .bool false, .slice none 0 0, .int .i64 0, .int .i64 0] 87)).alloc (.cells #[.pointer (some ⟨x0, 0, none⟩)] 83)).heap[v1.heap.size + 1]? = some (.cells #[.pointer (some ⟨x0, 0, none⟩)] 83 (0, 0)) := by have := World.alloc_heap_new (v1.alloc (.cells #[.int .i64 0, .int .i64 0, .int .i64 0, .string ⟨#[]⟩, .string ⟨#[]⟩, .int .i64 0, .string ⟨#[]⟩, .int .i64 0, .bool false, .int .i64 0, .bool false, .slice none 0 0, .int .i64 0, .int .i64 0] 87)) (.cells #[.pointer (some ⟨x0, 0, none⟩)] 83); simpa using this
     have lzB := (zge hW).1;have lzR := (zge hR).1;have hne : v1.heap.size + 1 ≠ v1.heap.size := by omega
     have hBl : w1.heap.size ≤ v1.heap.size := by omega
     rw [if_pos (by rfl)];refine wp_store_mid 87 _ _ rfl (v1.heap.size) 0 #[.int .i64 16, .int .i64 pl, .int .i64 pc, .string ⟨#[]⟩, .string ⟨#[]⟩, .int .i64 0, .string ⟨#[]⟩, .int .i64 0, .bool false, .int .i64 0, .bool false, .slice (some ⟨v1.heap.size + 1, 0, none⟩) 1 1, .int .i64 0, .int .i64 0] rfl rfl (there_block hW 14 (by simp)) infoN (by simp [Value.oneCell']) ?_;have hst : Stored (v1.heap.size) #[.int .i64 16, .int .i64 pl, .int .i64 pc, .string ⟨#[]⟩, .string ⟨#[]⟩, .int .i64 0, .string ⟨#[]⟩, .int .i64 0, .bool false, .int .i64 0, .bool false, .slice (some ⟨v1.heap.size + 1, 0, none⟩) 1 1, .int .i64 0, .int .i64 0] ((v1.alloc (.cells #[.int .i64 0, .int .i64 0, .int .i64 0, .string ⟨#[]⟩, .string ⟨#[]⟩, .int .i64 0, .string ⟨#[]⟩, .int .i64 0, .bool false, .int .i64 0, .bool false, .slice none 0 0, .int .i64 0, .int .i64 0] 87)).alloc (.cells #[.pointer (some ⟨x0, 0, none⟩)] 83)) (((v1.alloc (.cells #[.int .i64 0, .int .i64 0, .int .i64 0, .string ⟨#[]⟩, .string ⟨#[]⟩, .int .i64 0, .string ⟨#[]⟩, .int .i64 0, .bool false, .int .i64 0, .bool false, .slice none 0 0, .int .i64 0, .int .i64 0] 87)).alloc (.cells #[.pointer (some ⟨x0, 0, none⟩)] 83)).setCells (v1.heap.size) 0 (#[.int .i64 16, .int .i64 pl, .int .i64 pc, .string ⟨#[]⟩, .string ⟨#[]⟩, .int .i64 0, .string ⟨#[]⟩, .int .i64 0, .bool false, .int .i64 0, .bool false, .slice (some ⟨v1.heap.size + 1, 0, none⟩) 1 1, .int .i64 0, .int .i64 0] : Array Value).toList) := stored hW (setFrom14 _ _ _ _ _ _ _ _ _ _ _ _ _ _ _ _ _ _ _ _ _ _ _ _ _ _ _ _)
     generalize ((v1.alloc (.cells #[.int .i64 0, .int .i64 0, .int .i64 0, .string ⟨#[]⟩, .string ⟨#[]⟩, .int .i64 0, .string ⟨#[]⟩, .int .i64 0, .bool false, .int .i64 0, .bool false, .slice none 0 0, .int .i64 0, .int .i64 0] 87)).alloc (.cells #[.pointer (some ⟨x0, 0, none⟩)] 83)).setCells (v1.heap.size) 0 (#[.int .i64 16, .int .i64 pl, .int .i64 pc, .string ⟨#[]⟩, .string ⟨#[]⟩, .int .i64 0, .string ⟨#[]⟩, .int .i64 0, .bool false, .int .i64 0, .bool false, .slice (some ⟨v1.heap.size + 1, 0, none⟩) 1 1, .int .i64 0, .int .i64 0] : Array Value).toList = w4 at hst ⊢
     have hsz4 := hst.size;have hsW : ((v1.alloc (.cells #[.int .i64 0, .int .i64 0, .int .i64 0, .string ⟨#[]⟩, .string ⟨#[]⟩, .int .i64 0, .string ⟨#[]⟩, .int .i64 0, .bool false, .int .i64 0, .bool false, .slice none 0 0, .int .i64 0, .int .i64 0] 87)).alloc (.cells #[.pointer (some ⟨x0, 0, none⟩)] 83)).heap.size = v1.heap.size + 2 := by simp
     have HP4 : Hid (PAt w4 c s1) := (HPv1.out.below hBel).blocks (hst.rest _ (by omega)) (hst.rest _ (by omega));have HG4 : Hid (Chg c.PB w1 w4) := hst.chg (HGv1.out.trans (.of hBel)) (by omega);have HB4 : Hid (w4.heap[v1.heap.size]? = some (.cells #[.int .i64 16, .int .i64 pl, .int .i64 pc, .string ⟨#[]⟩, .string ⟨#[]⟩, .int .i64 0, .string ⟨#[]⟩, .int .i64 0, .bool false, .int .i64 0, .bool false, .slice (some ⟨v1.heap.size + 1, 0, none⟩) 1 1, .int .i64 0, .int .i64 0] 87 (0, 0))) := hst.blk;have HQ4 : Hid (PartsAt w4 w1.heap.size (v1.heap.size) (.slice (some ⟨v1.heap.size + 1, 0, none⟩) 1 1) [t0] [x0]) := PartsAt.one (cap := 1) ((hst.rest _ hne).trans hR) (by omega) hne (HT0v1.out.keep (fun k hk => (hst.rest k (by have := hk.2; omega)).trans (hBel.block k (by have := hk.2; omega))) (fun k hk => ⟨hk.1, by have := hk.2; omega, by have := hk.2; omega, by have := hk.2; omega⟩));have c0 : w4.cell? ⟨pb, 0, none⟩ = some (.int .i64 pl) := HG4.out.cell b0 nb;have c1 : w4.cell? ⟨pb, 1, none⟩ = some (.int .i64 pc) := HG4.out.cell b1 nb;clear hst hW hR hBel;refine hK.out _ _ (⟨c0, c1⟩) (fun hN => ?_);clear hK K hHeld;have hHeld := hN;clear hN
     try simp only [Act.put, zsa, zsz, zss]
     refine wpAnyH_done (by kernel_rfl) ?_ _;clear hHeld;exact HK.out _ _ _ _ _ w4 _ _ x0 hBl HP4.out HG4.out HB4.out HQ4.out
 case g3 =>
  go_simp;refine hK.out _ _ (⟨by go_simp, by go_simp⟩) (fun hN => ?_);clear hK K hHeld;have hHeld := hN;clear hN
  try simp only [Act.put, zsa, zsz, zss]
  refine zr (r := 2) (o := ?o12) (by kernel_rfl) ?i12 (fun K hK => ?g12)
  case i12 => simp only [zga, zgs, zgz]; rfl
  case g12 =>
   go_simp;have hBel : Below w1.heap.size w1 (w1.drew.alloc (.cells #[.int .i64 0, .int .i64 0, .int .i64 0, .string ⟨#[]⟩, .string ⟨#[]⟩, .int .i64 0, .string ⟨#[]⟩, .int .i64 0, .bool false, .int .i64 0, .bool false, .slice none 0 0, .int .i64 0, .int .i64 0] 87)) := by (repeat (first | with_reducible exact Below.refl _ _ | with_reducible assumption | with_reducible refine bel_alloc ?_ _ | with_reducible refine bel_set ?_ (by first | exact Nat.le_refl _ | (simp; done) | (simp; omega)) _ | with_reducible refine Below.drew ?_ | with_reducible refine bel_drewN ?_ _))
   have hGd : Chg c.PB w1 (w1.drew.alloc (.cells #[.int .i64 0, .int .i64 0, .int .i64 0, .string ⟨#[]⟩, .string ⟨#[]⟩, .int .i64 0, .string ⟨#[]⟩, .int .i64 0, .bool false, .int .i64 0, .bool false, .slice none 0 0, .int .i64 0, .int .i64 0] 87)) := HGw1.out.trans (.of hBel);have hzB : (w1.drew.alloc (.cells #[.int .i64 0, .int .i64 0, .int .i64 0, .string ⟨#[]⟩, .string ⟨#[]⟩, .int .i64 0, .string ⟨#[]⟩, .int .i64 0, .bool false, .int .i64 0, .bool false, .slice none 0 0, .int .i64 0, .int .i64 0] 87)).heap[w1.heap.size]? = some (.cells #[.int .i64 0, .int .i64 0, .int .i64 0, .string ⟨#[]⟩, .string ⟨#[]⟩, .int .i64 0, .string ⟨#[]⟩, .int .i64 0, .bool false, .int .i64 0, .bool false, .slice none 0 0, .int .i64 0, .int .i64 0] 87 (0, 0)) := World.alloc_heap_new _ _;refine (HC0.out _ (HPw1.out.below hBel) hGd).mono ?_;rintro e v1 ⟨x0, rfl, ht, hp, hg⟩;have HPv1 : Hid (PAt v1 c s1) := hp;have HGv1 : Hid (Chg c.PB w1 v1) := hGd.trans hg;have hzv1 := hg.size;have hyv1 := hGd.size;have hqv1 := hBel.size;have HZv1 : Hid (v1.heap[w1.heap.size]? = some (.cells #[.int .i64 0, .int .i64 0, .int .i64 0, .string ⟨#[]⟩, .string ⟨#[]⟩, .int .i64 0, .string ⟨#[]⟩, .int .i64 0, .bool false, .int .i64 0, .bool false, .slice none 0 0, .int .i64 0, .int .i64 0] 87 (0, 0))) := (hg.block _ (zge hzB).1 (by omega)).trans hzB;have lzv1 := (zge hzB).1;have HT0v1 : Hid (TreeIn v1 (fun k => w1.heap.size ≤ k ∧ k < v1.heap.size ∧ k ≠ w1.heap.size) t0 x0) := ht.tree.within (fun k k1 k2 => ⟨by omega, k2, by omega⟩);have c0 : v1.cell? ⟨pb, 0, none⟩ = some (.int .i64 pl) := HGv1.out.cell b0 nb;have c1 : v1.cell? ⟨pb, 1, none⟩ = some (.int .i64 pc) := HGv1.out.cell b1 nb;have lpv1 : pb < v1.heap.size := block_lt_of_cell c0;clear ht hp hg hBel hGd hzB;dsimp only;go_wp2_with fail
   refine hK.out _ _ (⟨c0, c1⟩) (fun hN => ?_);clear hK K hHeld;have hHeld := hN;clear hN
   try simp only [Act.put, zsa, zsz, zss]
   refine zr (r := 3) (o := ?o13) (by kernel_rfl) ?i13 (fun K hK => ?g13)
   case i13 => simp only [zga, zgs, zgz]; rfl
   case g13 =>
    go_simp;refine hK.out _ _ (⟨by go_simp, by go_simp⟩) (fun hN => ?_);clear hK K hHeld;have hHeld := hN;clear hN
    try simp only [Act.put, zsa, zsz, zss]
    refine wpAnyH_take (i := 4) (oi := ?o14) (v := ?v14) ?i14 (by kernel_rfl) (by kernel_rfl) (by kernel_rfl) ?q14 ?y14 hHeld ?_
    case i14 => simp only [zga, zgs, zgz]; rfl
    case q14 => exact fun _ _ _ h => h
    case y14 => refine .inl ⟨by rfl, ?_⟩; intro w' hSw; (try dsimp only at hSw); go_simp; try with_reducible rfl
    simp only [Act.put, zsa, zsz, zss];refine zr (r := 6) (o := ?o15) (by kernel_rfl) ?i15 (fun K hK => ?g15)
    case i15 => simp only [zga, zgs, zgz]; rfl
    case g15 =>
     have hBel : Below v1.heap.size v1 (v1.alloc (.cells #[.pointer (some ⟨x0, 0, none⟩)] 83)) := by (repeat (first | with_reducible exact Below.refl _ _ | with_reducible assumption | with_reducible refine bel_alloc ?_ _ | with_reducible refine bel_set ?_ (by first | exact Nat.le_refl _ | (simp; done) | (simp; omega)) _ | with_reducible refine Below.drew ?_ | with_reducible refine bel_drewN ?_ _))
     have hW : (v1.alloc (.cells #[.pointer (some ⟨x0, 0, none⟩)] 83)).heap[w1.heap.size]? = some (.cells #[.int .i64 0, .int .i64 0, .int .i64 0, .string ⟨#[]⟩, .string ⟨#[]⟩, .int .i64 0, .string ⟨#[]⟩, .int .i64 0, .bool false, .int .i64 0, .bool false, .slice none 0 0, .int .i64 0, .int .i64 0] 87 (0, 0)) := (hBel.block _ (zge HZv1.out).1).trans HZv1.out;have hR : (v1.alloc (.cells #[.pointer (some ⟨x0, 0, none⟩)] 83)).heap[v1.heap.size]? = some (.cells #[.pointer (some ⟨x0, 0, none⟩)] 83 (0, 0)) := by have := World.alloc_heap_new v1 (.cells #[.pointer (some ⟨x0, 0, none⟩)] 83); simpa using this
     have lzB := (zge hW).1;have lzR := (zge hR).1;have hne : v1.heap.size ≠ w1.heap.size := by omega
     have hBl : w1.heap.size ≤ w1.heap.size := by omega
     rw [if_pos (by rfl)];refine wp_store_mid 87 _ _ rfl (w1.heap.size) 0 #[.int .i64 16, .int .i64 pl, .int .i64 pc, .string ⟨#[]⟩, .string ⟨#[]⟩, .int .i64 0, .string ⟨#[]⟩, .int .i64 0, .bool false, .int .i64 0, .bool false, .slice (some ⟨v1.heap.size, 0, none⟩) 1 1, .int .i64 0, .int .i64 0] rfl rfl (there_block hW 14 (by simp)) infoN (by simp [Value.oneCell']) ?_;have hst : Stored (w1.heap.size) #[.int .i64 16, .int .i64 pl, .int .i64 pc, .string ⟨#[]⟩, .string ⟨#[]⟩, .int .i64 0, .string ⟨#[]⟩, .int .i64 0, .bool false, .int .i64 0, .bool false, .slice (some ⟨v1.heap.size, 0, none⟩) 1 1, .int .i64 0, .int .i64 0] (v1.alloc (.cells #[.pointer (some ⟨x0, 0, none⟩)] 83)) ((v1.alloc (.cells #[.pointer (some ⟨x0, 0, none⟩)] 83)).setCells (w1.heap.size) 0 (#[.int .i64 16, .int .i64 pl, .int .i64 pc, .string ⟨#[]⟩, .string ⟨#[]⟩, .int .i64 0, .string ⟨#[]⟩, .int .i64 0, .bool false, .int .i64 0, .bool false, .slice (some ⟨v1.heap.size, 0, none⟩) 1 1, .int .i64 0, .int .i64 0] : Array Value).toList) := stored hW (setFrom14 _ _ _ _ _ _ _ _ _ _ _ _ _ _ _ _ _ _ _ _ _ _ _ _ _ _ _ _)
     generalize (v1.alloc (.cells #[.pointer (some ⟨x0, 0, none⟩)] 83)).setCells (w1.heap.size) 0 (#[.int .i64 16, .int .i64 pl, .int .i64 pc, .string ⟨#[]⟩, .string ⟨#[]⟩, .int .i64 0, .string ⟨#[]⟩, .int .i64 0, .bool false, .int .i64 0, .bool false, .slice (some ⟨v1.heap.size, 0, none⟩) 1 1, .int .i64 0, .int .i64 0] : Array Value).toList = w4 at hst ⊢
     have hsz4 := hst.size;have hsW : (v1.alloc (.cells #[.pointer (some ⟨x0, 0, none⟩)] 83)).heap.size = v1.heap.size + 1 := by simp
     have HP4 : Hid (PAt w4 c s1) := (HPv1.out.below hBel).blocks (hst.rest _ (by omega)) (hst.rest _ (by omega));have HG4 : Hid (Chg c.PB w1 w4) := hst.chg (HGv1.out.trans (.of hBel)) (by omega);have HB4 : Hid (w4.heap[w1.heap.size]? = some (.cells #[.int .i64 16, .int .i64 pl, .int .i64 pc, .string ⟨#[]⟩, .string ⟨#[]⟩, .int .i64 0, .string ⟨#[]⟩, .int .i64 0, .bool false, .int .i64 0, .bool false, .slice (some ⟨v1.heap.size, 0, none⟩) 1 1, .int .i64 0, .int .i64 0] 87 (0, 0))) := hst.blk;have HQ4 : Hid (PartsAt w4 w1.heap.size (w1.heap.size) (.slice (some ⟨v1.heap.size, 0, none⟩) 1 1) [t0] [x0]) := PartsAt.one (cap := 1) ((hst.rest _ hne).trans hR) (by omega) hne (HT0v1.out.keep (fun k hk => (hst.rest k (by have := hk.2; omega)).trans (hBel.block k (by have := hk.2; omega))) (fun k hk => ⟨hk.1, by have := hk.2; omega, by have := hk.2; omega, by have := hk.2; omega⟩));have c0 : w4.cell? ⟨pb, 0, none⟩ = some (.int .i64 pl) := HG4.out.cell b0 nb;have c1 : w4.cell? ⟨pb, 1, none⟩ = some (.int .i64 pc) := HG4.out.cell b1 nb;clear hst hW hR hBel;refine hK.out _ _ (⟨c0, c1⟩) (fun hN => ?_);clear hK K hHeld;have hHeld := hN;clear hN
     try simp only [Act.put, zsa, zsz, zss]
     refine wpAnyH_done (by kernel_rfl) ?_ _;clear hHeld;exact HK.out _ _ _ _ _ w4 _ _ x0 hBl HP4.out HG4.out HB4.out HQ4.out
noncomputable def mk_choiceR : Code := ((Tryz.f140.body.bind (regionU 1)).getD .skip)
theorem mk_choice (pb : Nat) (pl pc : Int) (t0 t1 : Tr) (c : PC) (s0 s1 s2 : PSt) (w1 : World) (ds : List Deferred) (z1z z2z z4z z5z z6z z7z z8z z9z z10z z11z z12z z13z z14z z15z z16z z17z z18z z19z z20z z21z z22z z23z z24z : Value) (K : Act → World → Prop) (QQ : Exit → Act → World → Prop)
  (HP : Hid (PAt w1 c s0)) (b0 : w1.cell? ⟨pb, 0, none⟩ = some (.int .i64 pl)) (b1 : w1.cell? ⟨pb, 1, none⟩ = some (.int .i64 pc)) (nb : pb ≠ c.PB) (hgl : c.g < w1.heap.size)
  (HC0 : Hid (∀ W, PAt W c s0 → Chg c.PB w1 W → Calls prog 141 #[pp c] W (retE c (t0, s1) W))) (HC1 : Hid (∀ W, PAt W c s1 → Chg c.PB w1 W → Calls prog 124 #[pp c] W (retE c (t1, s2) W))) 
  (HK : Hid (∀ y6 y7 y8 y9 y10 y11 y12 W B g x0 x1, w1.heap.size ≤ B → PAt W c s2 → Chg c.PB w1 W → W.heap[B]? = some (.cells #[.int .i64 9, .int .i64 pl, .int .i64 pc, .string ⟨#[]⟩, .string ⟨#[]⟩, .int .i64 0, .string ⟨#[]⟩, .int .i64 0, .bool false, .int .i64 0, .bool false, .slice (some ⟨g, 0, none⟩) 2 2, .int .i64 0, .int .i64 0] 87 (0, 0)) → PartsAt W w1.heap.size B (.slice (some ⟨g, 0, none⟩) 2 2) [t0, t1] [x0, x1] → K ⟨#[.pointer (some ⟨c.PB, 0, none⟩), z1z, z2z, .pointer (some ⟨pb, 0, none⟩), z4z, .pointer (some ⟨B, 0, none⟩), y6, y7, y8, y9, y10, y11, y12, z13z, z14z, z15z, z16z, z17z, z18z, z19z, z20z, z21z, z22z, z23z, z24z], ds⟩ W)) :
  Code.wp prog mk_choiceR (Exit.then K QQ) ⟨#[.pointer (some ⟨c.PB, 0, none⟩), z1z, z2z, .pointer (some ⟨pb, 0, none⟩), z4z, z5z, z6z, z7z, z8z, z9z, z10z, z11z, z12z, z13z, z14z, z15z, z16z, z17z, z18z, z19z, z20z, z21z, z22z, z23z, z24z], ds⟩ w1 := by
 have PL := HP.out.lt;have HPw1 : Hid (PAt w1 c s0) := HP;have HGw1 : Hid (Chg c.PB w1 w1) := Chg.refl _ _;have lpw1 : pb < w1.heap.size := block_lt_of_cell b0;refine wp_calm ?_
 conv => arg 2; whnf
 refine wp_region_held_drew (S := (fun w' => w'.cell? ⟨pb, 0, none⟩ = some (.int .i64 pl) ∧ w'.cell? ⟨pb, 1, none⟩ = some (.int .i64 pc))) (by kernel_rfl) (⟨b0, b1⟩) (fun hHeld => ?_);refine wpAnyH_take (i := 0) (oi := ?o0) (v := ?v0) ?i0 (by kernel_rfl) (by kernel_rfl) (by kernel_rfl) ?q0 ?y0 hHeld ?_
 case i0 => simp only [zga, zgs, zgz]; rfl
 case q0 => exact fun _ _ _ h => h
 case y0 => refine .inl ⟨by rfl, ?_⟩; intro w' hSw; (try dsimp only at hSw); go_simp; try with_reducible rfl
 simp only [Act.put, zsa, zsz, zss];refine wpAnyH_take (i := 1) (oi := ?o1) (v := ?v1) ?i1 (by kernel_rfl) (by kernel_rfl) (by kernel_rfl) ?q1 ?y1 hHeld ?_
 case i1 => simp only [zga, zgs, zgz]; rfl
 case q1 => exact fun _ _ _ h => h
 case y1 => refine .inl ⟨by rfl, ?_⟩; intro w' hSw; (try dsimp only at hSw); go_simp; try with_reducible rfl
 simp only [Act.put, zsa, zsz, zss];refine wpAnyH_take (i := 3) (oi := ?o2) (v := ?v2) ?i2 (by kernel_rfl) (by kernel_rfl) (by kernel_rfl) ?q2 ?y2 hHeld ?_
 case i2 => simp only [zga, zgs, zgz]; rfl
 case q2 => exact fun _ _ _ h => h
 case y2 => refine .inl ⟨by rfl, ?_⟩; intro w' hSw; (try dsimp only at hSw); go_simp; try with_reducible rfl
 simp only [Act.put, zsa, zsz, zss];refine wpAnyH_ready (rs := [2, 7]) (by kernel_rfl) (by simp) ?_;refine (AllReadyH.cons (o := ?o3) ?i3 (fun K hK => ?g3) (AllReadyH.cons (o := ?o4) ?i4 (fun K hK => ?g4) AllReadyH.nil))
 case i3 => simp only [zga, zgs, zgz]; rfl
 case i4 => simp only [zga, zgs, zgz]; rfl
 case g3 =>
  go_simp;have hBel : Below w1.heap.size w1 w1.drew := by (repeat (first | with_reducible exact Below.refl _ _ | with_reducible assumption | with_reducible refine bel_alloc ?_ _ | with_reducible refine bel_set ?_ (by first | exact Nat.le_refl _ | (simp; done) | (simp; omega)) _ | with_reducible refine Below.drew ?_ | with_reducible refine bel_drewN ?_ _))
  have hGd : Chg c.PB w1 w1.drew := HGw1.out.trans (.of hBel);refine (HC0.out _ (HPw1.out.below hBel) hGd).mono ?_;rintro e v1 ⟨x0, rfl, ht, hp, hg⟩;have HPv1 : Hid (PAt v1 c s1) := hp;have HGv1 : Hid (Chg c.PB w1 v1) := hGd.trans hg;have hzv1 := hg.size;have hyv1 := hGd.size;have hqv1 := hBel.size;have HT0v1 : Hid (TreeIn v1 (fun k => w1.heap.size ≤ k ∧ k < v1.heap.size) t0 x0) := ht.tree.within (fun k k1 k2 => ⟨by omega, k2⟩);have c0 : v1.cell? ⟨pb, 0, none⟩ = some (.int .i64 pl) := HGv1.out.cell b0 nb;have c1 : v1.cell? ⟨pb, 1, none⟩ = some (.int .i64 pc) := HGv1.out.cell b1 nb;have lpv1 : pb < v1.heap.size := block_lt_of_cell c0;clear ht hp hg hBel hGd;dsimp only;go_wp2_with fail
  refine hK.out _ _ (⟨c0, c1⟩) (fun hN => ?_);clear hK K hHeld;have hHeld := hN;clear hN
  try simp only [Act.put, zsa, zsz, zss]
  refine wpAnyH_ready (rs := [4, 7]) (by kernel_rfl) (by simp) ?_;refine (AllReadyH.cons (o := ?o5) ?i5 (fun K hK => ?g5) (AllReadyH.cons (o := ?o6) ?i6 (fun K hK => ?g6) AllReadyH.nil))
  case i5 => simp only [zga, zgs, zgz]; rfl
  case i6 => simp only [zga, zgs, zgz]; rfl
  case g5 =>
   go_simp;have hBel : Below v1.heap.size v1 v1 := by (repeat (first | with_reducible exact Below.refl _ _ | with_reducible assumption | with_reducible refine bel_alloc ?_ _ | with_reducible refine bel_set ?_ (by first | exact Nat.le_refl _ | (simp; done) | (simp; omega)) _ | with_reducible refine Below.drew ?_ | with_reducible refine bel_drewN ?_ _))
   have hGd : Chg c.PB w1 v1 := HGv1.out.trans (.of hBel);refine (HC1.out _ (HPv1.out.below hBel) hGd).mono ?_;rintro e v2 ⟨x1, rfl, ht, hp, hg⟩;have HPv2 : Hid (PAt v2 c s2) := hp;have HGv2 : Hid (Chg c.PB w1 v2) := hGd.trans hg;have hzv2 := hg.size;have hyv2 := hGd.size;have hqv2 := hBel.size;have HT1v2 : Hid (TreeIn v2 (fun k => w1.heap.size ≤ k ∧ k < v2.heap.size) t1 x1) := ht.tree.within (fun k k1 k2 => ⟨by omega, k2⟩);have HT0v2 : Hid (TreeIn v2 (fun k => w1.heap.size ≤ k ∧ k < v2.heap.size) t0 x0) := HT0v1.out.keep (fun k hk => (hg.block k (by have := hk.2; omega) (by have := hk.1; omega)).trans (hBel.block k (by have := hk.2; omega))) (fun k hk => ⟨hk.1, by have := hk.2; omega⟩);have c0 : v2.cell? ⟨pb, 0, none⟩ = some (.int .i64 pl) := HGv2.out.cell b0 nb;have c1 : v2.cell? ⟨pb, 1, none⟩ = some (.int .i64 pc) := HGv2.out.cell b1 nb;have lpv2 : pb < v2.heap.size := block_lt_of_cell c0;clear ht hp hg hBel hGd;dsimp only;go_wp2_with fail
   refine hK.out _ _ (⟨c0, c1⟩) (fun hN => ?_);clear hK K hHeld;have hHeld := hN;clear hN
   try simp only [Act.put, zsa, zsz, zss]
   refine wpAnyH_ready (rs := [5, 7]) (by kernel_rfl) (by simp) ?_;refine (AllReadyH.cons (o := ?o7) ?i7 (fun K hK => ?g7) (AllReadyH.cons (o := ?o8) ?i8 (fun K hK => ?g8) AllReadyH.nil))
   case i7 => simp only [zga, zgs, zgz]; rfl
   case i8 => simp only [zga, zgs, zgz]; rfl
   case g7 =>
    go_simp;refine hK.out _ _ (⟨by go_simp, by go_simp⟩) (fun hN => ?_);clear hK K hHeld;have hHeld := hN;clear hN
    try simp only [Act.put, zsa, zsz, zss]
    refine wpAnyH_take (i := 6) (oi := ?o9) (v := ?v9) ?i9 (by kernel_rfl) (by kernel_rfl) (by kernel_rfl) ?q9 ?y9 hHeld ?_
    case i9 => simp only [zga, zgs, zgz]; rfl
    case q9 => exact fun _ _ _ h => h
    case y9 => refine .inl ⟨by rfl, ?_⟩; intro w' hSw; (try dsimp only at hSw); go_simp; try with_reducible rfl
    simp only [Act.put, zsa, zsz, zss];refine zr (r := 7) (o := ?o10) (by kernel_rfl) ?i10 (fun K hK => ?g10)
    case i10 => simp only [zga, zgs, zgz]; rfl
    case g10 =>
     go_simp;refine hK.out _ _ (⟨by go_simp, by go_simp⟩) (fun hN => ?_);clear hK K hHeld;have hHeld := hN;clear hN
     try simp only [Act.put, zsa, zsz, zss]
     refine zr (r := 8) (o := ?o11) (by kernel_rfl) ?i11 (fun K hK => ?g11)
     case i11 => simp only [zga, zgs, zgz]; rfl
     case g11 =>
      have hBel : Below v2.heap.size v2 ((v2.alloc (.cells #[.pointer (some ⟨x0, 0, none⟩), .pointer (some ⟨x1, 0, none⟩)] 83)).alloc (.cells #[.int .i64 0, .int .i64 0, .int .i64 0, .string ⟨#[]⟩, .string ⟨#[]⟩, .int .i64 0, .string ⟨#[]⟩, .int .i64 0, .bool false, .int .i64 0, .bool false, .slice none 0 0, .int .i64 0, .int .i64 0] 87)) := by (repeat (first | with_reducible exact Below.refl _ _ | with_reducible assumption | with_reducible refine bel_alloc ?_ _ | with_reducible refine bel_set ?_ (by first | exact Nat.le_refl _ | (simp; done) | (simp; omega)) _ | with_reducible refine Below.drew ?_ | with_reducible refine bel_drewN ?_ _))
      have hW : ((v2.alloc (.cells #[.pointer (some ⟨x0, 0, none⟩), .pointer (some ⟨x1, 0, none⟩)] 83)).alloc (.cells #[.int .i64 0, .int .i64 0, .int .i64 0, .string ⟨#[]⟩, .string ⟨#[]⟩, .int .i64 0, .string ⟨#[]⟩, .int .i64 0, .bool false, .int .i64 0, .bool false, .slice none 0 0, .int .i64 0, .int .i64 0] 87)).heap[v2.heap.size + 1]? = some (.cells #[.int .i64 0, .int .i64 0, .int .i64 0, .string ⟨#[]⟩, .string ⟨#[]⟩, .int .i64 0, .string ⟨#[]⟩, .int .i64 0, .bool false, .int .i64 0, .bool false, .slice none 0 0, .int .i64 0, .int .i64 0] 87 (0, 0)) := by have := World.alloc_heap_new (v2.alloc (.cells #[.pointer (some ⟨x0, 0, none⟩), .pointer (some ⟨x1, 0, none⟩)] 83)) (.cells #[.int .i64 0, .int .i64 0, .int .i64 0, .string ⟨#[]⟩, .string ⟨#[]⟩, .int .i64 0, .string ⟨#[]⟩, .int .i64 0, .bool false, .int .i64 0, .bool false, .slice none 0 0, .int .i64 0, .int .i64 0] 87); simpa using this
      have hR : ((v2.alloc (.cells #[.pointer (some ⟨x0, 0, none⟩), .pointer (some ⟨x1, 0, none⟩)] 83)).alloc (.cells #[.int .i64 0, .int .i64 0, .int .i64 0, .string ⟨#[]⟩, .string ⟨#[]⟩, .int .i64 0, .string ⟨#[]⟩, .int .i64 0, .bool false, .int .i64 0, .bool false, .slice none 0 0, .int .i64 0, .int .i64 0] 87)).heap[v2.heap.size]? = some (.cells #[.pointer (some ⟨x0, 0, none⟩), .pointer (some ⟨x1, 0, none⟩)] 83 (0, 0)) := by rw [Below.heap_alloc _ _ _ (by simp)]; have := World.alloc_heap_new v2 (.cells #[.pointer (some ⟨x0, 0, none⟩), .pointer (some ⟨x1, 0, none⟩)] 83); simpa using this
      have lzB := (zge hW).1;have lzR := (zge hR).1;have hne : v2.heap.size ≠ v2.heap.size + 1 := by omega
      have hBl : w1.heap.size ≤ v2.heap.size + 1 := by omega
      rw [if_pos (by rfl)];refine wp_store_mid 87 _ _ rfl (v2.heap.size + 1) 0 #[.int .i64 9, .int .i64 pl, .int .i64 pc, .string ⟨#[]⟩, .string ⟨#[]⟩, .int .i64 0, .string ⟨#[]⟩, .int .i64 0, .bool false, .int .i64 0, .bool false, .slice (some ⟨v2.heap.size, 0, none⟩) 2 2, .int .i64 0, .int .i64 0] rfl rfl (there_block hW 14 (by simp)) infoN (by simp [Value.oneCell']) ?_;have hst : Stored (v2.heap.size + 1) #[.int .i64 9, .int .i64 pl, .int .i64 pc, .string ⟨#[]⟩, .string ⟨#[]⟩, .int .i64 0, .string ⟨#[]⟩, .int .i64 0, .bool false, .int .i64 0, .bool false, .slice (some ⟨v2.heap.size, 0, none⟩) 2 2, .int .i64 0, .int .i64 0] ((v2.alloc (.cells #[.pointer (some ⟨x0, 0, none⟩), .pointer (some ⟨x1, 0, none⟩)] 83)).alloc (.cells #[.int .i64 0, .int .i64 0, .int .i64 0, .string ⟨#[]⟩, .string ⟨#[]⟩, .int .i64 0, .string ⟨#[]⟩, .int .i64 0, .bool false, .int .i64 0, .bool false, .slice none 0 0, .int .i64 0, .int .i64 0] 87)) (((v2.alloc (.cells #[.pointer (some ⟨x0, 0, none⟩), .pointer (some ⟨x1, 0, none⟩)] 83)).alloc (.cells #[.int .i64 0, .int .i64 0, .int .i64 0, .string ⟨#[]⟩, .string ⟨#[]⟩, .int .i64 0, .string ⟨#[]⟩, .int .i64 0, .bool false, .int .i64 0, .bool false, .slice none 0 0, .int .i64 0, .int .i64 0] 87)).setCells (v2.heap.size + 1) 0 (#[.int .i64 9, .int .i64 pl, .int .i64 pc, .string ⟨#[]⟩, .string ⟨#[]⟩, .int .i64 0, .string ⟨#[]⟩, .int .i64 0, .bool false, .int .i64 0, .bool false, .slice (some ⟨v2.heap.size, 0, none⟩) 2 2, .int .i64 0, .int .i64 0] : Array Value).toList) := stored hW (setFrom14 _ _ _ _ _ _ _ _ _ _ _ _ _ _ _ _ _ _ _ _ _ _ _ _ _ _ _ _)
      generalize ((v2.alloc (.cells #[.pointer (some ⟨x0, 0, none⟩), .pointer (some ⟨x1, 0, none⟩)] 83)).alloc (.cells #[.int .i64 0, .int .i64 0, .int .i64 0, .string ⟨#[]⟩, .string ⟨#[]⟩, .int .i64 0, .string ⟨#[]⟩, .int .i64 0, .bool false, .int .i64 0, .bool false, .slice none 0 0, .int .i64 0, .int .i64 0] 87)).setCells (v2.heap.size + 1) 0 (#[.int .i64 9, .int .i64 pl, .int .i64 pc, .string ⟨#[]⟩, .string ⟨#[]⟩, .int .i64 0, .string ⟨#[]⟩, .int .i64 0, .bool false, .int .i64 0, .bool false, .slice (some ⟨v2.heap.size, 0, none⟩) 2 2, .int .i64 0, .int .i64 0] : Array Value).toList = w4 at hst ⊢
      have hsz4 := hst.size;have hsW : ((v2.alloc (.cells #[.pointer (some ⟨x0, 0, none⟩), .pointer (some ⟨x1, 0, none⟩)] 83)).alloc (.cells #[.int .i64 0, .int .i64 0, .int .i64 0, .string ⟨#[]⟩, .string ⟨#[]⟩, .int .i64 0, .string ⟨#[]⟩, .int .i64 0, .bool false, .int .i64 0, .bool false, .slice none 0 0, .int .i64 0, .int .i64 0] 87)).heap.size = v2.heap.size + 2 := by simp
      have HP4 : Hid (PAt w4 c s2) := (HPv2.out.below hBel).blocks (hst.rest _ (by omega)) (hst.rest _ (by omega));have HG4 : Hid (Chg c.PB w1 w4) := hst.chg (HGv2.out.trans (.of hBel)) (by omega);have HB4 : Hid (w4.heap[v2.heap.size + 1]? = some (.cells #[.int .i64 9, .int .i64 pl, .int .i64 pc, .string ⟨#[]⟩, .string ⟨#[]⟩, .int .i64 0, .string ⟨#[]⟩, .int .i64 0, .bool false, .int .i64 0, .bool false, .slice (some ⟨v2.heap.size, 0, none⟩) 2 2, .int .i64 0, .int .i64 0] 87 (0, 0))) := hst.blk;have HQ4 : Hid (PartsAt w4 w1.heap.size (v2.heap.size + 1) (.slice (some ⟨v2.heap.size, 0, none⟩) 2 2) [t0, t1] [x0, x1]) := PartsAt.two ((hst.rest _ hne).trans hR) (by omega) hne (HT0v2.out.keep (fun k hk => (hst.rest k (by have := hk.2; omega)).trans (hBel.block k (by have := hk.2; omega))) (fun k hk => ⟨hk.1, by have := hk.2; omega, by have := hk.2; omega, by have := hk.2; omega⟩)) (HT1v2.out.keep (fun k hk => (hst.rest k (by have := hk.2; omega)).trans (hBel.block k (by have := hk.2; omega))) (fun k hk => ⟨hk.1, by have := hk.2; omega, by have := hk.2; omega, by have := hk.2; omega⟩));have c0 : w4.cell? ⟨pb, 0, none⟩ = some (.int .i64 pl) := HG4.out.cell b0 nb;have c1 : w4.cell? ⟨pb, 1, none⟩ = some (.int .i64 pc) := HG4.out.cell b1 nb;clear hst hW hR hBel;refine hK.out _ _ (⟨c0, c1⟩) (fun hN => ?_);clear hK K hHeld;have hHeld := hN;clear hN
      try simp only [Act.put, zsa, zsz, zss]
      refine wpAnyH_done (by kernel_rfl) ?_ _;clear hHeld;exact HK.out _ _ _ _ _ _ _ w4 _ _ x0 x1 hBl HP4.out HG4.out HB4.out HQ4.out
   case g8 =>
    go_simp;refine hK.out _ _ (⟨by go_simp, by go_simp⟩) (fun hN => ?_);clear hK K hHeld;have hHeld := hN;clear hN
    try simp only [Act.put, zsa, zsz, zss]
    refine zr (r := 5) (o := ?o12) (by kernel_rfl) ?i12 (fun K hK => ?g12)
    case i12 => simp only [zga, zgs, zgz]; rfl
    case g12 =>
     go_simp;refine hK.out _ _ (⟨by go_simp, by go_simp⟩) (fun hN => ?_);clear hK K hHeld;have hHeld := hN;clear hN
     try simp only [Act.put, zsa, zsz, zss]
     refine wpAnyH_take (i := 6) (oi := ?o13) (v := ?v13) ?i13 (by kernel_rfl) (by kernel_rfl) (by kernel_rfl) ?q13 ?y13 hHeld ?_
     case i13 => simp only [zga, zgs, zgz]; rfl
     case q13 => exact fun _ _ _ h => h
     case y13 => refine .inl ⟨by rfl, ?_⟩; intro w' hSw; (try dsimp only at hSw); go_simp; try with_reducible rfl
     simp only [Act.put, zsa, zsz, zss];refine zr (r := 8) (o := ?o14) (by kernel_rfl) ?i14 (fun K hK => ?g14)
     case i14 => simp only [zga, zgs, zgz]; rfl
     case g14 =>
      have hBel : Below v2.heap.size v2 ((v2.alloc (.cells #[.int .i64 0, .int .i64 0, .int .i64 0, .string ⟨#[]⟩, .string ⟨#[]⟩, .int .i64 0, .string ⟨#[]⟩, .int .i64 0, .bool false, .int .i64 0, .bool false, .slice none 0 0, .int .i64 0, .int .i64 0] 87)).alloc (.cells #[.pointer (some ⟨x0, 0, none⟩), .pointer (some ⟨x1, 0, none⟩)] 83)) := by (repeat (first | with_reducible exact Below.refl _ _ | with_reducible assumption | with_reducible refine bel_alloc ?_ _ | with_reducible refine bel_set ?_ (by first | exact Nat.le_refl _ | (simp; done) | (simp; omega)) _ | with_reducible refine Below.drew ?_ | with_reducible refine bel_drewN ?_ _))
      have hW : ((v2.alloc (.cells #[.int .i64 0, .int .i64 0, .int .i64 0, .string ⟨#[]⟩, .string ⟨#[]⟩, .int .i64 0, .string ⟨#[]⟩, .int .i64 0, .bool false, .int .i64 0, .bool false, .slice none 0 0, .int .i64 0, .int .i64 0] 87)).alloc (.cells #[.pointer (some ⟨x0, 0, none⟩), .pointer (some ⟨x1, 0, none⟩)] 83)).heap[v2.heap.size]? = some (.cells #[.int .i64 0, .int .i64 0, .int .i64 0, .string ⟨#[]⟩, .string ⟨#[]⟩, .int .i64 0, .string ⟨#[]⟩, .int .i64 0, .bool false, .int .i64 0, .bool false, .slice none 0 0, .int .i64 0, .int .i64 0] 87 (0, 0)) := by rw [Below.heap_alloc _ _ _ (by simp)]; have := World.alloc_heap_new v2 (.cells #[.int .i64 0, .int .i64 0, .int .i64 0, .string ⟨#[]⟩, .string ⟨#[]⟩, .int .i64 0, .string ⟨#[]⟩, .int .i64 0, .bool false, .int .i64 0, .bool false, .slice none 0 0, .int .i64 0, .int .i64 0] 87); simpa using this
      have hR : ((v2.alloc (.cells #[.int .i64 0, .int .i64 0, .int .i64 0, .string ⟨#[]⟩, .string ⟨#[]⟩, .int .i64 0, .string ⟨#[]⟩, .int .i64 0, .bool false, .int .i64 0, .bool false, .slice none 0 0, .int .i64 0, .int .i64 0] 87)).alloc (.cells #[.pointer (some ⟨x0, 0, none⟩), .pointer (some ⟨x1, 0, none⟩)] 83)).heap[v2.heap.size + 1]? = some (.cells #[.pointer (some ⟨x0, 0, none⟩), .pointer (some ⟨x1, 0, none⟩)] 83 (0, 0)) := by have := World.alloc_heap_new (v2.alloc (.cells #[.int .i64 0, .int .i64 0, .int .i64 0, .string ⟨#[]⟩, .string ⟨#[]⟩, .int .i64 0, .string ⟨#[]⟩, .int .i64 0, .bool false, .int .i64 0, .bool false, .slice none 0 0, .int .i64 0, .int .i64 0] 87)) (.cells #[.pointer (some ⟨x0, 0, none⟩), .pointer (some ⟨x1, 0, none⟩)] 83); simpa using this
      have lzB := (zge hW).1;have lzR := (zge hR).1;have hne : v2.heap.size + 1 ≠ v2.heap.size := by omega
      have hBl : w1.heap.size ≤ v2.heap.size := by omega
      rw [if_pos (by rfl)];refine wp_store_mid 87 _ _ rfl (v2.heap.size) 0 #[.int .i64 9, .int .i64 pl, .int .i64 pc, .string ⟨#[]⟩, .string ⟨#[]⟩, .int .i64 0, .string ⟨#[]⟩, .int .i64 0, .bool false, .int .i64 0, .bool false, .slice (some ⟨v2.heap.size + 1, 0, none⟩) 2 2, .int .i64 0, .int .i64 0] rfl rfl (there_block hW 14 (by simp)) infoN (by simp [Value.oneCell']) ?_;have hst : Stored (v2.heap.size) #[.int .i64 9, .int .i64 pl, .int .i64 pc, .string ⟨#[]⟩, .string ⟨#[]⟩, .int .i64 0, .string ⟨#[]⟩, .int .i64 0, .bool false, .int .i64 0, .bool false, .slice (some ⟨v2.heap.size + 1, 0, none⟩) 2 2, .int .i64 0, .int .i64 0] ((v2.alloc (.cells #[.int .i64 0, .int .i64 0, .int .i64 0, .string ⟨#[]⟩, .string ⟨#[]⟩, .int .i64 0, .string ⟨#[]⟩, .int .i64 0, .bool false, .int .i64 0, .bool false, .slice none 0 0, .int .i64 0, .int .i64 0] 87)).alloc (.cells #[.pointer (some ⟨x0, 0, none⟩), .pointer (some ⟨x1, 0, none⟩)] 83)) (((v2.alloc (.cells #[.int .i64 0, .int .i64 0, .int .i64 0, .string ⟨#[]⟩, .string ⟨#[]⟩, .int .i64 0, .string ⟨#[]⟩, .int .i64 0, .bool false, .int .i64 0, .bool false, .slice none 0 0, .int .i64 0, .int .i64 0] 87)).alloc (.cells #[.pointer (some ⟨x0, 0, none⟩), .pointer (some ⟨x1, 0, none⟩)] 83)).setCells (v2.heap.size) 0 (#[.int .i64 9, .int .i64 pl, .int .i64 pc, .string ⟨#[]⟩, .string ⟨#[]⟩, .int .i64 0, .string ⟨#[]⟩, .int .i64 0, .bool false, .int .i64 0, .bool false, .slice (some ⟨v2.heap.size + 1, 0, none⟩) 2 2, .int .i64 0, .int .i64 0] : Array Value).toList) := stored hW (setFrom14 _ _ _ _ _ _ _ _ _ _ _ _ _ _ _ _ _ _ _ _ _ _ _ _ _ _ _ _)
      generalize ((v2.alloc (.cells #[.int .i64 0, .int .i64 0, .int .i64 0, .string ⟨#[]⟩, .string ⟨#[]⟩, .int .i64 0, .string ⟨#[]⟩, .int .i64 0, .bool false, .int .i64 0, .bool false, .slice none 0 0, .int .i64 0, .int .i64 0] 87)).alloc (.cells #[.pointer (some ⟨x0, 0, none⟩), .pointer (some ⟨x1, 0, none⟩)] 83)).setCells (v2.heap.size) 0 (#[.int .i64 9, .int .i64 pl, .int .i64 pc, .string ⟨#[]⟩, .string ⟨#[]⟩, .int .i64 0, .string ⟨#[]⟩, .int .i64 0, .bool false, .int .i64 0, .bool false, .slice (some ⟨v2.heap.size + 1, 0, none⟩) 2 2, .int .i64 0, .int .i64 0] : Array Value).toList = w4 at hst ⊢
      have hsz4 := hst.size;have hsW : ((v2.alloc (.cells #[.int .i64 0, .int .i64 0, .int .i64 0, .string ⟨#[]⟩, .string ⟨#[]⟩, .int .i64 0, .string ⟨#[]⟩, .int .i64 0, .bool false, .int .i64 0, .bool false, .slice none 0 0, .int .i64 0, .int .i64 0] 87)).alloc (.cells #[.pointer (some ⟨x0, 0, none⟩), .pointer (some ⟨x1, 0, none⟩)] 83)).heap.size = v2.heap.size + 2 := by simp
      have HP4 : Hid (PAt w4 c s2) := (HPv2.out.below hBel).blocks (hst.rest _ (by omega)) (hst.rest _ (by omega));have HG4 : Hid (Chg c.PB w1 w4) := hst.chg (HGv2.out.trans (.of hBel)) (by omega);have HB4 : Hid (w4.heap[v2.heap.size]? = some (.cells #[.int .i64 9, .int .i64 pl, .int .i64 pc, .string ⟨#[]⟩, .string ⟨#[]⟩, .int .i64 0, .string ⟨#[]⟩, .int .i64 0, .bool false, .int .i64 0, .bool false, .slice (some ⟨v2.heap.size + 1, 0, none⟩) 2 2, .int .i64 0, .int .i64 0] 87 (0, 0))) := hst.blk;have HQ4 : Hid (PartsAt w4 w1.heap.size (v2.heap.size) (.slice (some ⟨v2.heap.size + 1, 0, none⟩) 2 2) [t0, t1] [x0, x1]) := PartsAt.two ((hst.rest _ hne).trans hR) (by omega) hne (HT0v2.out.keep (fun k hk => (hst.rest k (by have := hk.2; omega)).trans (hBel.block k (by have := hk.2; omega))) (fun k hk => ⟨hk.1, by have := hk.2; omega, by have := hk.2; omega, by have := hk.2; omega⟩)) (HT1v2.out.keep (fun k hk => (hst.rest k (by have := hk.2; omega)).trans (hBel.block k (by have := hk.2; omega))) (fun k hk => ⟨hk.1, by have := hk.2; omega, by have := hk.2; omega, by have := hk.2; omega⟩));have c0 : w4.cell? ⟨pb, 0, none⟩ = some (.int .i64 pl) := HG4.out.cell b0 nb;have c1 : w4.cell? ⟨pb, 1, none⟩ = some (.int .i64 pc) := HG4.out.cell b1 nb;clear hst hW hR hBel;refine hK.out _ _ (⟨c0, c1⟩) (fun hN => ?_);clear hK K hHeld;have hHeld := hN;clear hN
      try simp only [Act.put, zsa, zsz, zss]
      refine wpAnyH_done (by kernel_rfl) ?_ _;clear hHeld;exact HK.out _ _ _ _ _ _ _ w4 _ _ x0 x1 hBl HP4.out HG4.out HB4.out HQ4.out
  case g6 =>
   go_simp;refine hK.out _ _ (⟨by go_simp, by go_simp⟩) (fun hN => ?_);clear hK K hHeld;have hHeld := hN;clear hN
   try simp only [Act.put, zsa, zsz, zss]
   refine zr (r := 4) (o := ?o15) (by kernel_rfl) ?i15 (fun K hK => ?g15)
   case i15 => simp only [zga, zgs, zgz]; rfl
   case g15 =>
    go_simp;have hBel : Below v1.heap.size v1 (v1.alloc (.cells #[.int .i64 0, .int .i64 0, .int .i64 0, .string ⟨#[]⟩, .string ⟨#[]⟩, .int .i64 0, .string ⟨#[]⟩, .int .i64 0, .bool false, .int .i64 0, .bool false, .slice none 0 0, .int .i64 0, .int .i64 0] 87)) := by (repeat (first | with_reducible exact Below.refl _ _ | with_reducible assumption | with_reducible refine bel_alloc ?_ _ | with_reducible refine bel_set ?_ (by first | exact Nat.le_refl _ | (simp; done) | (simp; omega)) _ | with_reducible refine Below.drew ?_ | with_reducible refine bel_drewN ?_ _))
    have hGd : Chg c.PB w1 (v1.alloc (.cells #[.int .i64 0, .int .i64 0, .int .i64 0, .string ⟨#[]⟩, .string ⟨#[]⟩, .int .i64 0, .string ⟨#[]⟩, .int .i64 0, .bool false, .int .i64 0, .bool false, .slice none 0 0, .int .i64 0, .int .i64 0] 87)) := HGv1.out.trans (.of hBel);have hzB : (v1.alloc (.cells #[.int .i64 0, .int .i64 0, .int .i64 0, .string ⟨#[]⟩, .string ⟨#[]⟩, .int .i64 0, .string ⟨#[]⟩, .int .i64 0, .bool false, .int .i64 0, .bool false, .slice none 0 0, .int .i64 0, .int .i64 0] 87)).heap[v1.heap.size]? = some (.cells #[.int .i64 0, .int .i64 0, .int .i64 0, .string ⟨#[]⟩, .string ⟨#[]⟩, .int .i64 0, .string ⟨#[]⟩, .int .i64 0, .bool false, .int .i64 0, .bool false, .slice none 0 0, .int .i64 0, .int .i64 0] 87 (0, 0)) := World.alloc_heap_new _ _;refine (HC1.out _ (HPv1.out.below hBel) hGd).mono ?_;rintro e v2 ⟨x1, rfl, ht, hp, hg⟩;have HPv2 : Hid (PAt v2 c s2) := hp;have HGv2 : Hid (Chg c.PB w1 v2) := hGd.trans hg;have hzv2 := hg.size;have hyv2 := hGd.size;have hqv2 := hBel.size;have HZv2 : Hid (v2.heap[v1.heap.size]? = some (.cells #[.int .i64 0, .int .i64 0, .int .i64 0, .string ⟨#[]⟩, .string ⟨#[]⟩, .int .i64 0, .string ⟨#[]⟩, .int .i64 0, .bool false, .int .i64 0, .bool false, .slice none 0 0, .int .i64 0, .int .i64 0] 87 (0, 0))) := (hg.block _ (zge hzB).1 (by omega)).trans hzB;have lzv2 := (zge hzB).1;have HT1v2 : Hid (TreeIn v2 (fun k => w1.heap.size ≤ k ∧ k < v2.heap.size ∧ k ≠ v1.heap.size) t1 x1) := ht.tree.within (fun k k1 k2 => ⟨by omega, k2, by omega⟩);have HT0v2 : Hid (TreeIn v2 (fun k => w1.heap.size ≤ k ∧ k < v2.heap.size ∧ k ≠ v1.heap.size) t0 x0) := HT0v1.out.keep (fun k hk => (hg.block k (by have := hk.2; omega) (by have := hk.1; omega)).trans (hBel.block k (by have := hk.2; omega))) (fun k hk => ⟨hk.1, by have := hk.2; omega, by have := hk.2; omega⟩);have c0 : v2.cell? ⟨pb, 0, none⟩ = some (.int .i64 pl) := HGv2.out.cell b0 nb;have c1 : v2.cell? ⟨pb, 1, none⟩ = some (.int .i64 pc) := HGv2.out.cell b1 nb;have lpv2 : pb < v2.heap.size := block_lt_of_cell c0;clear ht hp hg hBel hGd hzB;dsimp only;go_wp2_with fail
    refine hK.out _ _ (⟨c0, c1⟩) (fun hN => ?_);clear hK K hHeld;have hHeld := hN;clear hN
    try simp only [Act.put, zsa, zsz, zss]
    refine zr (r := 5) (o := ?o16) (by kernel_rfl) ?i16 (fun K hK => ?g16)
    case i16 => simp only [zga, zgs, zgz]; rfl
    case g16 =>
     go_simp;refine hK.out _ _ (⟨by go_simp, by go_simp⟩) (fun hN => ?_);clear hK K hHeld;have hHeld := hN;clear hN
     try simp only [Act.put, zsa, zsz, zss]
     refine wpAnyH_take (i := 6) (oi := ?o17) (v := ?v17) ?i17 (by kernel_rfl) (by kernel_rfl) (by kernel_rfl) ?q17 ?y17 hHeld ?_
     case i17 => simp only [zga, zgs, zgz]; rfl
     case q17 => exact fun _ _ _ h => h
     case y17 => refine .inl ⟨by rfl, ?_⟩; intro w' hSw; (try dsimp only at hSw); go_simp; try with_reducible rfl
     simp only [Act.put, zsa, zsz, zss];refine zr (r := 8) (o := ?o18) (by kernel_rfl) ?i18 (fun K hK => ?g18)
     case i18 => simp only [zga, zgs, zgz]; rfl
     case g18 =>
      have hBel : Below v2.heap.size v2 (v2.alloc (.cells #[.pointer (some ⟨x0, 0, none⟩), .pointer (some ⟨x1, 0, none⟩)] 83)) := by (repeat (first | with_reducible exact Below.refl _ _ | with_reducible assumption | with_reducible refine bel_alloc ?_ _ | with_reducible refine bel_set ?_ (by first | exact Nat.le_refl _ | (simp; done) | (simp; omega)) _ | with_reducible refine Below.drew ?_ | with_reducible refine bel_drewN ?_ _))
      have hW : (v2.alloc (.cells #[.pointer (some ⟨x0, 0, none⟩), .pointer (some ⟨x1, 0, none⟩)] 83)).heap[v1.heap.size]? = some (.cells #[.int .i64 0, .int .i64 0, .int .i64 0, .string ⟨#[]⟩, .string ⟨#[]⟩, .int .i64 0, .string ⟨#[]⟩, .int .i64 0, .bool false, .int .i64 0, .bool false, .slice none 0 0, .int .i64 0, .int .i64 0] 87 (0, 0)) := (hBel.block _ (zge HZv2.out).1).trans HZv2.out;have hR : (v2.alloc (.cells #[.pointer (some ⟨x0, 0, none⟩), .pointer (some ⟨x1, 0, none⟩)] 83)).heap[v2.heap.size]? = some (.cells #[.pointer (some ⟨x0, 0, none⟩), .pointer (some ⟨x1, 0, none⟩)] 83 (0, 0)) := by have := World.alloc_heap_new v2 (.cells #[.pointer (some ⟨x0, 0, none⟩), .pointer (some ⟨x1, 0, none⟩)] 83); simpa using this
      have lzB := (zge hW).1;have lzR := (zge hR).1;have hne : v2.heap.size ≠ v1.heap.size := by omega
      have hBl : w1.heap.size ≤ v1.heap.size := by omega
      rw [if_pos (by rfl)];refine wp_store_mid 87 _ _ rfl (v1.heap.size) 0 #[.int .i64 9, .int .i64 pl, .int .i64 pc, .string ⟨#[]⟩, .string ⟨#[]⟩, .int .i64 0, .string ⟨#[]⟩, .int .i64 0, .bool false, .int .i64 0, .bool false, .slice (some ⟨v2.heap.size, 0, none⟩) 2 2, .int .i64 0, .int .i64 0] rfl rfl (there_block hW 14 (by simp)) infoN (by simp [Value.oneCell']) ?_;have hst : Stored (v1.heap.size) #[.int .i64 9, .int .i64 pl, .int .i64 pc, .string ⟨#[]⟩, .string ⟨#[]⟩, .int .i64 0, .string ⟨#[]⟩, .int .i64 0, .bool false, .int .i64 0, .bool false, .slice (some ⟨v2.heap.size, 0, none⟩) 2 2, .int .i64 0, .int .i64 0] (v2.alloc (.cells #[.pointer (some ⟨x0, 0, none⟩), .pointer (some ⟨x1, 0, none⟩)] 83)) ((v2.alloc (.cells #[.pointer (some ⟨x0, 0, none⟩), .pointer (some ⟨x1, 0, none⟩)] 83)).setCells (v1.heap.size) 0 (#[.int .i64 9, .int .i64 pl, .int .i64 pc, .string ⟨#[]⟩, .string ⟨#[]⟩, .int .i64 0, .string ⟨#[]⟩, .int .i64 0, .bool false, .int .i64 0, .bool false, .slice (some ⟨v2.heap.size, 0, none⟩) 2 2, .int .i64 0, .int .i64 0] : Array Value).toList) := stored hW (setFrom14 _ _ _ _ _ _ _ _ _ _ _ _ _ _ _ _ _ _ _ _ _ _ _ _ _ _ _ _)
      generalize (v2.alloc (.cells #[.pointer (some ⟨x0, 0, none⟩), .pointer (some ⟨x1, 0, none⟩)] 83)).setCells (v1.heap.size) 0 (#[.int .i64 9, .int .i64 pl, .int .i64 pc, .string ⟨#[]⟩, .string ⟨#[]⟩, .int .i64 0, .string ⟨#[]⟩, .int .i64 0, .bool false, .int .i64 0, .bool false, .slice (some ⟨v2.heap.size, 0, none⟩) 2 2, .int .i64 0, .int .i64 0] : Array Value).toList = w4 at hst ⊢
      have hsz4 := hst.size;have hsW : (v2.alloc (.cells #[.pointer (some ⟨x0, 0, none⟩), .pointer (some ⟨x1, 0, none⟩)] 83)).heap.size = v2.heap.size + 1 := by simp
      have HP4 : Hid (PAt w4 c s2) := (HPv2.out.below hBel).blocks (hst.rest _ (by omega)) (hst.rest _ (by omega));have HG4 : Hid (Chg c.PB w1 w4) := hst.chg (HGv2.out.trans (.of hBel)) (by omega);have HB4 : Hid (w4.heap[v1.heap.size]? = some (.cells #[.int .i64 9, .int .i64 pl, .int .i64 pc, .string ⟨#[]⟩, .string ⟨#[]⟩, .int .i64 0, .string ⟨#[]⟩, .int .i64 0, .bool false, .int .i64 0, .bool false, .slice (some ⟨v2.heap.size, 0, none⟩) 2 2, .int .i64 0, .int .i64 0] 87 (0, 0))) := hst.blk;have HQ4 : Hid (PartsAt w4 w1.heap.size (v1.heap.size) (.slice (some ⟨v2.heap.size, 0, none⟩) 2 2) [t0, t1] [x0, x1]) := PartsAt.two ((hst.rest _ hne).trans hR) (by omega) hne (HT0v2.out.keep (fun k hk => (hst.rest k (by have := hk.2; omega)).trans (hBel.block k (by have := hk.2; omega))) (fun k hk => ⟨hk.1, by have := hk.2; omega, by have := hk.2; omega, by have := hk.2; omega⟩)) (HT1v2.out.keep (fun k hk => (hst.rest k (by have := hk.2; omega)).trans (hBel.block k (by have := hk.2; omega))) (fun k hk => ⟨hk.1, by have := hk.2; omega, by have := hk.2; omega, by have := hk.2; omega⟩));have c0 : w4.cell? ⟨pb, 0, none⟩ = some (.int .i64 pl) := HG4.out.cell b0 nb;have c1 : w4.cell? ⟨pb, 1, none⟩ = some (.int .i64 pc) := HG4.out.cell b1 nb;clear hst hW hR hBel;refine hK.out _ _ (⟨c0, c1⟩) (fun hN => ?_);clear hK K hHeld;have hHeld := hN;clear hN
      try simp only [Act.put, zsa, zsz, zss]
      refine wpAnyH_done (by kernel_rfl) ?_ _;clear hHeld;exact HK.out _ _ _ _ _ _ _ w4 _ _ x0 x1 hBl HP4.out HG4.out HB4.out HQ4.out
 case g4 =>
  go_simp;refine hK.out _ _ (⟨by go_simp, by go_simp⟩) (fun hN => ?_);clear hK K hHeld;have hHeld := hN;clear hN
  try simp only [Act.put, zsa, zsz, zss]
  refine zr (r := 2) (o := ?o19) (by kernel_rfl) ?i19 (fun K hK => ?g19)
  case i19 => simp only [zga, zgs, zgz]; rfl
  case g19 =>
   go_simp;have hBel : Below w1.heap.size w1 (w1.drew.alloc (.cells #[.int .i64 0, .int .i64 0, .int .i64 0, .string ⟨#[]⟩, .string ⟨#[]⟩, .int .i64 0, .string ⟨#[]⟩, .int .i64 0, .bool false, .int .i64 0, .bool false, .slice none 0 0, .int .i64 0, .int .i64 0] 87)) := by (repeat (first | with_reducible exact Below.refl _ _ | with_reducible assumption | with_reducible refine bel_alloc ?_ _ | with_reducible refine bel_set ?_ (by first | exact Nat.le_refl _ | (simp; done) | (simp; omega)) _ | with_reducible refine Below.drew ?_ | with_reducible refine bel_drewN ?_ _))
   have hGd : Chg c.PB w1 (w1.drew.alloc (.cells #[.int .i64 0, .int .i64 0, .int .i64 0, .string ⟨#[]⟩, .string ⟨#[]⟩, .int .i64 0, .string ⟨#[]⟩, .int .i64 0, .bool false, .int .i64 0, .bool false, .slice none 0 0, .int .i64 0, .int .i64 0] 87)) := HGw1.out.trans (.of hBel);have hzB : (w1.drew.alloc (.cells #[.int .i64 0, .int .i64 0, .int .i64 0, .string ⟨#[]⟩, .string ⟨#[]⟩, .int .i64 0, .string ⟨#[]⟩, .int .i64 0, .bool false, .int .i64 0, .bool false, .slice none 0 0, .int .i64 0, .int .i64 0] 87)).heap[w1.heap.size]? = some (.cells #[.int .i64 0, .int .i64 0, .int .i64 0, .string ⟨#[]⟩, .string ⟨#[]⟩, .int .i64 0, .string ⟨#[]⟩, .int .i64 0, .bool false, .int .i64 0, .bool false, .slice none 0 0, .int .i64 0, .int .i64 0] 87 (0, 0)) := World.alloc_heap_new _ _;refine (HC0.out _ (HPw1.out.below hBel) hGd).mono ?_;rintro e v1 ⟨x0, rfl, ht, hp, hg⟩;have HPv1 : Hid (PAt v1 c s1) := hp;have HGv1 : Hid (Chg c.PB w1 v1) := hGd.trans hg;have hzv1 := hg.size;have hyv1 := hGd.size;have hqv1 := hBel.size;have HZv1 : Hid (v1.heap[w1.heap.size]? = some (.cells #[.int .i64 0, .int .i64 0, .int .i64 0, .string ⟨#[]⟩, .string ⟨#[]⟩, .int .i64 0, .string ⟨#[]⟩, .int .i64 0, .bool false, .int .i64 0, .bool false, .slice none 0 0, .int .i64 0, .int .i64 0] 87 (0, 0))) := (hg.block _ (zge hzB).1 (by omega)).trans hzB;have lzv1 := (zge hzB).1;have HT0v1 : Hid (TreeIn v1 (fun k => w1.heap.size ≤ k ∧ k < v1.heap.size ∧ k ≠ w1.heap.size) t0 x0) := ht.tree.within (fun k k1 k2 => ⟨by omega, k2, by omega⟩);have c0 : v1.cell? ⟨pb, 0, none⟩ = some (.int .i64 pl) := HGv1.out.cell b0 nb;have c1 : v1.cell? ⟨pb, 1, none⟩ = some (.int .i64 pc) := HGv1.out.cell b1 nb;have lpv1 : pb < v1.heap.size := block_lt_of_cell c0;clear ht hp hg hBel hGd hzB;dsimp only;go_wp2_with fail
   refine hK.out _ _ (⟨c0, c1⟩) (fun hN => ?_);clear hK K hHeld;have hHeld := hN;clear hN
   try simp only [Act.put, zsa, zsz, zss]
   refine zr (r := 4) (o := ?o20) (by kernel_rfl) ?i20 (fun K hK => ?g20)
   case i20 => simp only [zga, zgs, zgz]; rfl
   case g20 =>
    go_simp;have hBel : Below v1.heap.size v1 v1 := by (repeat (first | with_reducible exact Below.refl _ _ | with_reducible assumption | with_reducible refine bel_alloc ?_ _ | with_reducible refine bel_set ?_ (by first | exact Nat.le_refl _ | (simp; done) | (simp; omega)) _ | with_reducible refine Below.drew ?_ | with_reducible refine bel_drewN ?_ _))
    have hGd : Chg c.PB w1 v1 := HGv1.out.trans (.of hBel);have hzB : v1.heap[w1.heap.size]? = some (.cells #[.int .i64 0, .int .i64 0, .int .i64 0, .string ⟨#[]⟩, .string ⟨#[]⟩, .int .i64 0, .string ⟨#[]⟩, .int .i64 0, .bool false, .int .i64 0, .bool false, .slice none 0 0, .int .i64 0, .int .i64 0] 87 (0, 0)) := (hBel.block _ (zge HZv1.out).1).trans HZv1.out;refine (HC1.out _ (HPv1.out.below hBel) hGd).mono ?_;rintro e v2 ⟨x1, rfl, ht, hp, hg⟩;have HPv2 : Hid (PAt v2 c s2) := hp;have HGv2 : Hid (Chg c.PB w1 v2) := hGd.trans hg;have hzv2 := hg.size;have hyv2 := hGd.size;have hqv2 := hBel.size;have HZv2 : Hid (v2.heap[w1.heap.size]? = some (.cells #[.int .i64 0, .int .i64 0, .int .i64 0, .string ⟨#[]⟩, .string ⟨#[]⟩, .int .i64 0, .string ⟨#[]⟩, .int .i64 0, .bool false, .int .i64 0, .bool false, .slice none 0 0, .int .i64 0, .int .i64 0] 87 (0, 0))) := (hg.block _ (zge hzB).1 (by omega)).trans hzB;have lzv2 := (zge hzB).1;have HT1v2 : Hid (TreeIn v2 (fun k => w1.heap.size ≤ k ∧ k < v2.heap.size ∧ k ≠ w1.heap.size) t1 x1) := ht.tree.within (fun k k1 k2 => ⟨by omega, k2, by omega⟩);have HT0v2 : Hid (TreeIn v2 (fun k => w1.heap.size ≤ k ∧ k < v2.heap.size ∧ k ≠ w1.heap.size) t0 x0) := HT0v1.out.keep (fun k hk => (hg.block k (by have := hk.2; omega) (by have := hk.1; omega)).trans (hBel.block k (by have := hk.2; omega))) (fun k hk => ⟨hk.1, by have := hk.2; omega, by have := hk.2; omega⟩);have c0 : v2.cell? ⟨pb, 0, none⟩ = some (.int .i64 pl) := HGv2.out.cell b0 nb;have c1 : v2.cell? ⟨pb, 1, none⟩ = some (.int .i64 pc) := HGv2.out.cell b1 nb;have lpv2 : pb < v2.heap.size := block_lt_of_cell c0;clear ht hp hg hBel hGd hzB;dsimp only;go_wp2_with fail
    refine hK.out _ _ (⟨c0, c1⟩) (fun hN => ?_);clear hK K hHeld;have hHeld := hN;clear hN
    try simp only [Act.put, zsa, zsz, zss]
    refine zr (r := 5) (o := ?o21) (by kernel_rfl) ?i21 (fun K hK => ?g21)
    case i21 => simp only [zga, zgs, zgz]; rfl
    case g21 =>
     go_simp;refine hK.out _ _ (⟨by go_simp, by go_simp⟩) (fun hN => ?_);clear hK K hHeld;have hHeld := hN;clear hN
     try simp only [Act.put, zsa, zsz, zss]
     refine wpAnyH_take (i := 6) (oi := ?o22) (v := ?v22) ?i22 (by kernel_rfl) (by kernel_rfl) (by kernel_rfl) ?q22 ?y22 hHeld ?_
     case i22 => simp only [zga, zgs, zgz]; rfl
     case q22 => exact fun _ _ _ h => h
     case y22 => refine .inl ⟨by rfl, ?_⟩; intro w' hSw; (try dsimp only at hSw); go_simp; try with_reducible rfl
     simp only [Act.put, zsa, zsz, zss];refine zr (r := 8) (o := ?o23) (by kernel_rfl) ?i23 (fun K hK => ?g23)
     case i23 => simp only [zga, zgs, zgz]; rfl
     case g23 =>
      have hBel : Below v2.heap.size v2 (v2.alloc (.cells #[.pointer (some ⟨x0, 0, none⟩), .pointer (some ⟨x1, 0, none⟩)] 83)) := by (repeat (first | with_reducible exact Below.refl _ _ | with_reducible assumption | with_reducible refine bel_alloc ?_ _ | with_reducible refine bel_set ?_ (by first | exact Nat.le_refl _ | (simp; done) | (simp; omega)) _ | with_reducible refine Below.drew ?_ | with_reducible refine bel_drewN ?_ _))
      have hW : (v2.alloc (.cells #[.pointer (some ⟨x0, 0, none⟩), .pointer (some ⟨x1, 0, none⟩)] 83)).heap[w1.heap.size]? = some (.cells #[.int .i64 0, .int .i64 0, .int .i64 0, .string ⟨#[]⟩, .string ⟨#[]⟩, .int .i64 0, .string ⟨#[]⟩, .int .i64 0, .bool false, .int .i64 0, .bool false, .slice none 0 0, .int .i64 0, .int .i64 0] 87 (0, 0)) := (hBel.block _ (zge HZv2.out).1).trans HZv2.out;have hR : (v2.alloc (.cells #[.pointer (some ⟨x0, 0, none⟩), .pointer (some ⟨x1, 0, none⟩)] 83)).heap[v2.heap.size]? = some (.cells #[.pointer (some ⟨x0, 0, none⟩), .pointer (some ⟨x1, 0, none⟩)] 83 (0, 0)) := by have := World.alloc_heap_new v2 (.cells #[.pointer (some ⟨x0, 0, none⟩), .pointer (some ⟨x1, 0, none⟩)] 83); simpa using this
      have lzB := (zge hW).1;have lzR := (zge hR).1;have hne : v2.heap.size ≠ w1.heap.size := by omega
      have hBl : w1.heap.size ≤ w1.heap.size := by omega
      rw [if_pos (by rfl)];refine wp_store_mid 87 _ _ rfl (w1.heap.size) 0 #[.int .i64 9, .int .i64 pl, .int .i64 pc, .string ⟨#[]⟩, .string ⟨#[]⟩, .int .i64 0, .string ⟨#[]⟩, .int .i64 0, .bool false, .int .i64 0, .bool false, .slice (some ⟨v2.heap.size, 0, none⟩) 2 2, .int .i64 0, .int .i64 0] rfl rfl (there_block hW 14 (by simp)) infoN (by simp [Value.oneCell']) ?_;have hst : Stored (w1.heap.size) #[.int .i64 9, .int .i64 pl, .int .i64 pc, .string ⟨#[]⟩, .string ⟨#[]⟩, .int .i64 0, .string ⟨#[]⟩, .int .i64 0, .bool false, .int .i64 0, .bool false, .slice (some ⟨v2.heap.size, 0, none⟩) 2 2, .int .i64 0, .int .i64 0] (v2.alloc (.cells #[.pointer (some ⟨x0, 0, none⟩), .pointer (some ⟨x1, 0, none⟩)] 83)) ((v2.alloc (.cells #[.pointer (some ⟨x0, 0, none⟩), .pointer (some ⟨x1, 0, none⟩)] 83)).setCells (w1.heap.size) 0 (#[.int .i64 9, .int .i64 pl, .int .i64 pc, .string ⟨#[]⟩, .string ⟨#[]⟩, .int .i64 0, .string ⟨#[]⟩, .int .i64 0, .bool false, .int .i64 0, .bool false, .slice (some ⟨v2.heap.size, 0, none⟩) 2 2, .int .i64 0, .int .i64 0] : Array Value).toList) := stored hW (setFrom14 _ _ _ _ _ _ _ _ _ _ _ _ _ _ _ _ _ _ _ _ _ _ _ _ _ _ _ _)
      generalize (v2.alloc (.cells #[.pointer (some ⟨x0, 0, none⟩), .pointer (some ⟨x1, 0, none⟩)] 83)).setCells (w1.heap.size) 0 (#[.int .i64 9, .int .i64 pl, .int .i64 pc, .string ⟨#[]⟩, .string ⟨#[]⟩, .int .i64 0, .string ⟨#[]⟩, .int .i64 0, .bool false, .int .i64 0, .bool false, .slice (some ⟨v2.heap.size, 0, none⟩) 2 2, .int .i64 0, .int .i64 0] : Array Value).toList = w4 at hst ⊢
      have hsz4 := hst.size;have hsW : (v2.alloc (.cells #[.pointer (some ⟨x0, 0, none⟩), .pointer (some ⟨x1, 0, none⟩)] 83)).heap.size = v2.heap.size + 1 := by simp
      have HP4 : Hid (PAt w4 c s2) := (HPv2.out.below hBel).blocks (hst.rest _ (by omega)) (hst.rest _ (by omega));have HG4 : Hid (Chg c.PB w1 w4) := hst.chg (HGv2.out.trans (.of hBel)) (by omega);have HB4 : Hid (w4.heap[w1.heap.size]? = some (.cells #[.int .i64 9, .int .i64 pl, .int .i64 pc, .string ⟨#[]⟩, .string ⟨#[]⟩, .int .i64 0, .string ⟨#[]⟩, .int .i64 0, .bool false, .int .i64 0, .bool false, .slice (some ⟨v2.heap.size, 0, none⟩) 2 2, .int .i64 0, .int .i64 0] 87 (0, 0))) := hst.blk;have HQ4 : Hid (PartsAt w4 w1.heap.size (w1.heap.size) (.slice (some ⟨v2.heap.size, 0, none⟩) 2 2) [t0, t1] [x0, x1]) := PartsAt.two ((hst.rest _ hne).trans hR) (by omega) hne (HT0v2.out.keep (fun k hk => (hst.rest k (by have := hk.2; omega)).trans (hBel.block k (by have := hk.2; omega))) (fun k hk => ⟨hk.1, by have := hk.2; omega, by have := hk.2; omega, by have := hk.2; omega⟩)) (HT1v2.out.keep (fun k hk => (hst.rest k (by have := hk.2; omega)).trans (hBel.block k (by have := hk.2; omega))) (fun k hk => ⟨hk.1, by have := hk.2; omega, by have := hk.2; omega, by have := hk.2; omega⟩));have c0 : w4.cell? ⟨pb, 0, none⟩ = some (.int .i64 pl) := HG4.out.cell b0 nb;have c1 : w4.cell? ⟨pb, 1, none⟩ = some (.int .i64 pc) := HG4.out.cell b1 nb;clear hst hW hR hBel;refine hK.out _ _ (⟨c0, c1⟩) (fun hN => ?_);clear hK K hHeld;have hHeld := hN;clear hN
      try simp only [Act.put, zsa, zsz, zss]
      refine wpAnyH_done (by kernel_rfl) ?_ _;clear hHeld;exact HK.out _ _ _ _ _ _ _ w4 _ _ x0 x1 hBl HP4.out HG4.out HB4.out HQ4.out
noncomputable def mk_whileR : Code := ((Tryz.f124.body.bind (regionU 11)).getD .skip)
theorem mk_while (pb : Nat) (pl pc : Int) (t0 t1 : Tr) (c : PC) (s0 s1 s2 : PSt) (tf : Tr) (sf : PSt) (w1 : World) (ds : List Deferred) (z1z z2z z4z z5z z6z z7z z8z z9z z10z z11z z12z z13z z14z z15z z16z z17z z18z z19z z20z z21z z22z z23z z24z z25z z26z z27z z28z z29z z30z z31z z32z z33z z34z z35z z36z z37z z38z z39z z40z z41z z42z z43z z44z z45z z46z z47z z48z z49z z50z z51z z52z z53z z54z z55z z56z z57z z58z z59z z60z z61z z62z z63z z64z z65z z66z z67z z68z z69z z70z z71z z72z : Value) (K : Act → World → Prop) (QQ : Exit → Act → World → Prop)
  (HP : Hid (PAt w1 c s0)) (b0 : w1.cell? ⟨pb, 0, none⟩ = some (.int .i64 pl)) (b1 : w1.cell? ⟨pb, 1, none⟩ = some (.int .i64 pc)) (nb : pb ≠ c.PB) (hgl : c.g < w1.heap.size)
  (HC0 : Hid (∀ W, PAt W c s0 → Chg c.PB w1 W → Calls prog 141 #[pp c] W (retE c (t0, s1) W))) (HC1 : Hid (∀ W, PAt W c s1 → Chg c.PB w1 W → Calls prog 124 #[pp c] W (retE c (t1, s2) W))) (HL : Hid (∀ W a cap bs, PAt W c s2 → Chg c.PB w1 W → RowAt W w1.heap.size W.heap.size a cap [t0, t1] bs → Calls prog 125 #[pp c, .agg #[.int .i64 10, .int .i64 pl, .int .i64 pc, .string ⟨#[]⟩, .string ⟨#[]⟩, .int .i64 0, .string ⟨#[]⟩, .int .i64 0, .bool false, .int .i64 0, .bool false, .slice a 2 cap, .int .i64 0, .int .i64 0]] W (retRow c sf tf w1.heap.size W)))
  (HK : Hid (∀ y31 y32 y33 y34 y35 y36 y37 y38 y39 W b, Top W w1.heap.size tf b → PAt W c sf → Chg c.PB w1 W → K ⟨#[.pointer (some ⟨c.PB, 0, none⟩), z1z, .pointer (some ⟨b, 0, none⟩), .pointer (some ⟨pb, 0, none⟩), z4z, z5z, z6z, z7z, z8z, z9z, z10z, z11z, z12z, z13z, z14z, z15z, z16z, z17z, z18z, z19z, z20z, z21z, z22z, z23z, z24z, z25z, z26z, z27z, z28z, z29z, z30z, y31, y32, y33, y34, y35, y36, y37, y38, y39, z40z, z41z, z42z, z43z, z44z, z45z, z46z, z47z, z48z, z49z, z50z, z51z, z52z, z53z, z54z, z55z, z56z, z57z, z58z, z59z, z60z, z61z, z62z, z63z, z64z, z65z, z66z, z67z, z68z, z69z, z70z, z71z, z72z], ds⟩ W)) :
  Code.wp prog mk_whileR (Exit.then K QQ) ⟨#[.pointer (some ⟨c.PB, 0, none⟩), z1z, z2z, .pointer (some ⟨pb, 0, none⟩), z4z, z5z, z6z, z7z, z8z, z9z, z10z, z11z, z12z, z13z, z14z, z15z, z16z, z17z, z18z, z19z, z20z, z21z, z22z, z23z, z24z, z25z, z26z, z27z, z28z, z29z, z30z, z31z, z32z, z33z, z34z, z35z, z36z, z37z, z38z, z39z, z40z, z41z, z42z, z43z, z44z, z45z, z46z, z47z, z48z, z49z, z50z, z51z, z52z, z53z, z54z, z55z, z56z, z57z, z58z, z59z, z60z, z61z, z62z, z63z, z64z, z65z, z66z, z67z, z68z, z69z, z70z, z71z, z72z], ds⟩ w1 := by
 have PL := HP.out.lt;have HPw1 : Hid (PAt w1 c s0) := HP;have HGw1 : Hid (Chg c.PB w1 w1) := Chg.refl _ _;have lpw1 : pb < w1.heap.size := block_lt_of_cell b0;refine wp_calm ?_
 conv => arg 2; whnf
 refine wp_region_held_drew (S := (fun w' => w'.cell? ⟨pb, 0, none⟩ = some (.int .i64 pl) ∧ w'.cell? ⟨pb, 1, none⟩ = some (.int .i64 pc))) (by kernel_rfl) (⟨b0, b1⟩) (fun hHeld => ?_);refine wpAnyH_take (i := 0) (oi := ?o0) (v := ?v0) ?i0 (by kernel_rfl) (by kernel_rfl) (by kernel_rfl) ?q0 ?y0 hHeld ?_
 case i0 => simp only [zga, zgs, zgz]; rfl
 case q0 => exact fun _ _ _ h => h
 case y0 => refine .inl ⟨by rfl, ?_⟩; intro w' hSw; (try dsimp only at hSw); go_simp; try with_reducible rfl
 simp only [Act.put, zsa, zsz, zss];refine wpAnyH_take (i := 1) (oi := ?o1) (v := ?v1) ?i1 (by kernel_rfl) (by kernel_rfl) (by kernel_rfl) ?q1 ?y1 hHeld ?_
 case i1 => simp only [zga, zgs, zgz]; rfl
 case q1 => exact fun _ _ _ h => h
 case y1 => refine .inl ⟨by rfl, ?_⟩; intro w' hSw; (try dsimp only at hSw); go_simp; try with_reducible rfl
 simp only [Act.put, zsa, zsz, zss];refine wpAnyH_take (i := 2) (oi := ?o2) (v := ?v2) ?i2 (by kernel_rfl) (by kernel_rfl) (by kernel_rfl) ?q2 ?y2 hHeld ?_
 case i2 => simp only [zga, zgs, zgz]; rfl
 case q2 => exact fun _ _ _ h => h
 case y2 => refine .inl ⟨by rfl, ?_⟩; intro w' hSw; (try dsimp only at hSw); go_simp; try with_reducible rfl
 simp only [Act.put, zsa, zsz, zss];refine wpAnyH_take (i := 4) (oi := ?o3) (v := ?v3) ?i3 (by kernel_rfl) (by kernel_rfl) (by kernel_rfl) ?q3 ?y3 hHeld ?_
 case i3 => simp only [zga, zgs, zgz]; rfl
 case q3 => exact fun _ _ _ h => h
 case y3 => refine .inl ⟨by rfl, ?_⟩; intro w' hSw; (try dsimp only at hSw); go_simp; try with_reducible rfl
 simp only [Act.put, zsa, zsz, zss];refine zr (r := 3) (o := ?o4) (by kernel_rfl) ?i4 (fun K hK => ?g4)
 case i4 => simp only [zga, zgs, zgz]; rfl
 case g4 =>
  go_simp;have hBel : Below w1.heap.size w1 w1.drew := by (repeat (first | with_reducible exact Below.refl _ _ | with_reducible assumption | with_reducible refine bel_alloc ?_ _ | with_reducible refine bel_set ?_ (by first | exact Nat.le_refl _ | (simp; done) | (simp; omega)) _ | with_reducible refine Below.drew ?_ | with_reducible refine bel_drewN ?_ _))
  have hGd : Chg c.PB w1 w1.drew := HGw1.out.trans (.of hBel);refine (HC0.out _ (HPw1.out.below hBel) hGd).mono ?_;rintro e v1 ⟨x0, rfl, ht, hp, hg⟩;have HPv1 : Hid (PAt v1 c s1) := hp;have HGv1 : Hid (Chg c.PB w1 v1) := hGd.trans hg;have hzv1 := hg.size;have hyv1 := hGd.size;have hqv1 := hBel.size;have HT0v1 : Hid (TreeIn v1 (fun k => w1.heap.size ≤ k ∧ k < v1.heap.size) t0 x0) := ht.tree.within (fun k k1 k2 => ⟨by omega, k2⟩);have c0 : v1.cell? ⟨pb, 0, none⟩ = some (.int .i64 pl) := HGv1.out.cell b0 nb;have c1 : v1.cell? ⟨pb, 1, none⟩ = some (.int .i64 pc) := HGv1.out.cell b1 nb;have lpv1 : pb < v1.heap.size := block_lt_of_cell c0;clear ht hp hg hBel hGd;dsimp only;go_wp2_with fail
  refine hK.out _ _ (⟨c0, c1⟩) (fun hN => ?_);clear hK K hHeld;have hHeld := hN;clear hN
  try simp only [Act.put, zsa, zsz, zss]
  refine zr (r := 5) (o := ?o5) (by kernel_rfl) ?i5 (fun K hK => ?g5)
  case i5 => simp only [zga, zgs, zgz]; rfl
  case g5 =>
   go_simp;have hBel : Below v1.heap.size v1 v1 := by (repeat (first | with_reducible exact Below.refl _ _ | with_reducible assumption | with_reducible refine bel_alloc ?_ _ | with_reducible refine bel_set ?_ (by first | exact Nat.le_refl _ | (simp; done) | (simp; omega)) _ | with_reducible refine Below.drew ?_ | with_reducible refine bel_drewN ?_ _))
   have hGd : Chg c.PB w1 v1 := HGv1.out.trans (.of hBel);refine (HC1.out _ (HPv1.out.below hBel) hGd).mono ?_;rintro e v2 ⟨x1, rfl, ht, hp, hg⟩;have HPv2 : Hid (PAt v2 c s2) := hp;have HGv2 : Hid (Chg c.PB w1 v2) := hGd.trans hg;have hzv2 := hg.size;have hyv2 := hGd.size;have hqv2 := hBel.size;have HT1v2 : Hid (TreeIn v2 (fun k => w1.heap.size ≤ k ∧ k < v2.heap.size) t1 x1) := ht.tree.within (fun k k1 k2 => ⟨by omega, k2⟩);have HT0v2 : Hid (TreeIn v2 (fun k => w1.heap.size ≤ k ∧ k < v2.heap.size) t0 x0) := HT0v1.out.keep (fun k hk => (hg.block k (by have := hk.2; omega) (by have := hk.1; omega)).trans (hBel.block k (by have := hk.2; omega))) (fun k hk => ⟨hk.1, by have := hk.2; omega⟩);have c0 : v2.cell? ⟨pb, 0, none⟩ = some (.int .i64 pl) := HGv2.out.cell b0 nb;have c1 : v2.cell? ⟨pb, 1, none⟩ = some (.int .i64 pc) := HGv2.out.cell b1 nb;have lpv2 : pb < v2.heap.size := block_lt_of_cell c0;clear ht hp hg hBel hGd;dsimp only;go_wp2_with fail
   refine hK.out _ _ (⟨c0, c1⟩) (fun hN => ?_);clear hK K hHeld;have hHeld := hN;clear hN
   try simp only [Act.put, zsa, zsz, zss]
   refine zr (r := 6) (o := ?o6) (by kernel_rfl) ?i6 (fun K hK => ?g6)
   case i6 => simp only [zga, zgs, zgz]; rfl
   case g6 =>
    go_simp;refine hK.out _ _ (⟨by go_simp, by go_simp⟩) (fun hN => ?_);clear hK K hHeld;have hHeld := hN;clear hN
    try simp only [Act.put, zsa, zsz, zss]
    refine wpAnyH_take (i := 7) (oi := ?o7) (v := ?v7) ?i7 (by kernel_rfl) (by kernel_rfl) (by kernel_rfl) ?q7 ?y7 hHeld ?_
    case i7 => simp only [zga, zgs, zgz]; rfl
    case q7 => exact fun _ _ _ h => h
    case y7 => refine .inl ⟨by rfl, ?_⟩; intro w' hSw; (try dsimp only at hSw); go_simp; try with_reducible rfl
    simp only [Act.put, zsa, zsz, zss];refine zr (r := 8) (o := ?o8) (by kernel_rfl) ?i8 (fun K hK => ?g8)
    case i8 => simp only [zga, zgs, zgz]; rfl
    case g8 =>
     go_simp;have hBel : Below v2.heap.size v2 (v2.alloc (.cells #[.pointer (some ⟨x0, 0, none⟩), .pointer (some ⟨x1, 0, none⟩)] 83)) := by (repeat (first | with_reducible exact Below.refl _ _ | with_reducible assumption | with_reducible refine bel_alloc ?_ _ | with_reducible refine bel_set ?_ (by first | exact Nat.le_refl _ | (simp; done) | (simp; omega)) _ | with_reducible refine Below.drew ?_ | with_reducible refine bel_drewN ?_ _))
     have hR : (v2.alloc (.cells #[.pointer (some ⟨x0, 0, none⟩), .pointer (some ⟨x1, 0, none⟩)] 83)).heap[v2.heap.size]? = some (.cells #[.pointer (some ⟨x0, 0, none⟩), .pointer (some ⟨x1, 0, none⟩)] 83 (0, 0)) := World.alloc_heap_new _ _;have hG9 : Chg c.PB w1 (v2.alloc (.cells #[.pointer (some ⟨x0, 0, none⟩), .pointer (some ⟨x1, 0, none⟩)] 83)) := HGv2.out.trans (.of hBel);have hsW : (v2.alloc (.cells #[.pointer (some ⟨x0, 0, none⟩), .pointer (some ⟨x1, 0, none⟩)] 83)).heap.size = v2.heap.size + 1 := by simp
     have hQ9 : PartsAt (v2.alloc (.cells #[.pointer (some ⟨x0, 0, none⟩), .pointer (some ⟨x1, 0, none⟩)] 83)) w1.heap.size ((v2.alloc (.cells #[.pointer (some ⟨x0, 0, none⟩), .pointer (some ⟨x1, 0, none⟩)] 83)).heap.size) (.slice (some ⟨v2.heap.size, 0, none⟩) 2 2) [t0, t1] [x0, x1] := PartsAt.two hR (by omega) (by omega) (HT0v2.out.keep (fun k hk => hBel.block k hk.2) (fun k hk => ⟨hk.1, by have := hk.2; omega, by have := hk.2; omega, by have := hk.2; omega⟩)) (HT1v2.out.keep (fun k hk => hBel.block k hk.2) (fun k hk => ⟨hk.1, by have := hk.2; omega, by have := hk.2; omega, by have := hk.2; omega⟩));obtain ⟨a9, cap9, e9, hr9⟩ := hQ9.row
     injection e9 with e91 e92 e93
     subst e91 e93;clear e92 hsW;refine (HL.out _ _ _ _ (HPv2.out.below hBel) hG9 hr9).mono ?_;rintro e w4 ⟨b, rfl, ht, hp, hg⟩;have HF4 : Hid (Top w4 w1.heap.size tf b ∧ PAt w4 c sf ∧ Chg c.PB w1 w4) := ⟨ht, hp, hG9.trans hg⟩;have c0 : w4.cell? ⟨pb, 0, none⟩ = some (.int .i64 pl) := HF4.out.2.2.cell b0 nb;have c1 : w4.cell? ⟨pb, 1, none⟩ = some (.int .i64 pc) := HF4.out.2.2.cell b1 nb;clear ht hp hg hBel hG9 hQ9 hr9;dsimp only;go_wp2_with fail
     refine hK.out _ _ (⟨c0, c1⟩) (fun hN => ?_);clear hK K hHeld;have hHeld := hN;clear hN
     try simp only [Act.put, zsa, zsz, zss]
     refine wpAnyH_take (i := 9) (oi := ?o9) (v := ?v9) ?i9 (by kernel_rfl) (by kernel_rfl) (by kernel_rfl) ?q9 ?y9 hHeld ?_
     case i9 => simp only [zga, zgs, zgz]; rfl
     case q9 => exact fun _ _ _ h => h
     case y9 => refine .inl ⟨by rfl, ?_⟩; intro w' hSw; (try dsimp only at hSw); go_simp; try with_reducible rfl
     simp only [Act.put, zsa, zsz, zss];refine wpAnyH_done (by kernel_rfl) ?_ _;clear hHeld;exact HK.out _ _ _ _ _ _ _ _ _ w4 b HF4.out.1 HF4.out.2.1 HF4.out.2.2
noncomputable def mk_outR : Code := ((Tryz.f124.body.bind (regionU 19)).getD .skip)
theorem mk_out (pb : Nat) (pl pc : Int) (t0 : Tr) (c : PC) (s0 s1 : PSt) (tf : Tr) (sf : PSt) (w1 : World) (ds : List Deferred) (z1z z2z z4z z5z z6z z7z z8z z9z z10z z11z z12z z13z z14z z15z z16z z17z z18z z19z z20z z21z z22z z23z z24z z25z z26z z27z z28z z29z z30z z31z z32z z33z z34z z35z z36z z37z z38z z39z z40z z41z z42z z43z z44z z45z z46z z47z z48z z49z z50z z51z z52z z53z z54z z55z z56z z57z z58z z59z z60z z61z z62z z63z z64z z65z z66z z67z z68z z69z z70z z71z z72z : Value) (K : Act → World → Prop) (QQ : Exit → Act → World → Prop)
  (HP : Hid (PAt w1 c s0)) (b0 : w1.cell? ⟨pb, 0, none⟩ = some (.int .i64 pl)) (b1 : w1.cell? ⟨pb, 1, none⟩ = some (.int .i64 pc)) (nb : pb ≠ c.PB) (hgl : c.g < w1.heap.size)
  (HC0 : Hid (∀ W, PAt W c s0 → Chg c.PB w1 W → Calls prog 141 #[pp c] W (retE c (t0, s1) W))) (HL : Hid (∀ W a cap bs, PAt W c s1 → Chg c.PB w1 W → RowAt W w1.heap.size W.heap.size a cap [t0] bs → Calls prog 137 #[pp c, .agg #[.int .i64 14, .int .i64 pl, .int .i64 pc, .string ⟨#[]⟩, .string ⟨#[]⟩, .int .i64 0, .string ⟨#[]⟩, .int .i64 0, .bool false, .int .i64 0, .bool false, .slice a 1 cap, .int .i64 0, .int .i64 0]] W (retRow c sf tf w1.heap.size W)))
  (HK : Hid (∀ y63 y64 y65 y66 y67 y68 y69 W b, Top W w1.heap.size tf b → PAt W c sf → Chg c.PB w1 W → K ⟨#[.pointer (some ⟨c.PB, 0, none⟩), z1z, .pointer (some ⟨b, 0, none⟩), .pointer (some ⟨pb, 0, none⟩), z4z, z5z, z6z, z7z, z8z, z9z, z10z, z11z, z12z, z13z, z14z, z15z, z16z, z17z, z18z, z19z, z20z, z21z, z22z, z23z, z24z, z25z, z26z, z27z, z28z, z29z, z30z, z31z, z32z, z33z, z34z, z35z, z36z, z37z, z38z, z39z, z40z, z41z, z42z, z43z, z44z, z45z, z46z, z47z, z48z, z49z, z50z, z51z, z52z, z53z, z54z, z55z, z56z, z57z, z58z, z59z, z60z, z61z, z62z, y63, y64, y65, y66, y67, y68, y69, z70z, z71z, z72z], ds⟩ W)) :
  Code.wp prog mk_outR (Exit.then K QQ) ⟨#[.pointer (some ⟨c.PB, 0, none⟩), z1z, z2z, .pointer (some ⟨pb, 0, none⟩), z4z, z5z, z6z, z7z, z8z, z9z, z10z, z11z, z12z, z13z, z14z, z15z, z16z, z17z, z18z, z19z, z20z, z21z, z22z, z23z, z24z, z25z, z26z, z27z, z28z, z29z, z30z, z31z, z32z, z33z, z34z, z35z, z36z, z37z, z38z, z39z, z40z, z41z, z42z, z43z, z44z, z45z, z46z, z47z, z48z, z49z, z50z, z51z, z52z, z53z, z54z, z55z, z56z, z57z, z58z, z59z, z60z, z61z, z62z, z63z, z64z, z65z, z66z, z67z, z68z, z69z, z70z, z71z, z72z], ds⟩ w1 := by
 have PL := HP.out.lt;have HPw1 : Hid (PAt w1 c s0) := HP;have HGw1 : Hid (Chg c.PB w1 w1) := Chg.refl _ _;have lpw1 : pb < w1.heap.size := block_lt_of_cell b0;refine wp_calm ?_
 conv => arg 2; whnf
 refine wp_region_held_drew (S := (fun w' => w'.cell? ⟨pb, 0, none⟩ = some (.int .i64 pl) ∧ w'.cell? ⟨pb, 1, none⟩ = some (.int .i64 pc))) (by kernel_rfl) (⟨b0, b1⟩) (fun hHeld => ?_);refine wpAnyH_take (i := 0) (oi := ?o0) (v := ?v0) ?i0 (by kernel_rfl) (by kernel_rfl) (by kernel_rfl) ?q0 ?y0 hHeld ?_
 case i0 => simp only [zga, zgs, zgz]; rfl
 case q0 => exact fun _ _ _ h => h
 case y0 => refine .inl ⟨by rfl, ?_⟩; intro w' hSw; (try dsimp only at hSw); go_simp; try with_reducible rfl
 simp only [Act.put, zsa, zsz, zss];refine wpAnyH_take (i := 1) (oi := ?o1) (v := ?v1) ?i1 (by kernel_rfl) (by kernel_rfl) (by kernel_rfl) ?q1 ?y1 hHeld ?_
 case i1 => simp only [zga, zgs, zgz]; rfl
 case q1 => exact fun _ _ _ h => h
 case y1 => refine .inl ⟨by rfl, ?_⟩; intro w' hSw; (try dsimp only at hSw); go_simp; try with_reducible rfl
 simp only [Act.put, zsa, zsz, zss];refine wpAnyH_take (i := 2) (oi := ?o2) (v := ?v2) ?i2 (by kernel_rfl) (by kernel_rfl) (by kernel_rfl) ?q2 ?y2 hHeld ?_
 case i2 => simp only [zga, zgs, zgz]; rfl
 case q2 => exact fun _ _ _ h => h
 case y2 => refine .inl ⟨by rfl, ?_⟩; intro w' hSw; (try dsimp only at hSw); go_simp; try with_reducible rfl
 simp only [Act.put, zsa, zsz, zss];refine zr (r := 3) (o := ?o3) (by kernel_rfl) ?i3 (fun K hK => ?g3)
 case i3 => simp only [zga, zgs, zgz]; rfl
 case g3 =>
  go_simp;have hBel : Below w1.heap.size w1 w1.drew := by (repeat (first | with_reducible exact Below.refl _ _ | with_reducible assumption | with_reducible refine bel_alloc ?_ _ | with_reducible refine bel_set ?_ (by first | exact Nat.le_refl _ | (simp; done) | (simp; omega)) _ | with_reducible refine Below.drew ?_ | with_reducible refine bel_drewN ?_ _))
  have hGd : Chg c.PB w1 w1.drew := HGw1.out.trans (.of hBel);refine (HC0.out _ (HPw1.out.below hBel) hGd).mono ?_;rintro e v1 ⟨x0, rfl, ht, hp, hg⟩;have HPv1 : Hid (PAt v1 c s1) := hp;have HGv1 : Hid (Chg c.PB w1 v1) := hGd.trans hg;have hzv1 := hg.size;have hyv1 := hGd.size;have hqv1 := hBel.size;have HT0v1 : Hid (TreeIn v1 (fun k => w1.heap.size ≤ k ∧ k < v1.heap.size) t0 x0) := ht.tree.within (fun k k1 k2 => ⟨by omega, k2⟩);have c0 : v1.cell? ⟨pb, 0, none⟩ = some (.int .i64 pl) := HGv1.out.cell b0 nb;have c1 : v1.cell? ⟨pb, 1, none⟩ = some (.int .i64 pc) := HGv1.out.cell b1 nb;have lpv1 : pb < v1.heap.size := block_lt_of_cell c0;clear ht hp hg hBel hGd;dsimp only;go_wp2_with fail
  refine hK.out _ _ (⟨c0, c1⟩) (fun hN => ?_);clear hK K hHeld;have hHeld := hN;clear hN
  try simp only [Act.put, zsa, zsz, zss]
  refine zr (r := 4) (o := ?o4) (by kernel_rfl) ?i4 (fun K hK => ?g4)
  case i4 => simp only [zga, zgs, zgz]; rfl
  case g4 =>
   go_simp;refine hK.out _ _ (⟨by go_simp, by go_simp⟩) (fun hN => ?_);clear hK K hHeld;have hHeld := hN;clear hN
   try simp only [Act.put, zsa, zsz, zss]
   refine wpAnyH_take (i := 5) (oi := ?o5) (v := ?v5) ?i5 (by kernel_rfl) (by kernel_rfl) (by kernel_rfl) ?q5 ?y5 hHeld ?_
   case i5 => simp only [zga, zgs, zgz]; rfl
   case q5 => exact fun _ _ _ h => h
   case y5 => refine .inl ⟨by rfl, ?_⟩; intro w' hSw; (try dsimp only at hSw); go_simp; try with_reducible rfl
   simp only [Act.put, zsa, zsz, zss];refine zr (r := 6) (o := ?o6) (by kernel_rfl) ?i6 (fun K hK => ?g6)
   case i6 => simp only [zga, zgs, zgz]; rfl
   case g6 =>
    go_simp;have hBel : Below v1.heap.size v1 (v1.alloc (.cells #[.pointer (some ⟨x0, 0, none⟩)] 83)) := by (repeat (first | with_reducible exact Below.refl _ _ | with_reducible assumption | with_reducible refine bel_alloc ?_ _ | with_reducible refine bel_set ?_ (by first | exact Nat.le_refl _ | (simp; done) | (simp; omega)) _ | with_reducible refine Below.drew ?_ | with_reducible refine bel_drewN ?_ _))
    have hR : (v1.alloc (.cells #[.pointer (some ⟨x0, 0, none⟩)] 83)).heap[v1.heap.size]? = some (.cells #[.pointer (some ⟨x0, 0, none⟩)] 83 (0, 0)) := World.alloc_heap_new _ _;have hG9 : Chg c.PB w1 (v1.alloc (.cells #[.pointer (some ⟨x0, 0, none⟩)] 83)) := HGv1.out.trans (.of hBel);have hsW : (v1.alloc (.cells #[.pointer (some ⟨x0, 0, none⟩)] 83)).heap.size = v1.heap.size + 1 := by simp
    have hQ9 : PartsAt (v1.alloc (.cells #[.pointer (some ⟨x0, 0, none⟩)] 83)) w1.heap.size ((v1.alloc (.cells #[.pointer (some ⟨x0, 0, none⟩)] 83)).heap.size) (.slice (some ⟨v1.heap.size, 0, none⟩) 1 1) [t0] [x0] := PartsAt.one (cap := 1) hR (by omega) (by omega) (HT0v1.out.keep (fun k hk => hBel.block k hk.2) (fun k hk => ⟨hk.1, by have := hk.2; omega, by have := hk.2; omega, by have := hk.2; omega⟩));obtain ⟨a9, cap9, e9, hr9⟩ := hQ9.row
    injection e9 with e91 e92 e93
    subst e91 e93;clear e92 hsW;refine (HL.out _ _ _ _ (HPv1.out.below hBel) hG9 hr9).mono ?_;rintro e w4 ⟨b, rfl, ht, hp, hg⟩;have HF4 : Hid (Top w4 w1.heap.size tf b ∧ PAt w4 c sf ∧ Chg c.PB w1 w4) := ⟨ht, hp, hG9.trans hg⟩;have c0 : w4.cell? ⟨pb, 0, none⟩ = some (.int .i64 pl) := HF4.out.2.2.cell b0 nb;have c1 : w4.cell? ⟨pb, 1, none⟩ = some (.int .i64 pc) := HF4.out.2.2.cell b1 nb;clear ht hp hg hBel hG9 hQ9 hr9;dsimp only;go_wp2_with fail
    refine hK.out _ _ (⟨c0, c1⟩) (fun hN => ?_);clear hK K hHeld;have hHeld := hN;clear hN
    try simp only [Act.put, zsa, zsz, zss]
    refine wpAnyH_take (i := 7) (oi := ?o7) (v := ?v7) ?i7 (by kernel_rfl) (by kernel_rfl) (by kernel_rfl) ?q7 ?y7 hHeld ?_
    case i7 => simp only [zga, zgs, zgz]; rfl
    case q7 => exact fun _ _ _ h => h
    case y7 => refine .inl ⟨by rfl, ?_⟩; intro w' hSw; (try dsimp only at hSw); go_simp; try with_reducible rfl
    simp only [Act.put, zsa, zsz, zss];refine wpAnyH_done (by kernel_rfl) ?_ _;clear hHeld;exact HK.out _ _ _ _ _ _ _ w4 b HF4.out.1 HF4.out.2.1 HF4.out.2.2
end Go.Proofs.YtlonbaefdffbeaaGreatDoor

