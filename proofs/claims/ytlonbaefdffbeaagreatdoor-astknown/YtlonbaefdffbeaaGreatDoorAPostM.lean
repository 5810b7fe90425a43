import Derived.Test.YtlonbaefdffbeaaGreatDoorARem
namespace Go.Proofs.YtlonbaefdffbeaaGreatDoor
open Go.ChangeShapes Go.WideShapes Go.ChangeAt Go.RowKit
set_option linter.unusedSimpArgs false
set_option linter.unusedVariables false

def idxD (x : Wd) : ND := ⟨23, x.pl, x.pc, ⟨#[]⟩, ⟨#[]⟩, 0, noSh, false, 0⟩
def memD (x y : Wd) : ND := ⟨24, x.pl, x.pc, y.s, x.s, 0, noSh, false, 0⟩
def idxF (ex : PSt → Tr × PSt) (c : PC) (t : Tr) (x : Wd) (s1 : PSt) : Tr × PSt := (growT (needF c (ex s1).2 ⟨#[93]⟩) (idxD x) [t, (ex s1).1], growS (needF c (ex s1).2 ⟨#[93]⟩) (idxD x) [t, (ex s1).1])
def memF (c : PC) (t : Tr) (x : Wd) (s1 : PSt) : Tr × PSt := (growT (needKF c s1 1).2 (memD x (needKF c s1 1).1) [t], growS (needKF c s1 1).2 (memD x (needKF c s1 1).1) [t])
def postLoop (ex : PSt → Tr × PSt) (c : PC) : Nat → Tr → PSt → Tr × PSt
 | 0, t, s => (t, s)
 | f + 1, t, s =>
  if (takeF c s ⟨#[91]⟩).1 = true then postLoop ex c f (idxF ex c t (wordF c s) (takeF c s ⟨#[91]⟩).2).1 (idxF ex c t (wordF c s) (takeF c s ⟨#[91]⟩).2).2
  else if (takeF c s ⟨#[46]⟩).1 = true then postLoop ex c f (memF c t (wordF c s) (takeF c s ⟨#[46]⟩).2).1 (memF c t (wordF c s) (takeF c s ⟨#[46]⟩).2).2
  else if (takeF c s ⟨#[45, 62]⟩).1 = true then postLoop ex c f (memF c t (wordF c s) (takeF c s ⟨#[45, 62]⟩).2).1 (memF c t (wordF c s) (takeF c s ⟨#[45, 62]⟩).2).2
  else (t, s)
def postOf (ex : PSt → Tr × PSt) (c : PC) (t : Tr) (s : PSt) : Tr × PSt := postLoop ex c (remF c s + 1) t s
def postF (ex : PSt → Tr × PSt) (c : PC) (s : PSt) : Tr × PSt := postOf ex c (primF ex c s).1 (primF ex c s).2
theorem rem_idx {ex : PSt → Tr × PSt} {c : PC} {r : Nat} (hm : Goes ex c r) (t : Tr) (x : Wd) (s1 : PSt) (hr : remF c s1 < r) : remF c (idxF ex c t x s1).2 ≤ remF c s1 :=
 Nat.le_trans (rem_grow _ _ _ _) (Nat.le_trans (rem_need _ _ _) (hm s1 hr))
theorem rem_mem (c : PC) (t : Tr) (x : Wd) (s1 : PSt) : remF c (memF c t x s1).2 ≤ remF c s1 :=
 Nat.le_trans (rem_grow _ _ _ _) (rem_needK _ _ _)
theorem postLoop_fuel {ex : PSt → Tr × PSt} {c : PC} {r : Nat} (hm : Goes ex c r) : ∀ (f f' : Nat) (t : Tr) (s : PSt), remF c s < f → remF c s < f' → remF c s ≤ r → postLoop ex c f t s = postLoop ex c f' t s
 | 0, _, _, _, h, _, _ => by omega
 | f + 1, 0, _, _, _, h, _ => by omega
 | f + 1, f' + 1, t, s, h1, h2, h3 => by
  rw [postLoop, postLoop]
  split
  ·rename_i hk
   have ht := (takeF_true (by decide) hk).2;have := rem_idx hm t (wordF c s) (takeF c s ⟨#[91]⟩).2 (by omega);exact postLoop_fuel hm f f' _ _ (by omega) (by omega) (by omega)
  ·split
   ·rename_i hk
    have ht := (takeF_true (by decide) hk).2;have := rem_mem c t (wordF c s) (takeF c s ⟨#[46]⟩).2;exact postLoop_fuel hm f f' _ _ (by omega) (by omega) (by omega)
   ·split
    ·rename_i hk
     have ht := (takeF_true (by decide) hk).2;have := rem_mem c t (wordF c s) (takeF c s ⟨#[45, 62]⟩).2;exact postLoop_fuel hm f f' _ _ (by omega) (by omega) (by omega)
    ·rfl
theorem postOf_idx {ex : PSt → Tr × PSt} {c : PC} {r : Nat} (hm : Goes ex c r) {s : PSt} {t : Tr} (hr : remF c s ≤ r) (hk : (takeF c s ⟨#[91]⟩).1 = true) : postOf ex c t s = postOf ex c (idxF ex c t (wordF c s) (takeF c s ⟨#[91]⟩).2).1 (idxF ex c t (wordF c s) (takeF c s ⟨#[91]⟩).2).2 := by
 have ht := (takeF_true (by decide) hk).2;have := rem_idx hm t (wordF c s) (takeF c s ⟨#[91]⟩).2 (by omega);unfold postOf;rw [postLoop, if_pos hk];exact postLoop_fuel hm _ _ _ _ (by omega) (by omega) (by omega)
theorem postOf_dot {ex : PSt → Tr × PSt} {c : PC} {r : Nat} (hm : Goes ex c r) {s : PSt} {t : Tr} (hr : remF c s ≤ r) (hk1 : (takeF c s ⟨#[91]⟩).1 = false) (hk : (takeF c s ⟨#[46]⟩).1 = true) : postOf ex c t s = postOf ex c (memF c t (wordF c s) (takeF c s ⟨#[46]⟩).2).1 (memF c t (wordF c s) (takeF c s ⟨#[46]⟩).2).2 := by
 have ht := (takeF_true (by decide) hk).2;have := rem_mem c t (wordF c s) (takeF c s ⟨#[46]⟩).2;unfold postOf;rw [postLoop, if_neg (by rw [hk1]; decide), if_pos hk];exact postLoop_fuel hm _ _ _ _ (by omega) (by omega) (by omega)
theorem postOf_arr {ex : PSt → Tr × PSt} {c : PC} {r : Nat} (hm : Goes ex c r) {s : PSt} {t : Tr} (hr : remF c s ≤ r) (hk1 : (takeF c s ⟨#[91]⟩).1 = false) (hk2 : (takeF c s ⟨#[46]⟩).1 = false) (hk : (takeF c s ⟨#[45, 62]⟩).1 = true) : postOf ex c t s = postOf ex c (memF c t (wordF c s) (takeF c s ⟨#[45, 62]⟩).2).1 (memF c t (wordF c s) (takeF c s ⟨#[45, 62]⟩).2).2 := by
 have ht := (takeF_true (by decide) hk).2;have := rem_mem c t (wordF c s) (takeF c s ⟨#[45, 62]⟩).2;unfold postOf;rw [postLoop, if_neg (by rw [hk1]; decide), if_neg (by rw [hk2]; decide), if_pos hk];exact postLoop_fuel hm _ _ _ _ (by omega) (by omega) (by omega)
theorem postOf_end {ex : PSt → Tr × PSt} {c : PC} {s : PSt} {t : Tr} (hk1 : (takeF c s ⟨#[91]⟩).1 = false) (hk2 : (takeF c s ⟨#[46]⟩).1 = false) (hk : (takeF c s ⟨#[45, 62]⟩).1 = false) : postOf ex c t s = (t, s) := by
 unfold postOf;rw [postLoop, if_neg (by rw [hk1]; decide), if_neg (by rw [hk2]; decide), if_neg (by rw [hk]; decide)]
theorem rem_postLoop {ex : PSt → Tr × PSt} {c : PC} {r : Nat} (hm : Goes ex c r) : ∀ (f : Nat) (t : Tr) (s : PSt), remF c s ≤ r → remF c (postLoop ex c f t s).2 ≤ remF c s
 | 0, _, _, _ => Nat.le_refl _
 | f + 1, t, s, h => by
  rw [postLoop]
  split
  ·rename_i hk
   have ht := (takeF_true (by decide) hk).2;have := rem_idx hm t (wordF c s) (takeF c s ⟨#[91]⟩).2 (by omega);have := rem_postLoop hm f (idxF ex c t (wordF c s) (takeF c s ⟨#[91]⟩).2).1 _ (show remF c (idxF ex c t (wordF c s) (takeF c s ⟨#[91]⟩).2).2 ≤ r by omega)
   omega
  ·split
   ·rename_i hk
    have ht := (takeF_true (by decide) hk).2;have := rem_mem c t (wordF c s) (takeF c s ⟨#[46]⟩).2;have := rem_postLoop hm f (memF c t (wordF c s) (takeF c s ⟨#[46]⟩).2).1 _ (show remF c (memF c t (wordF c s) (takeF c s ⟨#[46]⟩).2).2 ≤ r by omega)
    omega
   ·split
    ·rename_i hk
     have ht := (takeF_true (by decide) hk).2;have := rem_mem c t (wordF c s) (takeF c s ⟨#[45, 62]⟩).2;have := rem_postLoop hm f (memF c t (wordF c s) (takeF c s ⟨#[45, 62]⟩).2).1 _ (show remF c (memF c t (wordF c s) (takeF c s ⟨#[45, 62]⟩).2).2 ≤ r by omega)
     omega
    ·exact Nat.le_refl _
theorem rem_post {ex : PSt → Tr × PSt} {c : PC} {r : Nat} (hm : Goes ex c r) (s : PSt) (hr : remF c s ≤ r) : remF c (postF ex c s).2 ≤ remF c s := by
 have h1 := rem_prim hm s hr;have := rem_postLoop hm (remF c (primF ex c s).2 + 1) (primF ex c s).1 (primF ex c s).2 (by omega);unfold postF postOf
 omega
theorem row_one {W : World} {lo hi g b : Nat} {t : Tr} (hg : W.heap[g]? = some (.cells #[.pointer (some ⟨b, 0, none⟩)] 83 (0, 0))) (ht : TreeAt W lo hi t b) (h1 : lo ≤ g) (h2 : hi ≤ g) : RowAt W lo W.heap.size (some ⟨g, 0, none⟩) 1 [t] [b] := by
 have hl := (zge hg).1;refine ⟨by simp, fun _ => ⟨g, rfl, h1, hl, fun i x hx => ?_⟩, rfl, fun i t' x ht' hx => ?_⟩
 ·have hi : i = 0 := by have := (List.getElem?_eq_some_iff.1 hx).1; simp at this; omega
  subst hi;simp at hx;subst hx;exact heap_cell hg (by simp)
 ·have hi : i = 0 := by have := (List.getElem?_eq_some_iff.1 hx).1; simp at this; omega
  subst hi;simp at hx ht';subst hx ht';exact ht.mono (Nat.le_refl _) (by omega)
theorem own_one {W : World} {lo g b : Nat} (hg : W.heap[g]? = some (.cells #[.pointer (some ⟨b, 0, none⟩)] 83 (0, 0))) (h1 : lo ≤ g) : W.ownsRow lo 83 1 (.slice (some ⟨g, 0, none⟩) 1 1) 1 [.pointer (some ⟨b, 0, none⟩)] :=
 ⟨rfl, .inr ⟨g, 1, #[.pointer (some ⟨b, 0, none⟩)], rfl, h1, hg, Nat.le_refl _, by unfold maxLen; omega, rfl, rfl⟩⟩
theorem row_two {W W' : World} {lo hi lo2 hi2 B g cap b x : Nat} {t tx : Tr} (hown : W.ownsRow lo 83 1 (.slice (some ⟨g, 0, none⟩) 2 cap) 2 [.pointer (some ⟨b, 0, none⟩), .pointer (some ⟨x, 0, none⟩)]) (h1 : TreeAt W lo hi t b) (h2 : TreeAt W lo2 hi2 tx x) (e1 : hi ≤ B) (e2 : B < lo2) (e3 : lo ≤ lo2) (e4 : hi2 ≤ W.heap.size) (e6 : hi ≤ W.heap.size) (e5 : g ≠ B) (hs : W'.heap.size = W.heap.size) (hk : ∀ k, k ≠ B → W'.heap[k]? = W.heap[k]?) : RowAt W' lo W'.heap.size (some ⟨g, 0, none⟩) cap [t, tx] [b, x] := by
 rcases hown.2 with ⟨e, _⟩ | ⟨g', cap', cur, q1, q2, q3, q4, q5, q6, q7⟩
 ·cases e
 ·injection q1 with a1 a2 a3
  injection a1 with a1
  injection a1 with a1
  subst a1 a3;have hl := (zge q3).1;refine ⟨q4, fun _ => ⟨g, rfl, q2, by omega, fun i y hy => ?_⟩, rfl, fun i t' y ht' hy => ?_⟩
  ·have hi : i < 2 := by have := (List.getElem?_eq_some_iff.1 hy).1; simpa using this
   refine (World.cell?_of_block (hk g e5)).trans (heap_cell q3 ?_);have e : ([b, x].map (fun y => Value.pointer (some ⟨y, 0, none⟩)))[i]? = some (.pointer (some ⟨y, 0, none⟩)) := by rw [List.getElem?_map, hy]; rfl
   rw [show [b, x].map (fun y => Value.pointer (some ⟨y, 0, none⟩)) = [.pointer (some ⟨b, 0, none⟩), .pointer (some ⟨x, 0, none⟩)] from rfl, ← q7, List.getElem?_take, if_pos (by omega)] at e;simpa using e
  ·have hi : i = 0 ∨ i = 1 := by have := (List.getElem?_eq_some_iff.1 hy).1; simp at this; omega
   rcases hi with rfl | rfl
   ·simp at hy ht'
    subst hy ht';exact (h1.keep (fun k k1 k2 => hk k (by omega))).mono (Nat.le_refl _) (by omega)
   ·simp at hy ht'
    subst hy ht';exact (h2.keep (fun k k1 k2 => hk k (by omega))).mono e3 (by omega)
end Go.Proofs.YtlonbaefdffbeaaGreatDoor
