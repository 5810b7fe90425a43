/- Words with gaps between are cut again as the same words. -/
import Derived.Test.YtkbihcicnffjdaaDoorLJoinM
namespace Go.Proofs.YtkbihcicnffjdaaDoor
open Go.RowKit
set_option linter.unusedSimpArgs false
set_option linter.unusedVariables false

theorem marks_self : ∀ m ∈ mkList, markR m = some m := by decide
theorem marks_first : ∀ m ∈ mkList, nameB (byteAt m 0) = false ∧ blankB (byteAt m 0) = false ∧ (byteAt m 0 = 47 → m.size = 1) := by decide
theorem nameRun_full : ∀ l : List UInt8, nameRun (l.take (nameRun l)) = nameRun l
  | [] => rfl
  | b :: l => by
    rw [nameRun]
    split
    · rename_i hb
      rw [List.take_succ_cons, nameRun, if_pos hb, nameRun_full l]
    · simp [nameRun]
theorem runOf_list (r : ByteArray) : (runOf r).data.toList = r.data.toList.take (nameRun r.data.toList) := by
  unfold runOf
  rw [ext_list, List.drop_zero, Nat.sub_zero]
theorem runOf_self (r : ByteArray) : runOf (runOf r) = runOf r := by
  apply bytes_ext
  rw [runOf_list (runOf r), runOf_list r, nameRun_full, List.take_take, Nat.min_self]
theorem runOf_first (r : ByteArray) (h : nameB (byteAt r 0) = true) : byteAt (runOf r) 0 = byteAt r 0 := by
  have e : (runOf r).data.toList = r.data.toList.take (nameRun r.data.toList) := by
    unfold runOf
    rw [ext_list, List.drop_zero, Nat.sub_zero]
  have hp := nameRun_pos r h
  unfold byteAt
  rw [e, List.getElem?_take, if_pos hp]
theorem word_self (r : ByteArray) (x : WW) (h : wordW r = (x, true)) : wordW x.s = (x, true) := by
  unfold wordW at h
  by_cases hn : nameB (byteAt r 0) = true
  · rw [if_pos hn] at h
    have hf := runOf_first r hn
    by_cases hd : digitB (byteAt r 0) = true
    · rw [if_pos hd] at h
      have hs : x.s = runOf r := by have := numW_s (runOf r) (by rw [h]); rw [h] at this; exact this
      rw [hs]
      unfold wordW
      rw [hf, if_pos hn, if_pos hd, runOf_self]
      exact h
    · rw [if_neg hd] at h
      have hs : x.s = runOf r := by have := nameW_s (runOf r) (by rw [h]); rw [h] at this; exact this
      rw [hs]
      unfold wordW
      rw [hf, if_pos hn, if_neg hd, runOf_self]
      exact h
  · rw [if_neg hn] at h
    unfold markW at h
    cases e : markR r with
    | none => rw [e] at h; cases h
    | some m =>
      rw [e] at h
      cases h
      have hm : m ∈ mkList := by unfold markR at e; exact List.mem_of_find?_eq_some e
      show wordW m = _
      unfold wordW
      rw [(marks_first m hm).1, if_neg (by simp)]
      unfold markW
      rw [marks_self m hm]
/-- What a word begins with. -/
theorem word_first (x : WW) (h : wordW x.s = (x, true)) : blankB (byteAt x.s 0) = false ∧ (byteAt x.s 0 = 47 → x.s.size = 1) := by
  have h0 := h
  unfold wordW at h
  by_cases hn : nameB (byteAt x.s 0) = true
  · generalize byteAt x.s 0 = b at hn ⊢
    unfold nameB letterB digitB at hn
    unfold blankB
    simp at hn ⊢
    omega
  · rw [if_neg hn] at h
    unfold markW at h
    cases e : markR x.s with
    | none => rw [e] at h; cases h
    | some m =>
      rw [e] at h
      have hs : x.s = m := by have := congrArg (fun y => y.1.s) h; exact this.symm
      have hm : m ∈ mkList := by unfold markR at e; exact List.mem_of_find?_eq_some e
      rw [hs]
      exact (marks_first m hm).2
theorem lexF_self (t : ByteArray) : ∀ f i, ∀ xj ∈ (lexF t f i).1, wordW xj.1.s = (xj.1, true)
  | 0, i, xj, h => by simp [lexF] at h
  | f + 1, i, xj, h => by
    cases e : nextW t i with
    | mk j o =>
      cases o with
      | none => rw [lexF_none t f i j e] at h; simp at h
      | some x =>
        rw [lexF_some t f i j x e] at h
        simp only [List.mem_cons] at h
        rcases h with rfl | h
        · exact word_self _ _ (nextW_is t i j x e).1
        · exact lexF_self t f _ xj h
/-- The five gaps. -/
def gapL : Nat → List UInt8
  | 0 => [32]
  | 1 => [10]
  | 2 => [9, 32]
  | 3 => [32, 47, 42, 32, 120, 32, 42, 47]
  | _ => [32, 47, 47, 32, 121, 10]
/-- Words, each with a gap ahead. -/
def backL (d : Nat → Nat) : List (WW × Nat) → Nat → List UInt8
  | [], _ => []
  | xj :: l, i => gapL (d i) ++ (xj.1.s.data.toList ++ backL d l (i + 1))
theorem gapL_sep (n : Nat) : ∃ y B, gapL n = y :: B ∧ sepB y := by
  unfold gapL
  split
  · exact ⟨_, _, rfl, Or.inr (Or.inl rfl)⟩
  · exact ⟨_, _, rfl, Or.inl rfl⟩
  · exact ⟨_, _, rfl, Or.inr (Or.inr rfl)⟩
  · exact ⟨_, _, rfl, Or.inr (Or.inl rfl)⟩
  · exact ⟨_, _, rfl, Or.inr (Or.inl rfl)⟩
theorem backL_sep (d : Nat → Nat) (l : List (WW × Nat)) (i : Nat) : backL d l i = [] ∨ ∃ y B, backL d l i = y :: B ∧ sepB y := by
  cases l with
  | nil => exact Or.inl rfl
  | cons xj l =>
    obtain ⟨y, B, h1, h2⟩ := gapL_sep (d i)
    exact Or.inr ⟨y, _, by rw [backL, h1]; rfl, h2⟩
theorem byte_drop (S : ByteArray) (p k : Nat) (D : List UInt8) (h : S.data.toList.drop p = D) : byteAt S (p + k) = (D[k]?.map (fun b => (b.toNat : Int))).getD 0 := by
  unfold byteAt
  rw [← h, List.getElem?_drop]
theorem size_drop (S : ByteArray) (p : Nat) (D : List UInt8) (h : S.data.toList.drop p = D) (hp : p ≤ S.size) : S.size = p + D.length := by
  have := congrArg List.length h
  rw [List.length_drop, size_list] at this
  omega
/-- A blank is passed. -/
theorem gaps_blank (S : ByteArray) (f p : Nat) (hp : p < S.size) (hb : blankB (byteAt S p) = true) (hf : S.size < f + p) : gaps S f p = gaps S (S.size + 1 - (p + 1)) (p + 1) := by
  obtain ⟨f, rfl⟩ : ∃ g, f = g + 1 := ⟨f - 1, by omega⟩
  rw [gaps_succ, if_pos hp, if_pos hb]
  exact gaps_fuel S _ _ _ (by omega) (by omega)
theorem pre_true {S : ByteArray} {p : Nat} (x y : UInt8) (h : p + 2 ≤ S.size) (h0 : byteAt S p = (x.toNat : Int)) (h1 : byteAt S (p + 1) = (y.toNat : Int)) : preAt S p [x, y] = true := (preAt_two S p x y).2 ⟨h, h0, h1⟩
theorem pre_false0 {S : ByteArray} {p : Nat} (x y : UInt8) (h0 : ¬ byteAt S p = (x.toNat : Int)) : preAt S p [x, y] = false := by
  cases h : preAt S p [x, y] with
  | false => rfl
  | true => exact absurd ((preAt_two S p x y).1 h).2.1 h0
theorem pre_false1 {S : ByteArray} {p : Nat} (x y : UInt8) (h1 : ¬ byteAt S (p + 1) = (y.toNat : Int)) : preAt S p [x, y] = false := by
  cases h : preAt S p [x, y] with
  | false => rfl
  | true => exact absurd ((preAt_two S p x y).1 h).2.2 h1
theorem gap_pass (S : ByteArray) (n p f : Nat) (R : List UInt8) (h : S.data.toList.drop p = gapL n ++ R) (hp : p ≤ S.size) (hf : S.size < f + p) : gaps S f p = gaps S (S.size + 1 - (p + (gapL n).length)) (p + (gapL n).length) := by
  have hb := fun k => byte_drop S p k _ h
  have hs := size_drop S p _ h hp
  unfold gapL at h hb hs ⊢
  split at h
  · have b0 := hb 0
    simp at b0 hs
    exact gaps_blank S f p (by omega) (by rw [b0]; decide) hf
  · have b0 := hb 0
    simp at b0 hs
    exact gaps_blank S f p (by omega) (by rw [b0]; decide) hf
  · have b0 := hb 0
    have b1 := hb 1
    simp at b0 b1 hs
    rw [gaps_blank S f p (by omega) (by rw [b0]; decide) hf, gaps_blank S _ (p + 1) (by omega) (by rw [b1]; decide) (by omega)]
    rfl
  · have b0 := hb 0
    have b1 := hb 1
    have b2 := hb 2
    have b3 := hb 3
    have b4 := hb 4
    have b5 := hb 5
    have b6 := hb 6
    have b7 := hb 7
    simp at b0 b1 b2 b3 b4 b5 b6 b7 hs
    rw [gaps_blank S f p (by omega) (by rw [b0]; decide) hf]
    obtain ⟨g, hg⟩ : ∃ g, S.size + 1 - (p + 1) = g + 1 := ⟨S.size + 1 - (p + 1) - 1, by omega⟩
    obtain ⟨r, hr⟩ : ∃ r, S.size - (p + 1 + 2) = r + 4 := ⟨S.size - (p + 1 + 2) - 4, by omega⟩
    rw [hg, gaps_succ, if_pos (by omega), if_neg (by rw [b1]; decide), if_neg (by rw [pre_false1 47 47 (by rw [b2]; decide)]; simp), if_pos (pre_true 47 42 (by omega) (by rw [b1]; rfl) (by rw [b2]; rfl)), hr,
      remTo_succ, if_neg (by rw [pre_false0 42 47 (by rw [b3]; decide)]; simp), remTo_succ, if_neg (by rw [pre_false0 42 47 (by rw [b4]; decide)]; simp), remTo_succ, if_neg (by rw [pre_false0 42 47 (by rw [b5]; decide)]; simp),
      remTo_succ, if_pos (pre_true 42 47 (by omega) (by rw [b6]; rfl) (by rw [b7]; rfl))]
    exact gaps_fuel S _ _ _ (by omega) (by simp; omega)
  · have b0 := hb 0
    have b1 := hb 1
    have b2 := hb 2
    have b3 := hb 3
    have b4 := hb 4
    have b5 := hb 5
    simp at b0 b1 b2 b3 b4 b5 hs
    rw [gaps_blank S f p (by omega) (by rw [b0]; decide) hf]
    obtain ⟨g, hg⟩ : ∃ g, S.size + 1 - (p + 1) = g + 1 := ⟨S.size + 1 - (p + 1) - 1, by omega⟩
    obtain ⟨r, hr⟩ : ∃ r, S.size - (p + 1) = r + 5 := ⟨S.size - (p + 1) - 5, by omega⟩
    rw [hg, gaps_succ, if_pos (by omega), if_neg (by rw [b1]; decide), if_pos (pre_true 47 47 (by omega) (by rw [b1]; rfl) (by rw [b2]; rfl)), hr,
      lineTo_succ, if_neg (by rw [b1]; decide), lineTo_succ, if_neg (by rw [b2]; decide), lineTo_succ, if_neg (by rw [b3]; decide), lineTo_succ, if_neg (by rw [b4]; decide), lineTo_succ, if_pos (by rw [b5])]
    rw [gaps_blank S g (p + 1 + 1 + 1 + 1 + 1) (by omega) (by rw [b5]; decide) (by omega)]
    rfl
/-- At a word blanks and remarks end. -/
theorem gap_stop (S : ByteArray) (x : WW) (p f : Nat) (R : List UInt8) (hx : wordW x.s = (x, true)) (hpos : 0 < x.s.size) (h : S.data.toList.drop p = x.s.data.toList ++ R) (hR : R = [] ∨ ∃ y B, R = y :: B ∧ sepB y) (hp : p ≤ S.size) : gaps S f p = (p, true) := by
  have hs := size_drop S p _ h hp
  rw [List.length_append, size_list] at hs
  cases f with
  | zero => rfl
  | succ f =>
    have hw := word_first x hx
    have b0 : byteAt S p = byteAt x.s 0 := by
      have := byte_drop S p 0 _ h
      rw [Nat.add_zero, List.getElem?_append_left (by rw [size_list]; exact hpos)] at this
      exact this
    have hn : ∀ y : UInt8, y = 47 ∨ y = 42 → ¬ preAt S p [47, y] = true := fun y hy hp2 => by
      have h2 := (preAt_two S p 47 y).1 hp2
      have h1 : x.s.size = 1 := hw.2 (by rw [← b0, h2.2.1]; rfl)
      have b1 := byte_drop S p 1 _ h
      rw [List.getElem?_append_right (by rw [size_list]; omega), size_list, h1, Nat.sub_self] at b1
      rcases hR with rfl | ⟨z, B, rfl, hz⟩
      · simp at hs; omega
      · rw [List.getElem?_cons_zero] at b1
        have b2 : byteAt S (p + 1) = (z.toNat : Int) := b1
        rw [h2.2.2] at b2
        have b3 : y = z := UInt8.toNat_inj.1 (by omega)
        subst b3
        rcases hy with rfl | rfl <;> rcases hz with h | h | h <;> exact absurd h (by decide)
    rw [gaps_succ, if_pos (by omega), if_neg (by rw [b0, hw.1]; simp), if_neg (hn 47 (Or.inl rfl)), if_neg (hn 42 (Or.inr rfl))]
theorem back_next (d : Nat → Nat) (S : ByteArray) (xj : WW × Nat) (l : List (WW × Nat)) (i p : Nat) (hx : wordW xj.1.s = (xj.1, true)) (h : S.data.toList.drop p = backL d (xj :: l) i) (hp : p ≤ S.size) :
    nextW S p = (p + (gapL (d i)).length, some xj.1) ∧ S.data.toList.drop (p + (gapL (d i)).length + xj.1.s.size) = backL d l (i + 1) ∧ p + (gapL (d i)).length + xj.1.s.size ≤ S.size ∧ 0 < xj.1.s.size := by
  have hpos : 0 < xj.1.s.size := by have := wordW_size xj.1.s (by rw [hx]); rw [hx] at this; exact this.1
  have hs := size_drop S p _ h hp
  rw [backL] at h hs
  rw [List.length_append, List.length_append, size_list] at hs
  have h1 : S.data.toList.drop (p + (gapL (d i)).length) = xj.1.s.data.toList ++ backL d l (i + 1) := by
    rw [← List.drop_drop, h, List.drop_left]
  have h2 : S.data.toList.drop (p + (gapL (d i)).length + xj.1.s.size) = backL d l (i + 1) := by
    rw [← List.drop_drop, h1, ← size_list, List.drop_left]
  refine ⟨?_, h2, by omega, hpos⟩
  have hg := gap_pass S (d i) p (S.size + 1 - p) _ h hp (by omega)
  rw [gap_stop S xj.1 _ _ _ hx hpos h1 (backL_sep d l (i + 1)) (by omega)] at hg
  refine next_word S p _ xj.1 hg (by omega) ?_
  rw [← hx]
  rcases backL_sep d l (i + 1) with h3 | ⟨y, B, h3, hy⟩
  · congr 1
    apply bytes_ext
    rw [rest_list, h1, h3, List.append_nil]
  · cases hc : xj.1.s.data.toList with
    | nil =>
      have h5 : xj.1.s.size = 0 := by rw [← size_list, hc]; rfl
      omega
    | cons b R => exact wordW_sep hy B _ _ b R hc (by rw [rest_list, h1, h3, hc])
theorem back_lex (d : Nat → Nat) (S : ByteArray) : ∀ (l : List (WW × Nat)) (i p f : Nat), (∀ xj ∈ l, wordW xj.1.s = (xj.1, true)) → S.data.toList.drop p = backL d l i → p ≤ S.size → S.size < f + p →
    (lexF S f p).2 = S.size ∧ (lexF S f p).1.map Prod.fst = l.map Prod.fst
  | [], i, p, f, hx, h, hp, hf => by
    obtain ⟨f, rfl⟩ : ∃ g, f = g + 1 := ⟨f - 1, by omega⟩
    have hs := size_drop S p _ h hp
    have e : p = S.size := by simp [backL] at hs; omega
    have hn : nextW S p = (p, none) := next_end S p p (gaps_past S _ p (by omega)) (by omega)
    rw [lexF_none S f p p hn]
    exact ⟨e, rfl⟩
  | xj :: l, i, p, f, hx, h, hp, hf => by
    obtain ⟨f, rfl⟩ : ∃ g, f = g + 1 := ⟨f - 1, by omega⟩
    obtain ⟨h1, h2, h3, h4⟩ := back_next d S xj l i p (hx xj (by simp)) h hp
    have ih := back_lex d S l (i + 1) (p + (gapL (d i)).length + xj.1.s.size) f (fun y hy => hx y (by simp [hy])) h2 h3 (by omega)
    rw [lexF_some S f p _ xj.1 h1]
    exact ⟨ih.1, by simp only [List.map_cons]; rw [ih.2]⟩
end Go.Proofs.YtkbihcicnffjdaaDoor
