/- The words of two texts with a byte 10 between are those of the first one and those of the second one. -/
import Derived.Test.YtabkaiaajghafaaDoorLJoinM
namespace Go.Proofs.YtabkaiaajghafaaDoor
open Go.RowKit
set_option linter.unusedSimpArgs false
set_option linter.unusedVariables false

/-- c is a, a byte 10, b. -/
def Joined (a b c : ByteArray) : Prop := c.data.toList = a.data.toList ++ 10 :: b.data.toList
section
variable {a b c : ByteArray}
theorem Joined.size (h : Joined a b c) : c.size = a.size + 1 + b.size := by
  have h1 := congrArg List.length h
  simp only [List.length_append, List.length_cons, size_list] at h1
  omega
theorem Joined.dropR (h : Joined a b c) (i : Nat) : c.data.toList.drop (a.size + 1 + i) = b.data.toList.drop i := by
  rw [show c.data.toList = _ from h, List.drop_append, List.drop_of_length_le (by rw [size_list]; omega), size_list, show a.size + 1 + i - a.size = i + 1 by omega]
  simp
theorem byteAt_list (t : ByteArray) (i : Nat) : byteAt t i = ((t.data.toList)[i]?.map (fun b => (b.toNat : Int))).getD 0 := rfl
theorem Joined.byteR (h : Joined a b c) (i : Nat) : byteAt c (a.size + 1 + i) = byteAt b i := by
  rw [byteAt_list, byteAt_list, show c.data.toList = _ from h, List.getElem?_append_right (by rw [size_list]; omega), size_list, show a.size + 1 + i - a.size = i + 1 by omega, List.getElem?_cons_succ]
theorem Joined.byteN (h : Joined a b c) : byteAt c a.size = 10 := by
  rw [byteAt_list, show c.data.toList = _ from h, List.getElem?_append_right (by rw [size_list]; omega), size_list, Nat.sub_self]
  rfl
theorem Joined.byteL (h : Joined a b c) {i : Nat} (hi : i < a.size) : byteAt c i = byteAt a i := by
  rw [byteAt_list, byteAt_list, show c.data.toList = _ from h, List.getElem?_append_left (by rw [size_list]; omega)]
theorem Joined.preR (h : Joined a b c) (i : Nat) (p : List UInt8) : preAt c (a.size + 1 + i) p = preAt b i p := by
  unfold preAt
  rw [rest_list, rest_list, h.dropR]
theorem Joined.preL (h : Joined a b c) {i : Nat} (hi : i < a.size) (p q : UInt8) (hq : q ≠ 10) : preAt c i [p, q] = preAt a i [p, q] := by
  rw [Bool.eq_iff_iff, preAt_two, preAt_two, h.byteL hi, h.size]
  by_cases h1 : i + 1 < a.size
  · rw [h.byteL h1]
    constructor <;> rintro ⟨x, y, z⟩ <;> exact ⟨by omega, y, z⟩
  · have e : i + 1 = a.size := by omega
    rw [e, h.byteN]
    constructor
    · rintro ⟨_, _, z⟩
      exact absurd (UInt8.toNat_inj.1 (show q.toNat = (10 : UInt8).toNat by have : (10 : UInt8).toNat = 10 := rfl; omega)) hq
    · rintro ⟨x, _⟩; omega
theorem Joined.lineR (h : Joined a b c) : ∀ f i, lineTo c f (a.size + 1 + i) = a.size + 1 + lineTo b f i
  | 0, i => rfl
  | f + 1, i => by
    rw [lineTo_succ, lineTo_succ, h.byteR]
    split
    · rfl
    · exact h.lineR f (i + 1)
theorem Joined.remR (h : Joined a b c) : ∀ f i, remTo c f (a.size + 1 + i) = (remTo b f i).map (a.size + 1 + ·)
  | 0, i => rfl
  | f + 1, i => by
    rw [remTo_succ, remTo_succ, h.preR]
    split
    · rfl
    · exact h.remR f (i + 1)
theorem Joined.gapsR (h : Joined a b c) : ∀ f i, gaps c f (a.size + 1 + i) = (a.size + 1 + (gaps b f i).1, (gaps b f i).2)
  | 0, i => rfl
  | f + 1, i => by
    have hs := h.size
    rw [gaps_succ, gaps_succ]
    by_cases hi : i < b.size
    · rw [if_pos hi, if_pos (by omega), h.byteR, h.preR, h.preR]
      split
      · exact h.gapsR f (i + 1)
      · split
        · rw [show c.size - (a.size + 1 + i) = b.size - i by omega, h.lineR]
          exact h.gapsR f _
        · split
          · rw [show c.size - (a.size + 1 + i + 2) = b.size - (i + 2) by omega, show a.size + 1 + i + 2 = a.size + 1 + (i + 2) by omega, h.remR]
            cases remTo b (b.size - (i + 2)) (i + 2) with
            | none => rfl
            | some j => exact h.gapsR f j
          · rfl
    · rw [if_neg hi, if_neg (by omega)]
theorem Joined.wordR (h : Joined a b c) (j : Nat) : c.extract (a.size + 1 + j) c.size = b.extract j b.size := by
  apply bytes_ext
  rw [rest_list, rest_list, h.dropR]
theorem Joined.nextR (h : Joined a b c) (i : Nat) : nextW c (a.size + 1 + i) = (a.size + 1 + (nextW b i).1, (nextW b i).2) := by
  have hs := h.size
  unfold nextW
  rw [show c.size + 1 - (a.size + 1 + i) = b.size + 1 - i by omega, h.gapsR]
  simp only [h.wordR]
  have e : (a.size + 1 + (gaps b (b.size + 1 - i) i).1 < c.size) ↔ ((gaps b (b.size + 1 - i) i).1 < b.size) := by omega
  simp only [e]
def shiftW (s : Nat) (l : List (WW × Nat)) : List (WW × Nat) := l.map fun xj => (xj.1, s + xj.2)
theorem Joined.lexR (h : Joined a b c) : ∀ f i, lexF c f (a.size + 1 + i) = (shiftW (a.size + 1) (lexF b f i).1, a.size + 1 + (lexF b f i).2)
  | 0, i => rfl
  | f + 1, i => by
    have hn := h.nextR i
    cases e : nextW b i with
    | mk j o =>
      rw [e] at hn
      cases o with
      | none => rw [lexF_none c f _ _ hn, lexF_none b f i j e]; rfl
      | some x =>
        rw [lexF_some c f _ _ x hn, lexF_some b f i j x e]
        have := h.lexR f (j + x.s.size)
        rw [← Nat.add_assoc] at this
        rw [this]
        rfl
theorem Joined.lineL (h : Joined a b c) : ∀ d i f, a.size - i = d → i ≤ a.size → d < f → lineTo c f i = lineTo a d i
  | 0, i, f, hd, hi, hf => by
    obtain ⟨f, rfl⟩ : ∃ g, f = g + 1 := ⟨f - 1, by omega⟩
    have e : i = a.size := by omega
    rw [lineTo_succ, e, h.byteN, if_pos rfl]
    rfl
  | d + 1, i, f, hd, hi, hf => by
    obtain ⟨f, rfl⟩ : ∃ g, f = g + 1 := ⟨f - 1, by omega⟩
    rw [lineTo_succ, lineTo_succ, h.byteL (by omega)]
    split
    · rfl
    · exact h.lineL d (i + 1) f (by omega) (by omega) (by omega)
theorem Joined.remL (h : Joined a b c) : ∀ d i f j, remTo a d i = some j → i + d ≤ a.size → d ≤ f → remTo c f i = some j
  | 0, i, f, j, hr, hi, hf => by cases hr
  | d + 1, i, f, j, hr, hi, hf => by
    obtain ⟨f, rfl⟩ : ∃ g, f = g + 1 := ⟨f - 1, by omega⟩
    rw [remTo_succ] at hr ⊢
    rw [h.preL (by omega) 42 47 (by decide)]
    split at hr
    · rename_i hp; rw [if_pos hp]; exact hr
    · rename_i hp; rw [if_neg hp]; exact h.remL d (i + 1) f j hr (by omega) (by omega)
theorem Joined.gapsL (h : Joined a b c) : ∀ f i j F, i ≤ a.size → a.size < f + i → gaps a f i = (j, true) → c.size < F + i → gaps c F i = if j < a.size then (j, true) else gaps c (c.size + 1 - a.size) a.size
  | 0, i, j, F, hi, hf, hg, hF => by omega
  | f + 1, i, j, F, hi, hf, hg, hF => by
    have hs := h.size
    by_cases hn : i < a.size
    · obtain ⟨F, rfl⟩ : ∃ g, F = g + 1 := ⟨F - 1, by omega⟩
      rw [gaps_succ] at hg ⊢
      rw [if_pos hn] at hg
      rw [if_pos (by omega), h.byteL hn, h.preL hn 47 47 (by decide), h.preL hn 47 42 (by decide)]
      split at hg
      · rename_i hb; rw [if_pos hb]; exact h.gapsL f (i + 1) j F (by omega) (by omega) hg (by omega)
      · rename_i hb
        rw [if_neg hb]
        split at hg
        · rename_i hp
          rw [if_pos hp, h.lineL (a.size - i) i _ rfl hi (by omega)]
          have h1 := line_step a i hn hp
          have h2 := (lineTo_ge a (a.size - i) i).2
          exact h.gapsL f _ j F (by omega) (by omega) hg (by omega)
        · rename_i hp
          rw [if_neg hp]
          split at hg
          · rename_i hq
            rw [if_pos hq]
            have hq2 := ((preAt_two a i 47 42).1 hq).1
            cases hr : remTo a (a.size - (i + 2)) (i + 2) with
            | none => rw [hr] at hg; cases hg
            | some k =>
              rw [hr] at hg
              rw [h.remL _ _ (c.size - (i + 2)) k hr (by omega) (by omega)]
              have h1 := remTo_ge a _ _ _ hr
              exact h.gapsL f k j F (by omega) (by omega) hg (by omega)
          · rename_i hq
            rw [if_neg hq]
            cases hg
            rw [if_pos hn]
    · have e : i = a.size := by omega
      rw [gaps_past a _ i hn] at hg
      cases hg
      rw [if_neg hn, e]
      exact gaps_fuel c _ _ _ (by omega) (by omega)
theorem Joined.some (h : Joined a b c) (i j : Nat) (x : WW) (hi : i ≤ a.size) (hn : nextW a i = (j, Option.some x)) : nextW c i = (j, Option.some x) := by
  obtain ⟨h1, h2, h3⟩ := nextW_is a i j x hn
  have hs := h.size
  have hg := h.gapsL _ i j (c.size + 1 - i) hi (by omega) h2 (by omega)
  rw [if_pos h3] at hg
  refine next_word c i j x hg (by omega) ?_
  rw [← h1]
  cases hd : a.data.toList.drop j with
  | nil =>
    have := congrArg List.length hd
    simp only [List.length_drop, size_list, List.length_nil] at this
    omega
  | cons y R =>
    refine wordW_sep (x := 10) (Or.inl rfl) b.data.toList _ _ y R (by rw [rest_list, hd]) ?_
    rw [rest_list, show c.data.toList = _ from h, List.drop_append_of_le_length (by rw [size_list]; omega), hd]
theorem Joined.none (h : Joined a b c) (i : Nat) (hi : i ≤ a.size) (hn : nextW a i = (a.size, Option.none)) : nextW c i = nextW c (a.size + 1) := by
  have hs := h.size
  have hg : gaps a (a.size + 1 - i) i = (a.size, true) := by
    unfold nextW at hn
    injection hn with h1 _
    have h2 : (gaps a (a.size + 1 - i) i).2 = true := by
      cases hb : (gaps a (a.size + 1 - i) i).2 with
      | true => rfl
      | false =>
        have h3 : (gaps a (a.size + 1 - i) i).fst < a.size := gaps_false a _ i _ (Prod.ext rfl hb)
        omega
    exact Prod.ext h1 h2
  have hc := h.gapsL _ i _ (c.size + 1 - i) hi (by omega) hg (by omega)
  rw [if_neg (by omega), show c.size + 1 - a.size = (c.size - a.size) + 1 by omega, gaps_succ, if_pos (by omega), h.byteN, if_pos (by decide)] at hc
  unfold nextW
  rw [hc, show c.size + 1 - (a.size + 1) = c.size - a.size by omega]
theorem Joined.lexL (h : Joined a b c) : ∀ f i F, i ≤ a.size → a.size < f + i → (lexF a f i).2 = a.size → c.size < F + i → lexF c F i = ((lexF a f i).1 ++ shiftW (a.size + 1) (lexAll b).1, a.size + 1 + (lexAll b).2)
  | 0, i, F, hi, hf, hl, hF => by omega
  | f + 1, i, F, hi, hf, hl, hF => by
    have hs := h.size
    obtain ⟨F, rfl⟩ : ∃ g, F = g + 1 := ⟨F - 1, by omega⟩
    cases e : nextW a i with
    | mk j o =>
      cases o with
      | none =>
        rw [lexF_none a f i j e] at hl ⊢
        have hj : j = a.size := hl
        subst hj
        have h1 := h.none i hi e
        have h2 : lexF c (F + 1) i = lexF c (F + 1) (a.size + 1 + 0) := by
          rw [lexF, lexF, Nat.add_zero, h1]
        rw [h2, h.lexR, lexF_fuel b (F + 1) (b.size + 1) 0 (Nat.zero_le _) (by omega) (by omega)]
        rfl
      | some x =>
        have hw := nextW_word a i j x hi e
        rw [lexF_some a f i j x e] at hl ⊢
        have h1 := h.some i j x hi e
        rw [lexF_some c F i j x h1, h.lexL f (j + x.s.size) F hw.2.2 (by omega) hl (by omega)]
        rfl
theorem Joined.lex (h : Joined a b c) (ha : (lexAll a).2 = a.size) : lexAll c = ((lexAll a).1 ++ shiftW (a.size + 1) (lexAll b).1, a.size + 1 + (lexAll b).2) :=
  h.lexL (a.size + 1) 0 (c.size + 1) (Nat.zero_le _) (by omega) ha (by omega)
end
end Go.Proofs.YtabkaiaajghafaaDoor
