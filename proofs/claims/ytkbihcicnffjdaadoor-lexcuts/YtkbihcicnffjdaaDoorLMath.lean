/- Places rise; the words stand in the text in their order. -/
import Derived.Test.YtkbihcicnffjdaaDoorLFrame
namespace Go.Proofs.YtkbihcicnffjdaaDoor
open Go.RowKit
set_option linter.unusedSimpArgs false
set_option linter.unusedVariables false

theorem posOf_succ (t : ByteArray) (i : Nat) : posOf t (i + 1) = if byteAt t i = 10 then ((posOf t i).1 + 1, 1) else ((posOf t i).1, (posOf t i).2 + 1) := rfl
theorem posOf_lt (t : ByteArray) (i : Nat) : ∀ j, i < j → (posOf t i).1 < (posOf t j).1 ∨ ((posOf t i).1 = (posOf t j).1 ∧ (posOf t i).2 < (posOf t j).2)
  | 0, h => by omega
  | j + 1, h => by
    rw [posOf_succ]
    rcases Nat.lt_or_ge i j with h1 | h1
    · have := posOf_lt t i j h1
      split <;> simp only <;> omega
    · obtain rfl : i = j := by omega
      split
      · exact Or.inl (Nat.lt_succ_self _)
      · exact Or.inr ⟨rfl, Nat.lt_succ_self _⟩
theorem posOf_inj {t : ByteArray} {i j : Nat} (h : posOf t i = posOf t j) : i = j := by
  rcases Nat.lt_trichotomy i j with h1 | h1 | h1
  · have := posOf_lt t i j h1; rw [h] at this; omega
  · exact h1
  · have := posOf_lt t j i h1; rw [h] at this; omega
theorem ext_list (t : ByteArray) (a b : Nat) : (t.extract a b).data.toList = (t.data.toList.drop a).take (b - a) := by
  rw [ByteArray.data_extract, Array.toList_extract, List.extract_eq_take_drop]
theorem size_list (t : ByteArray) : t.data.toList.length = t.size := rfl
theorem wordW_text (r : ByteArray) (h : (wordW r).2 = true) : (wordW r).1.s = r.extract 0 (wordW r).1.s.size := by
  unfold wordW at h ⊢
  by_cases hn : nameB (byteAt r 0) = true
  · rw [if_pos hn] at h ⊢
    by_cases hd : digitB (byteAt r 0) = true
    · rw [if_pos hd] at h ⊢
      rw [numW_s _ h, runOf_size]
      rfl
    · rw [if_neg hd] at h ⊢
      rw [nameW_s _ h, runOf_size]
      rfl
  · rw [if_neg hn] at h ⊢
    unfold markW at h ⊢
    cases e : markR r with
    | none => rw [e] at h; cases h
    | some m =>
      unfold markR at e
      have hp : Lib.hasPrefix r.data.toList m.data.toList = true := by have := List.find?_some e; exact this
      have hq : m.data.toList <+: r.data.toList := List.isPrefixOf_iff_prefix.1 hp
      obtain ⟨l, hl⟩ := hq
      apply bytes_ext
      rw [ext_list, List.drop_zero, Nat.sub_zero, ← hl]
      exact (List.take_left' rfl).symm
/-- Words in their order from b on, each as it stands in the text. -/
def LOk (t : ByteArray) : Nat → List (WW × Nat) → Prop
  | _, [] => True
  | b, (x, j) :: l => b ≤ j ∧ 0 < x.s.size ∧ j + x.s.size ≤ t.size ∧ x.s = t.extract j (j + x.s.size) ∧ LOk t (j + x.s.size) l
theorem nextW_is (t : ByteArray) (i j : Nat) (x : WW) (h : nextW t i = (j, some x)) : wordW (t.extract j t.size) = (x, true) ∧ gaps t (t.size + 1 - i) i = (j, true) ∧ j < t.size := by
  unfold nextW at h
  injection h with h1 h2
  split at h2
  · rename_i hc
    injection h2 with h2
    rw [h1] at h2 hc
    exact ⟨Prod.ext h2 hc.2.2, Prod.ext h1 hc.1, hc.2.1⟩
  · cases h2
theorem lexF_ok (t : ByteArray) : ∀ f i, i ≤ t.size → LOk t i (lexF t f i).1
  | 0, i, h => trivial
  | f + 1, i, h => by
    cases e : nextW t i with
    | mk j o =>
      cases o with
      | none => rw [lexF_none t f i j e]; trivial
      | some x =>
        have hw := nextW_word t i j x h e
        have hx := (nextW_is t i j x e).1
        have ht := wordW_text (t.extract j t.size) (by rw [hx])
        rw [hx] at ht
        rw [lexF_some t f i j x e]
        refine ⟨hw.1, hw.2.1, hw.2.2, ?_, lexF_ok t f _ hw.2.2⟩
        have ht' : x.s = (t.extract j t.size).extract 0 x.s.size := ht
        refine ht'.trans (bytes_ext ?_)
        rw [ext_list, ext_list, ext_list, List.drop_zero, List.take_take]
        congr 1
        omega
theorem lexAll_ok (t : ByteArray) : LOk t 0 (lexAll t).1 := lexF_ok t _ 0 (Nat.zero_le _)
theorem LOk.tail {t : ByteArray} : ∀ {pre : List (WW × Nat)} {b : Nat} {suf : List (WW × Nat)}, LOk t b (pre ++ suf) → ∃ c, LOk t c suf
  | [], b, suf, h => ⟨b, h⟩
  | (x, j) :: pre, b, suf, h => LOk.tail (pre := pre) h.2.2.2.2
end Go.Proofs.YtkbihcicnffjdaaDoor
