/- The lexer, step by step: as the document's own goes. -/
import Derived.Test.YtkbihcicnffjdaaDoorLRef4
namespace Go.Proofs.YtkbihcicnffjdaaDoor
open Go.RowKit
set_option linter.unusedSimpArgs false
set_option linter.unusedVariables false

/-- All words from i on, and where the lexer ends. -/
def Lx (t : ByteArray) (i : Nat) : List (WW × Nat) × Nat := lexF t (t.size + 1 - i) i
theorem Lx_all (t : ByteArray) : lexAll t = Lx t 0 := rfl
theorem Lx_none (t : ByteArray) (i j : Nat) (hi : i ≤ t.size) (h : nextW t i = (j, none)) : Lx t i = ([], j) := by
  unfold Lx
  rw [show t.size + 1 - i = (t.size - i) + 1 by omega]
  exact lexF_none t _ i j h
theorem Lx_some (t : ByteArray) (i j : Nat) (x : WW) (hi : i ≤ t.size) (h : nextW t i = (j, some x)) : Lx t i = ((x, j) :: (Lx t (j + x.s.size)).1, (Lx t (j + x.s.size)).2) := by
  have hw := nextW_word t i j x hi h
  unfold Lx
  rw [show t.size + 1 - i = (t.size - i) + 1 by omega, lexF_some t _ i j x h, lexF_fuel t (t.size - i) (t.size + 1 - (j + x.s.size)) (j + x.s.size) hw.2.2 (by omega) (by omega)]
theorem Lx_gap (t : ByteArray) (i i' : Nat) (hi : i ≤ i') (hi' : i' ≤ t.size) (h : gaps t (t.size + 1 - i) i = gaps t (t.size + 1 - i') i') : Lx t i = Lx t i' := by
  have hn : nextW t i = nextW t i' := by unfold nextW; rw [h]
  cases e : nextW t i' with
  | mk j o =>
    rw [e] at hn
    cases o with
    | none => rw [Lx_none t i j (by omega) hn, Lx_none t i' j hi' e]
    | some x => rw [Lx_some t i j x (by omega) hn, Lx_some t i' j x hi' e]
theorem Lx_blank (t : ByteArray) (i : Nat) (hi : i < t.size) (hb : blankB (byteAt t i) = true) : Lx t i = Lx t (i + 1) :=
  Lx_gap t i (i + 1) (by omega) (by omega) (gaps_blank t _ i hi hb (by omega))
theorem Lx_line (t : ByteArray) (i : Nat) (hi : i < t.size) (hb : ¬ blankB (byteAt t i) = true) (hp : preAt t i [47, 47] = true) : Lx t i = Lx t (lineTo t (t.size - i) i) := by
  have h1 := line_step t i hi hp
  have h2 := (lineTo_ge t (t.size - i) i).2
  refine Lx_gap t i _ (by omega) (by omega) ?_
  rw [show t.size + 1 - i = (t.size - i) + 1 by omega, gaps_succ, if_pos hi, if_neg hb, if_pos hp]
  exact gaps_fuel t _ _ _ (by omega) (by omega)
theorem Lx_rem (t : ByteArray) (i j : Nat) (hi : i < t.size) (hb : ¬ blankB (byteAt t i) = true) (hp : ¬ preAt t i [47, 47] = true) (hq : preAt t i [47, 42] = true) (hr : remTo t (t.size - (i + 2)) (i + 2) = some j) : Lx t i = Lx t j := by
  have h1 := remTo_ge t _ _ _ hr
  refine Lx_gap t i j (by omega) h1.2 ?_
  rw [show t.size + 1 - i = (t.size - i) + 1 by omega, gaps_succ, if_pos hi, if_neg hb, if_neg hp, if_pos hq, hr]
  exact gaps_fuel t _ _ _ (by omega) (by omega)
theorem Lx_open (t : ByteArray) (i : Nat) (hi : i < t.size) (hb : ¬ blankB (byteAt t i) = true) (hp : ¬ preAt t i [47, 47] = true) (hq : preAt t i [47, 42] = true) (hr : remTo t (t.size - (i + 2)) (i + 2) = none) : Lx t i = ([], i) := by
  refine Lx_none t i i (by omega) (next_gap t i i ?_)
  rw [show t.size + 1 - i = (t.size - i) + 1 by omega, gaps_succ, if_pos hi, if_neg hb, if_neg hp, if_pos hq, hr]
theorem gaps_here (t : ByteArray) (i : Nat) (hi : i < t.size) (hb : ¬ blankB (byteAt t i) = true) (hp : ¬ preAt t i [47, 47] = true) (hq : ¬ preAt t i [47, 42] = true) : gaps t (t.size + 1 - i) i = (i, true) := by
  rw [show t.size + 1 - i = (t.size - i) + 1 by omega, gaps_succ, if_pos hi, if_neg hb, if_neg hp, if_neg hq]
theorem Lx_word (t : ByteArray) (i : Nat) (x : WW) (hi : i < t.size) (hb : ¬ blankB (byteAt t i) = true) (hp : ¬ preAt t i [47, 47] = true) (hq : ¬ preAt t i [47, 42] = true) (hw : wordW (t.extract i t.size) = (x, true)) :
    Lx t i = ((x, i) :: (Lx t (i + x.s.size)).1, (Lx t (i + x.s.size)).2) := Lx_some t i i x (by omega) (next_word t i i x (gaps_here t i hi hb hp hq) hi hw)
theorem Lx_bad (t : ByteArray) (i : Nat) (x : WW) (hi : i < t.size) (hb : ¬ blankB (byteAt t i) = true) (hp : ¬ preAt t i [47, 47] = true) (hq : ¬ preAt t i [47, 42] = true) (hw : wordW (t.extract i t.size) = (x, false)) :
    Lx t i = ([], i) := Lx_none t i i (by omega) (next_bad t i i x (gaps_here t i hi hb hp hq) hw)
theorem Lx_end (t : ByteArray) : Lx t t.size = ([], t.size) := Lx_none t _ _ (Nat.le_refl _) (next_end t _ _ (gaps_past t _ _ (by omega)) (by omega))
/-- The place as the document counts it: the line, the line's first byte. -/
def PlaceIs (t : ByteArray) (i line frm : Nat) : Prop := line = (posOf t i).1 ∧ frm + (posOf t i).2 = i + 1
theorem PlaceIs.zero (t : ByteArray) : PlaceIs t 0 1 0 := ⟨rfl, rfl⟩
theorem PlaceIs.newline {t : ByteArray} {i line frm : Nat} (h : PlaceIs t i line frm) (hb : byteAt t i = 10) : PlaceIs t (i + 1) (line + 1) (i + 1) := by
  unfold PlaceIs
  rw [posOf_succ, if_pos hb]
  exact ⟨by rw [h.1], rfl⟩
theorem PlaceIs.other {t : ByteArray} {i line frm : Nat} (h : PlaceIs t i line frm) (hb : ¬ byteAt t i = 10) : PlaceIs t (i + 1) line frm := by
  unfold PlaceIs
  rw [posOf_succ, if_neg hb]
  exact ⟨h.1, by have := h.2; simp only; omega⟩
/-- The run of a name or a number, as the document counts it: from i on, n bytes. -/
theorem nameRun_at (t : ByteArray) : ∀ (l : List UInt8) (n : Nat), n ≤ nameRun l → n < l.length → (nameB ((l[n]?.getD 0).toNat : Int) = true ↔ n < nameRun l)
  | [], n, h, hl => by simp at hl
  | b :: l, 0, h, hl => by
    rw [nameRun]
    by_cases hb : nameB (b.toNat : Int) = true
    · rw [if_pos hb]; simp [hb]
    · rw [if_neg hb]; simp [hb]
  | b :: l, n + 1, h, hl => by
    rw [nameRun] at h ⊢
    by_cases hb : nameB (b.toNat : Int) = true
    · rw [if_pos hb] at h ⊢
      have := nameRun_at t l n (by omega) (by simpa using hl)
      simp only [List.getElem?_cons_succ]
      rw [this]
      omega
    · rw [if_neg hb] at h
      omega
end Go.Proofs.YtkbihcicnffjdaaDoor
