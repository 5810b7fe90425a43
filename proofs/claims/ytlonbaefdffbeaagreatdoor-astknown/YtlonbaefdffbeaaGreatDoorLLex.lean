import Derived.Test.YtlonbaefdffbeaaGreatDoorLWord3
namespace Go.Proofs.YtlonbaefdffbeaaGreatDoor
open Go.RowKit
set_option linter.unusedSimpArgs false
set_option linter.unusedVariables false

theorem lineTo_ge (t : ByteArray) : ∀ f i, i ≤ lineTo t f i ∧ lineTo t f i ≤ i + f
 | 0, i => ⟨Nat.le_refl _, Nat.le_refl _⟩
 | f + 1, i => by
  rw [lineTo_succ]
  split
  ·omega
  ·have := lineTo_ge t f (i + 1); omega
theorem remTo_ge (t : ByteArray) : ∀ f i j, remTo t f i = some j → i + 2 ≤ j ∧ j ≤ t.size
 | 0, i, j, h => by cases h
 | f + 1, i, j, h => by
  rw [remTo_succ] at h
  split at h
  ·rename_i hp
   have := (preAt_two t i 42 47).1 hp
   cases h
   omega
  ·have := remTo_ge t f (i + 1) j h; omega
theorem gaps_ge (t : ByteArray) : ∀ f i, i ≤ t.size → i ≤ (gaps t f i).1 ∧ (gaps t f i).1 ≤ t.size
 | 0, i, h => by rw [gaps]; exact ⟨Nat.le_refl _, h⟩
 | f + 1, i, h => by
  rw [gaps]
  split
  ·split
   ·have := gaps_ge t f (i + 1) (by omega); omega
   ·split
    ·have h1 := lineTo_ge t (t.size - i) i
     have := gaps_ge t f (lineTo t (t.size - i) i) (by omega)
     omega
    ·split
     ·split
      ·exact ⟨Nat.le_refl _, h⟩
      ·rename_i j hj
       have h1 := remTo_ge t _ _ _ hj;have := gaps_ge t f j h1.2
       omega
     ·exact ⟨Nat.le_refl _, h⟩
  ·exact ⟨Nat.le_refl _, h⟩
theorem mkList_pos : ∀ m ∈ mkList, 0 < m.size := by decide
theorem hasPrefix_size {s p : ByteArray} (h : Lib.hasPrefix s.data.toList p.data.toList = true) : p.size ≤ s.size := by
 rw [Lib.size_eq, Lib.size_eq];exact (List.isPrefixOf_iff_prefix.1 h).length_le
theorem markW_size (t : ByteArray) (h : (markW t).2 = true) : 0 < (markW t).1.s.size ∧ (markW t).1.s.size ≤ t.size := by
 unfold markW at h ⊢
 cases e : markR t with
 | none => rw [e] at h; cases h
 | some m =>
  unfold markR at e;have hp : Lib.hasPrefix t.data.toList m.data.toList = true := by have := List.find?_some e; exact this
  exact ⟨mkList_pos m (List.mem_of_find?_eq_some e), hasPrefix_size hp⟩
theorem numOr_s (run : ByteArray) (o : Option Int) (h : (numOr run o).2 = true) : (numOr run o).1.s = run := by
 cases o with
 | none => cases h
 | some n => rfl
theorem numW_s (run : ByteArray) (h : (numW run).2 = true) : (numW run).1.s = run := by
 unfold numW at h ⊢
 split at h
 ·rename_i h1
  rw [if_pos h1]
  split at h
  ·cases h
  ·rename_i h2; rw [if_neg h2]; exact numOr_s _ _ h
 ·rename_i h1
  rw [if_neg h1]
  split at h
  ·cases h
  ·rename_i h2; rw [if_neg h2]; exact numOr_s _ _ h
theorem nameW_s (run : ByteArray) (h : (nameW run).2 = true) : (nameW run).1.s = run := by
 unfold nameW at h ⊢
 split at h
 ·cases h
 ·rename_i h2; rw [if_neg h2]
theorem wordW_size (t : ByteArray) (h : (wordW t).2 = true) : 0 < (wordW t).1.s.size ∧ (wordW t).1.s.size ≤ t.size := by
 unfold wordW at h ⊢;have hle : nameRun t.data.toList ≤ t.size := by rw [Lib.size_eq]; exact nameRun_le _
 by_cases hn : nameB (byteAt t 0) = true
 ·have hp := nameRun_pos t hn
  rw [if_pos hn] at h ⊢
  by_cases hd : digitB (byteAt t 0) = true
  ·rw [if_pos hd] at h ⊢
   rw [numW_s _ h, runOf_size];exact ⟨hp, hle⟩
  ·rw [if_neg hd] at h ⊢
   rw [nameW_s _ h, runOf_size];exact ⟨hp, hle⟩
 ·rw [if_neg hn] at h ⊢
  exact markW_size t h
def nextW (t : ByteArray) (i : Nat) : Nat × Option WW :=
 let G := gaps t (t.size + 1 - i) i
 (G.1, if G.2 = true ∧ G.1 < t.size ∧ (wordW (t.extract G.1 t.size)).2 = true then some (wordW (t.extract G.1 t.size)).1 else none)
theorem rest_size (t : ByteArray) (j : Nat) (h : j ≤ t.size) : (t.extract j t.size).size = t.size - j := by
 rw [Lib.size_eq, rest_list, List.length_drop, ← Lib.size_eq]
theorem nextW_ge (t : ByteArray) (i : Nat) (hi : i ≤ t.size) : i ≤ (nextW t i).1 ∧ (nextW t i).1 ≤ t.size := gaps_ge t _ i hi
theorem nextW_word (t : ByteArray) (i j : Nat) (x : WW) (hi : i ≤ t.size) (h : nextW t i = (j, some x)) : i ≤ j ∧ 0 < x.s.size ∧ j + x.s.size ≤ t.size := by
 have hg := nextW_ge t i hi;rw [h] at hg;unfold nextW at h
 injection h with h1 h2
 split at h2
 ·rename_i hc
  injection h2 with h2
  have hs := wordW_size _ hc.2.2;rw [h2, rest_size t _ (by omega), h1] at hs
  omega
 ·cases h2
def lexF (t : ByteArray) : Nat → Nat → List (WW × Nat) × Nat
 | 0, i => ([], i)
 | f + 1, i => match nextW t i with
  | (j, none) => ([], j)
  | (j, some x) => ((x, j) :: (lexF t f (j + x.s.size)).1, (lexF t f (j + x.s.size)).2)
def lexAll (t : ByteArray) : List (WW × Nat) × Nat := lexF t (t.size + 1) 0
theorem lexF_none (t : ByteArray) (f i j : Nat) (h : nextW t i = (j, none)) : lexF t (f + 1) i = ([], j) := by rw [lexF, h]
theorem lexF_some (t : ByteArray) (f i j : Nat) (x : WW) (h : nextW t i = (j, some x)) : lexF t (f + 1) i = ((x, j) :: (lexF t f (j + x.s.size)).1, (lexF t f (j + x.s.size)).2) := by rw [lexF, h]
end Go.Proofs.YtlonbaefdffbeaaGreatDoor
