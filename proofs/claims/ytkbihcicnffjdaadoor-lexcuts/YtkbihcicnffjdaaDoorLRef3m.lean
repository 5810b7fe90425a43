/- Numbers in base ten, digit by digit. -/
import Derived.Test.YtkbihcicnffjdaaDoorLRef2
namespace Go.Proofs.YtkbihcicnffjdaaDoor
open Go.RowKit
set_option linter.unusedSimpArgs false
set_option linter.unusedVariables false

/-- A row of digits' value; none: one is no digit. -/
def dec10 (acc : Nat) : List UInt8 → Option Nat
  | [] => some acc
  | b :: l => if digitB (b.toNat : Int) = true then dec10 (acc * 10 + (b.toNat - 48)) l else none
theorem dec10_snoc (b : UInt8) : ∀ (l : List UInt8) (acc : Nat), dec10 acc (l ++ [b]) = (dec10 acc l).bind fun n => if digitB (b.toNat : Int) = true then some (n * 10 + (b.toNat - 48)) else none
  | [], acc => by simp [dec10]
  | a :: l, acc => by
    simp only [List.cons_append, dec10]
    split
    · exact dec10_snoc b l _
    · rfl
theorem dec10_lt : ∀ (l : List UInt8) (acc n k : Nat), acc < 10 ^ k → dec10 acc l = some n → n < 10 ^ (k + l.length)
  | [], acc, n, k, h, e => by cases e; simpa using h
  | b :: l, acc, n, k, h, e => by
    rw [dec10] at e
    split at e
    · rename_i hd
      have hb : b.toNat - 48 ≤ 9 := by unfold digitB at hd; simp at hd; omega
      have h1 : acc * 10 + (b.toNat - 48) < 10 ^ (k + 1) := by rw [Nat.pow_succ]; omega
      have := dec10_lt l _ n (k + 1) h1 e
      rw [List.length_cons, show k + (l.length + 1) = k + 1 + l.length by omega]
      exact this
    · cases e
theorem parse16_snoc (b : UInt8) : ∀ (l : List UInt8) (acc : Nat), parse16 acc (l ++ [b]) = (parse16 acc l).bind fun n => (hexD (b.toNat : Int)).map (fun d => n * 16 + d)
  | [], acc => by
    simp only [List.nil_append, parse16]
    cases hexD (b.toNat : Int) <;> rfl
  | a :: l, acc => by
    simp only [List.cons_append, parse16]
    cases hexD (a.toNat : Int) with
    | none => rfl
    | some d => exact parse16_snoc b l _
theorem parse16_app : ∀ (l r : List UInt8) (acc : Nat), parse16 acc (l ++ r) = (parse16 acc l).bind fun n => parse16 n r
  | [], r, acc => rfl
  | a :: l, r, acc => by
    simp only [List.cons_append, parse16]
    cases hexD (a.toNat : Int) with
    | none => rfl
    | some d => exact parse16_app l r _
theorem dec10_app : ∀ (l r : List UInt8) (acc : Nat), dec10 acc (l ++ r) = (dec10 acc l).bind fun n => dec10 n r
  | [], r, acc => rfl
  | a :: l, r, acc => by
    simp only [List.cons_append, dec10]
    split
    · exact dec10_app l r _
    · rfl
theorem uint_dec : ∀ (l : List UInt8) (acc k : Nat), acc < 10 ^ k → k + l.length ≤ 19 → Lib.parseUintM (2 ^ 64 - 1) acc l = (match dec10 acc l with
    | some n => .ok n
    | none => .syntax)
  | [], acc, k, h, hk => rfl
  | b :: l, acc, k, h, hk => by
    rw [Lib.parseUintM, dec10]
    rw [List.length_cons] at hk
    by_cases hd : 48 ≤ b.toNat ∧ b.toNat ≤ 57
    · have hd' : digitB (b.toNat : Int) = true := by unfold digitB; simp; omega
      have h18 : 10 ^ k ≤ 10 ^ 18 := Nat.pow_le_pow_right (by omega) (by omega)
      have h19 : acc * 10 + (b.toNat - 48) < 10 ^ (k + 1) := by rw [Nat.pow_succ]; omega
      have e18 : (10 : Nat) ^ 18 = 1000000000000000000 := by decide
      rw [if_pos hd, if_neg (by omega), if_neg (by omega), if_pos hd']
      exact uint_dec l _ (k + 1) h19 (by omega)
    · have hd' : ¬ digitB (b.toNat : Int) = true := by unfold digitB; simp; omega
      rw [if_neg hd, if_neg hd']
theorem num10_is (b : UInt8) (l : List UInt8) (hb : digitB (b.toNat : Int) = true) (hl : (b :: l).length ≤ 19) : num10 (b :: l) = (match dec10 0 (b :: l) with
    | some n => if n < 9223372036854775808 then some (n : Int) else none
    | none => none) := by
  have hb' : 48 ≤ b.toNat ∧ b.toNat ≤ 57 := by unfold digitB at hb; simp at hb; omega
  unfold num10 Lib.parseIntB
  dsimp only
  rw [if_neg (by omega)]
  unfold Lib.parseUintB
  rw [if_neg (by simp), uint_dec (b :: l) 0 0 (by decide) (by omega)]
  cases dec10 0 (b :: l) with
  | none => rfl
  | some n =>
    have e : (2 : Nat) ^ (64 - 1) = 9223372036854775808 := by decide
    simp only [e]
    have hn : ¬ b.toNat = 45 := by omega
    by_cases h : n < 9223372036854775808
    · rw [if_pos h, if_neg (by omega), if_neg (by omega), if_neg hn]
    · rw [if_neg h, if_pos ⟨hn, by omega⟩]
theorem isHex_iff (s : ByteArray) : isHexW s = true ↔ 2 ≤ s.size ∧ byteAt s 0 = 48 ∧ byteAt s 1 = 120 := by
  have h := preAt_two s 0 48 120
  unfold preAt at h
  rw [rest_list, List.drop_zero] at h
  exact h.trans ⟨fun ⟨a, b, c⟩ => ⟨by omega, b, c⟩, fun ⟨a, b, c⟩ => ⟨by omega, b, c⟩⟩
theorem digitsOf_list (s : ByteArray) (h : isHexW s = true) : (digitsOf s).data.toList = s.data.toList.drop 2 := by
  unfold digitsOf Lib.trimPrefix
  have h' : Lib.hasPrefix s.data.toList hexP = true := h
  rw [if_pos h']
  rfl
end Go.Proofs.YtkbihcicnffjdaaDoor
