/- The plain mathematics behind the statement ValLaws. -/
import Derived.Test.YtfkalcfkbaimgabDoorPlain
namespace Go.Proofs.YtfkalcfkbaimgabDoor.Pl
open Go Go.RowKit
set_option linter.unusedSimpArgs false

theorem bits_and_comm (a b : Int) : bits .and .i64 a b = bits .and .i64 b a := by simp only [bits, BitVec.and_comm]
theorem bits_or_comm (a b : Int) : bits .or .i64 a b = bits .or .i64 b a := by simp only [bits, BitVec.or_comm]
theorem bits_xor_comm (a b : Int) : bits .xor .i64 a b = bits .xor .i64 b a := by simp only [bits, BitVec.xor_comm]

theorem kind_cases (a : V) : kindF a = 0 ∨ (kindF a = 1 ∧ a.k = 1 ∧ a.b = 0) ∨ (kindF a = 2 ∧ a.k = 2 ∧ 1 ≤ a.b) := by
  unfold kindF goodF
  by_cases h0 : a.k = 0
  · left; simp [h0]
  by_cases h1 : a.k = 1
  · by_cases hb : a.b = 0
    · right; left; simp [h1, hb]
    · left; simp [h1, hb]
  by_cases h2 : a.k = 2
  · by_cases hb : 1 ≤ a.b
    · right; right; simp [h2, hb]
    · left; simp [h2, hb]
  · left; simp [h0, h1, h2]
theorem kind_int (n : Int) : kindF ⟨1, n, 0⟩ = 1 := by simp [kindF, goodF]
theorem kind_ptr (n b : Int) (h : 1 ≤ b) : kindF ⟨2, n, b⟩ = 2 := by simp [kindF, goodF, h]
theorem kind_of (n : Int) : kindF (ofF n) = 1 := kind_int n
theorem bitN_or (c : Bool) : bitN c = 0 ∨ bitN c = 1 := by cases c <;> simp [bitN]
theorem w64_one : wrap64 1 = 1 := by unfold wrap64; omega
theorem bit_sum (c : Bool) : wrap64 (bitN c + bitN (!c)) = 1 := by cases c <;> simp [bitN, w64_one]

/-- The opposite of a comparison says the opposite. -/
theorem flip_law (op f : Int) (a b : V) (h : flipF op = (f, true)) :
    (binF f a b).2 = (binF op a b).2 ∧ ((binF op a b).2 = true → wrap64 ((binF op a b).1.n + (binF f a b).1.n) = 1) := by
  have hop : (op = 21 ∧ f = 22) ∨ (op = 22 ∧ f = 21) ∨ (op = 23 ∧ f = 26) ∨ (op = 24 ∧ f = 25) ∨ (op = 25 ∧ f = 24) ∨ (op = 26 ∧ f = 23) := by
    unfold flipF at h
    repeat' split at h
    all_goals first | (simp at h; omega) | simp at h
  have c1 : ∀ x y : Int, (!decide (x < y)) = decide (y ≤ x) := fun x y => by by_cases g : x < y <;> simp [g] <;> omega
  have c2 : ∀ x y : Int, (!decide (x ≤ y)) = decide (y < x) := fun x y => by by_cases g : x ≤ y <;> simp [g] <;> omega
  have s1 : ∀ x y : Int, wrap64 (bitN (decide (x < y)) + bitN (decide (y ≤ x))) = 1 := fun x y => by rw [← c1]; exact bit_sum _
  have s2 : ∀ x y : Int, wrap64 (bitN (decide (x ≤ y)) + bitN (decide (y < x))) = 1 := fun x y => by rw [← c2]; exact bit_sum _
  have s3 : ∀ c : Bool, wrap64 (bitN (!c) + bitN c) = 1 := fun c => by have := bit_sum (!c); simpa using this
  have s4 : ∀ x y : Int, wrap64 (bitN (x == y) + bitN (x != y)) = 1 := fun x y => bit_sum _
  have s5 : ∀ x y : Int, wrap64 (bitN (x != y) + bitN (x == y)) = 1 := fun x y => s3 _
  rcases kind_cases a with ha | ⟨ha, -, -⟩ | ⟨ha, -, -⟩ <;> rcases kind_cases b with hb | ⟨hb, -, -⟩ | ⟨hb, -, -⟩ <;>
    rcases hop with ⟨rfl, rfl⟩ | ⟨rfl, rfl⟩ | ⟨rfl, rfl⟩ | ⟨rfl, rfl⟩ | ⟨rfl, rfl⟩ | ⟨rfl, rfl⟩ <;>
    simp only [binF, ha, hb, intsF, compareF, ptrsF, pintF, bitF, ofF] <;> simp [s1, s2, s4, s5, w64_one] <;>
    first | done | exact bit_sum _ | exact s3 _ | (generalize (a.k == b.k) = c; generalize (a.n == b.n) = d; generalize (a.b == b.b) = e; cases c <;> cases d <;> cases e <;> simp [bitN, w64_one]) | (split <;> simp [w64_one])

/-- With operands swapped the swapped one says the same. -/
theorem swap_law (op s : Int) (a b : V) (h : swapF op = (s, true)) : binF s b a = binF op a b := by
  have hop : (s = op ∧ (op = 11 ∨ op = 13 ∨ op = 16 ∨ op = 17 ∨ op = 18 ∨ op = 21 ∨ op = 22)) ∨ (op = 23 ∧ s = 25) ∨ (op = 24 ∧ s = 26) ∨ (op = 25 ∧ s = 23) ∨ (op = 26 ∧ s = 24) := by
    unfold swapF at h
    repeat' split at h
    all_goals first | (simp at h; omega) | simp at h
  have e1 : ∀ x y : Int, (x == y) = (y == x) := fun x y => Bool.beq_comm
  rcases kind_cases a with ha | ⟨ha, -, -⟩ | ⟨ha, -, -⟩ <;> rcases kind_cases b with hb | ⟨hb, -, -⟩ | ⟨hb, -, -⟩ <;>
    rcases hop with ⟨rfl, rfl | rfl | rfl | rfl | rfl | rfl | rfl⟩ | ⟨rfl, rfl⟩ | ⟨rfl, rfl⟩ | ⟨rfl, rfl⟩ | ⟨rfl, rfl⟩ <;>
    simp only [binF, ha, hb, intsF, compareF, ptrsF, pintF] <;>
    simp [Int.add_comm, Int.mul_comm, bits_and_comm b.n a.n, bits_or_comm b.n a.n, bits_xor_comm b.n a.n, e1 b.n a.n, e1 b.k a.k, e1 b.b a.b, bne]

theorem w64_in {n : Int} (h0 : -9223372036854775808 ≤ n) (h1 : n ≤ 9223372036854775807) : wrap64 n = n := by unfold wrap64; omega
theorem w64_addsub (a b : Int) (h0 : -9223372036854775808 ≤ a) (h1 : a ≤ 9223372036854775807) : wrap64 (wrap64 (a + b) - b) = a := by unfold wrap64; omega
theorem w64_muladd (q b r a : Int) (h0 : -9223372036854775808 ≤ a) (h1 : a ≤ 9223372036854775807) (h : q * b + r = a) : wrap64 (wrap64 (wrap64 q * b) + r) = a := by
  have e1 : ∃ t : Int, wrap64 q = q + t * 18446744073709551616 := ⟨-((q + 9223372036854775808) / 18446744073709551616), by unfold wrap64; omega⟩
  obtain ⟨t, e1⟩ := e1
  rw [e1]
  have e2 : (q + t * 18446744073709551616) * b = q * b + (t * b) * 18446744073709551616 := by
    rw [Int.add_mul, Int.mul_assoc, Int.mul_assoc, Int.mul_comm 18446744073709551616 b]
  rw [e2]
  generalize t * b = u
  generalize q * b = v at h
  unfold wrap64
  omega

/-- Adding is undone by subtracting. -/
theorem add_sub_law (a p : V) (n : Int) (h : binF 11 a ⟨1, n, 0⟩ = (p, true)) (h0 : -9223372036854775808 ≤ a.n) (h1 : a.n ≤ 9223372036854775807) : binF 12 p ⟨1, n, 0⟩ = (a, true) := by
  obtain ⟨ak, an, ab⟩ := a
  rcases kind_cases ⟨ak, an, ab⟩ with ha | ⟨ha, hk, hb⟩ | ⟨ha, hk, hb⟩
  · simp [binF, ha, kind_int] at h
  · simp at hk hb; subst hk hb
    simp [binF, kind_int, intsF, ofF] at h
    subst h
    simp [binF, kind_int, intsF, ofF, w64_addsub an n h0 h1]
  · simp at hk hb; subst hk
    simp [binF, kind_int, ha, pintF, atF, show ¬ ab < 1 by omega] at h
    subst h
    simp [binF, kind_int, kind_ptr _ _ hb, pintF, atF, show ¬ ab < 1 by omega, w64_addsub an n h0 h1]

/-- Quotient and rest are there together, and make the number again. -/
theorem div_mod_law (a : V) (n : Int) (h0 : -9223372036854775808 ≤ a.n) (h1 : a.n ≤ 9223372036854775807) :
    (binF 14 a ⟨1, n, 0⟩).2 = (binF 15 a ⟨1, n, 0⟩).2 ∧
    ((binF 14 a ⟨1, n, 0⟩).2 = true → (binF 11 (binF 13 (binF 14 a ⟨1, n, 0⟩).1 ⟨1, n, 0⟩).1 (binF 15 a ⟨1, n, 0⟩).1).1 = a) := by
  obtain ⟨ak, an, ab⟩ := a
  rcases kind_cases ⟨ak, an, ab⟩ with ha | ⟨ha, hk, hb⟩ | ⟨ha, hk, hb⟩
  · simp [binF, ha, kind_int]
  · simp at hk hb; subst hk hb
    by_cases hd : n = 0 ∨ (an = -9223372036854775808 ∧ n = -1)
    · simp [binF, kind_int, intsF, divideF, hd]
    · have e : ∀ x : Int, kindF (ofF x) = 1 := kind_of
      have e14 : binF 14 ⟨1, an, 0⟩ ⟨1, n, 0⟩ = (ofF (wrap64 (an.tdiv n)), true) := by simp only [binF, kind_int, intsF, divideF]; simp [hd]
      have e15 : binF 15 ⟨1, an, 0⟩ ⟨1, n, 0⟩ = (ofF (an.tmod n), true) := by simp only [binF, kind_int, intsF, divideF]; simp [hd]
      rw [e14, e15]
      refine ⟨rfl, fun _ => ?_⟩
      have e13 : binF 13 (ofF (wrap64 (an.tdiv n))) ⟨1, n, 0⟩ = (ofF (wrap64 (wrap64 (an.tdiv n) * n)), true) := by simp [binF, kind_int, intsF, ofF]
      simp only [e13]
      have e11 : binF 11 (ofF (wrap64 (wrap64 (an.tdiv n) * n))) (ofF (an.tmod n)) = (ofF (wrap64 (wrap64 (wrap64 (an.tdiv n) * n) + an.tmod n)), true) := by simp [binF, kind_int, intsF, ofF]
      simp only [e11]
      rw [w64_muladd _ _ _ an h0 h1 (by have := Int.mul_tdiv_add_tmod an n; rw [Int.mul_comm]; exact this)]
      rfl
  · simp at hk hb; subst hk
    simp [binF, kind_int, ha, pintF]

theorem flip_swap (op f s : Int) (h : flipF op = (f, true)) (h2 : swapF op = (s, false)) : False := by
  unfold flipF at h
  repeat' split at h
  all_goals first | (subst_vars; simp [swapF] at h2; done) | simp at h
theorem add_of_div (a : V) (n : Int) (h : (binF 11 a ⟨1, n, 0⟩).2 = false) : (binF 14 a ⟨1, n, 0⟩).2 = false := by
  rcases kind_cases a with ha | ⟨ha, -, -⟩ | ⟨ha, -, -⟩ <;> simp [binF, ha, kind_int, intsF, pintF] at h ⊢

end Go.Proofs.YtfkalcfkbaimgabDoor.Pl
