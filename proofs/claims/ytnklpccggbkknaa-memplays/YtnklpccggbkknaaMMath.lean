/- The plain mathematics of words: what a store makes of the bits of a word, and what a load reads of them. -/
import Derived.Test.YtnklpccggbkknaaMKit
namespace Go.Proofs.Ytnklpccggbkknaa
open Go.ChangeShapes Go.WideShapes Go.ChangeAt Go.RowKit Pl
set_option linter.unusedSimpArgs false
set_option linter.unusedVariables false

def BV (x : Int) : BitVec 64 := BitVec.ofInt 64 x
def B8 (x : Int) : BitVec 8 := BitVec.ofInt 8 x
theorem u8w (n : Int) : IntKind.u8.wrap n = n % 256 := by simp [IntKind.wrap, IntKind.bits, IntKind.signed]
theorem bv_nat (X : BitVec 64) : BV ((X.toNat : Nat) : Int) = X := by unfold BV; rw [BitVec.ofInt_natCast, BitVec.ofNat_toNat]; simp
theorem b8_nat (X : BitVec 8) : B8 ((X.toNat : Nat) : Int) = X := by unfold B8; rw [BitVec.ofInt_natCast, BitVec.ofNat_toNat]; simp
theorem w64_nat (X : BitVec 64) : IntKind.u64.wrap ((X.toNat : Nat) : Int) = ((X.toNat : Nat) : Int) := by rw [u64w]; have := X.isLt; omega
theorem w8_nat (X : BitVec 8) : IntKind.u8.wrap ((X.toNat : Nat) : Int) = ((X.toNat : Nat) : Int) := by rw [u8w]; have := X.isLt; omega
theorem and64 (a b : Int) : bits .and .u64 a b = (((BV a &&& BV b).toNat : Nat) : Int) := w64_nat _
theorem or64 (a b : Int) : bits .or .u64 a b = (((BV a ||| BV b).toNat : Nat) : Int) := w64_nat _
theorem andNot64 (a b : Int) : bits .andNot .u64 a b = (((BV a &&& ~~~ BV b).toNat : Nat) : Int) := w64_nat _
theorem and8 (a b : Int) : bits .and .u8 a b = (((B8 a &&& B8 b).toNat : Nat) : Int) := w8_nat _
theorem or8 (a b : Int) : bits .or .u8 a b = (((B8 a ||| B8 b).toNat : Nat) : Int) := w8_nat _
theorem andNot8 (a b : Int) : bits .andNot .u8 a b = (((B8 a &&& ~~~ B8 b).toNat : Nat) : Int) := w8_nat _
/-- The lanes that an access can have: c bytes behind d bytes. -/
def LaneOk (c d : Nat) : Prop := (c = 1 ∧ d < 8) ∨ (c = 4 ∧ (d = 0 ∨ d = 4)) ∨ (c = 8 ∧ d = 0)
theorem LaneOk.cases {c d : Nat} (h : LaneOk c d) : (c = 1 ∧ d = 0) ∨ (c = 1 ∧ d = 1) ∨ (c = 1 ∧ d = 2) ∨ (c = 1 ∧ d = 3) ∨ (c = 1 ∧ d = 4) ∨ (c = 1 ∧ d = 5) ∨ (c = 1 ∧ d = 6) ∨ (c = 1 ∧ d = 7) ∨ (c = 4 ∧ d = 0) ∨ (c = 4 ∧ d = 4) ∨ (c = 8 ∧ d = 0) := by
  rcases h with ⟨rfl, hd⟩ | ⟨rfl, rfl | rfl⟩ | ⟨rfl, rfl⟩
  · match d, hd with
    | 0, _ => simp
    | 1, _ => simp
    | 2, _ => simp
    | 3, _ => simp
    | 4, _ => simp
    | 5, _ => simp
    | 6, _ => simp
    | 7, _ => simp
  · simp
  · simp
  · simp
theorem lt64 {p : Nat → Prop} (h : ∀ t : Fin 64, p t.val) (h2 : ∀ t, 64 ≤ t → p t) (t : Nat) : p t := by
  rcases Nat.lt_or_ge t 64 with h1 | h1
  · exact h ⟨t, h1⟩
  · exact h2 t h1
set_option maxRecDepth 100000 in
theorem lane_w {c d : Nat} (h : LaneOk c d) (t : Nat) : (BV (laneF c d).w).getLsbD t = decide (8 * d ≤ t ∧ t < 8 * d + 8 * c) := by
  rcases h.cases with ⟨rfl, rfl⟩ | ⟨rfl, rfl⟩ | ⟨rfl, rfl⟩ | ⟨rfl, rfl⟩ | ⟨rfl, rfl⟩ | ⟨rfl, rfl⟩ | ⟨rfl, rfl⟩ | ⟨rfl, rfl⟩ | ⟨rfl, rfl⟩ | ⟨rfl, rfl⟩ | ⟨rfl, rfl⟩
  all_goals
    revert t
    refine lt64 (p := fun t => _ = _) (of_decide_eq_true (by kernel_rfl)) (fun t ht => ?_)
    rw [BitVec.getLsbD_of_ge _ _ ht]
    simp
    omega
set_option maxRecDepth 100000 in
theorem lane_m {c d : Nat} (h : LaneOk c d) (t : Nat) : (B8 (laneF c d).m).getLsbD t = decide (d ≤ t ∧ t < d + c) := by
  rcases h.cases with ⟨rfl, rfl⟩ | ⟨rfl, rfl⟩ | ⟨rfl, rfl⟩ | ⟨rfl, rfl⟩ | ⟨rfl, rfl⟩ | ⟨rfl, rfl⟩ | ⟨rfl, rfl⟩ | ⟨rfl, rfl⟩ | ⟨rfl, rfl⟩ | ⟨rfl, rfl⟩ | ⟨rfl, rfl⟩
  all_goals
    revert t
    refine lt64 (p := fun t => _ = _) (of_decide_eq_true (by kernel_rfl)) (fun t ht => ?_)
    rw [BitVec.getLsbD_of_ge _ _ (by omega)]
    simp
    omega
theorem lane_s (c d : Nat) : (laneF c d).s = ((8 * d : Nat) : Int) := by simp [laneF]
theorem lane_c (c d : Nat) : (laneF c d).c = (c : Int) := rfl
theorem lane_mr {c d : Nat} (h : LaneOk c d) : 0 ≤ (laneF c d).m ∧ (laneF c d).m < 256 := by
  simp only [laneF, u8w]
  omega
/-- Are all the lane's bytes in the mask? -/
theorem in_mask {c d : Nat} (h : LaneOk c d) (k : Int) : bits .and .u8 k (laneF c d).m = (laneF c d).m ↔ ∀ t, d ≤ t → t < d + c → (B8 k).getLsbD t = true := by
  have hm := lane_mr h
  have e : (((B8 (laneF c d).m).toNat : Nat) : Int) = (laneF c d).m := by
    unfold B8; rw [BitVec.toNat_ofInt]; omega
  rw [and8]
  conv => lhs; rhs; rw [← e]
  constructor
  · intro hh t h1 h2
    have hh' : B8 k &&& B8 (laneF c d).m = B8 (laneF c d).m := BitVec.eq_of_toNat_eq (by exact_mod_cast hh)
    have := congrArg (fun X => X.getLsbD t) hh'
    simp only [BitVec.getLsbD_and, lane_m h] at this
    simpa [h1, h2] using this
  · intro hh
    have : B8 k &&& B8 (laneF c d).m = B8 (laneF c d).m := by
      apply BitVec.eq_of_getLsbD_eq
      intro t ht
      rw [BitVec.getLsbD_and, lane_m h]
      by_cases hin : d ≤ t ∧ t < d + c
      · rw [hh t hin.1 hin.2]; simp [hin]
      · simp [hin]
    rw [this]
theorem toNat_bv (b : Int) : (((BV b).toNat : Nat) : Int) = b % 18446744073709551616 := toNat_ofInt64 b
theorem low_bits {X Y : BitVec 64} {s k : Nat} (h : ∀ t, s ≤ t → t < s + k → X.getLsbD t = Y.getLsbD t) : X.toNat / 2 ^ s % 2 ^ k = Y.toNat / 2 ^ s % 2 ^ k := by
  apply Nat.eq_of_testBit_eq
  intro i
  rw [Nat.testBit_mod_two_pow, Nat.testBit_mod_two_pow, Nat.testBit_div_two_pow, Nat.testBit_div_two_pow]
  by_cases hi : i < k
  · have := h (i + s) (by omega) (by omega)
    rw [BitVec.getLsbD, BitVec.getLsbD] at this
    rw [this]
  · simp [hi]
/-- What is read of a lane is told by its bits. -/
theorem num_bits {c d : Nat} (h : LaneOk c d) {a b : Int} (hb : ∀ t, 8 * d ≤ t → t < 8 * d + 8 * c → (BV a).getLsbD t = (BV b).getLsbD t) :
    numF c (a / 2 ^ min (laneF c d).s.toNat 64) = numF c (b / 2 ^ min (laneF c d).s.toNat 64) := by
  have hl := low_bits hb
  have ha := toNat_bv a
  have hb' := toNat_bv b
  generalize (BV a).toNat = A at *
  generalize (BV b).toNat = B at *
  rcases h.cases with ⟨rfl, rfl⟩ | ⟨rfl, rfl⟩ | ⟨rfl, rfl⟩ | ⟨rfl, rfl⟩ | ⟨rfl, rfl⟩ | ⟨rfl, rfl⟩ | ⟨rfl, rfl⟩ | ⟨rfl, rfl⟩ | ⟨rfl, rfl⟩ | ⟨rfl, rfl⟩ | ⟨rfl, rfl⟩
  all_goals
    simp only [laneF, numF, i8w] at hl ⊢
    simp at hl ⊢
    simp only [ofF, V.mk.injEq, true_and, and_true]
    first
      | (unfold wrap64; omega)
      | (unfold wrap32 wrap64; omega)
/-- The bits that a stored Int leaves. -/
theorem st_bits {c d : Nat} (h : LaneOk c d) (x : WD) (n b : Int) (t : Nat) (ht : t < 64) :
    (BV (stW x (laneF c d) ⟨1, n, b⟩).bt).getLsbD t = if 8 * d ≤ t ∧ t < 8 * d + 8 * c then (BV n).getLsbD (t - 8 * d) else (BV x.bt).getLsbD t := by
  have e1 : (fgW x (laneF c d).m (laneF c d).w).bt = bits .andNot .u64 x.bt (laneF c d).w := by unfold fgW; split <;> rfl
  have hd : 8 * d ≤ 56 := by unfold LaneOk at h; omega
  have e2 : BV (shF n (laneF c d).s) = BV n <<< (8 * d) := by
    apply BitVec.eq_of_toNat_eq
    rw [BitVec.toNat_shiftLeft, Nat.shiftLeft_eq]
    have hmin : min (laneF c d).s.toNat 64 = 8 * d := by rw [lane_s]; omega
    have h3 : (((BV (shF n (laneF c d).s)).toNat : Nat) : Int) = (((BV n).toNat * 2 ^ (8 * d) % 2 ^ 64 : Nat) : Int) := by
      rw [toNat_bv]
      unfold shF
      rw [hmin, u64w, u64w, ← toNat_bv n, Int.emod_emod, Int.natCast_emod, Int.natCast_mul, Int.natCast_pow]
      rfl
    exact_mod_cast h3
  simp only [stW, if_true]
  rw [or64, bv_nat, BitVec.getLsbD_or, e1, andNot64, bv_nat, and64, bv_nat, BitVec.getLsbD_and, BitVec.getLsbD_and, BitVec.getLsbD_not, lane_w h, e2, BitVec.getLsbD_shiftLeft]
  by_cases hin : 8 * d ≤ t ∧ t < 8 * d + 8 * c
  · have : ¬ t < 8 * d := by omega
    simp [hin, ht, this]
  · simp [hin, ht]
/-- The bytes that are numbers behind a store. -/
theorem st_known {c d : Nat} (h : LaneOk c d) (x : WD) (v : V) (t : Nat) (ht : t < 8) :
    (B8 (stW x (laneF c d) v).kn).getLsbD t = if d ≤ t ∧ t < d + c then decide (v.k = 1) else (B8 x.kn).getLsbD t := by
  have e1 : (fgW x (laneF c d).m (laneF c d).w).kn = bits .andNot .u8 x.kn (laneF c d).m := by unfold fgW; split <;> rfl
  have hf : (B8 (fgW x (laneF c d).m (laneF c d).w).kn).getLsbD t = if d ≤ t ∧ t < d + c then false else (B8 x.kn).getLsbD t := by
    rw [e1, andNot8, b8_nat, BitVec.getLsbD_and, BitVec.getLsbD_not, lane_m h]
    by_cases hin : d ≤ t ∧ t < d + c <;> simp [hin, ht]
  unfold stW
  by_cases h1 : v.k = 1
  · rw [if_pos h1]
    simp only
    rw [or8, b8_nat, BitVec.getLsbD_or, hf, lane_m h]
    by_cases hin : d ≤ t ∧ t < d + c <;> simp [hin, h1]
  · rw [if_neg h1]
    by_cases h2 : v.k = 2
    · rw [if_pos h2]
      simp only
      rw [hf]
      simp [h1]
    · rw [if_neg h2, hf]
      simp [h1]
end Go.Proofs.Ytnklpccggbkknaa
