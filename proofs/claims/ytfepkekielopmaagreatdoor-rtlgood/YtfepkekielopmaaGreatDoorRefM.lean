/- Plain mathematics: bits and quotients by sizes and signs. -/
import Derived.Test.YtfepkekielopmaaGreatDoorPlain
namespace Go.Proofs.YtfepkekielopmaaGreatDoor.Pl
open Go Go.RowKit
set_option linter.unusedSimpArgs false

theorem i64w (n : Int) : IntKind.i64.wrap n = wrap64 n := IntWalk.i64_left n
theorem i8w (n : Int) : IntKind.i8.wrap n = (n + 128) % 256 - 128 := by
  simp only [IntKind.wrap, IntKind.bits, IntKind.signed]; simp; split <;> omega
theorem u64w (n : Int) : IntKind.u64.wrap n = n % 18446744073709551616 := by rw [IntKind.wrap_u64]
theorem toNat_ofInt64 (n : Int) : ((BitVec.ofInt 64 n).toNat : Int) = n % 18446744073709551616 := by
  rw [BitVec.toNat_ofInt]; omega

theorem and_255 (n : Int) : bits .and .i64 n 255 = n % 256 := by
  have h : (BitVec.ofInt 64 255).toNat = 2 ^ 8 - 1 := by decide
  have key : (BitVec.ofInt 64 n &&& BitVec.ofInt 64 255).toNat = (BitVec.ofInt 64 n).toNat % 2 ^ 8 := by
    rw [BitVec.toNat_and, h, Nat.and_two_pow_sub_one_eq_mod]
  have e := toNat_ofInt64 n
  show IntKind.i64.wrap ((BitVec.ofInt 64 n &&& BitVec.ofInt 64 255).toNat : Nat) = n % 256
  rw [key, i64w]; unfold wrap64; omega
theorem and_32 (n : Int) : bits .and .i64 n 4294967295 = n % 4294967296 := by
  have h : (BitVec.ofInt 64 4294967295).toNat = 2 ^ 32 - 1 := by decide
  have key : (BitVec.ofInt 64 n &&& BitVec.ofInt 64 4294967295).toNat = (BitVec.ofInt 64 n).toNat % 2 ^ 32 := by
    rw [BitVec.toNat_and, h, Nat.and_two_pow_sub_one_eq_mod]
  have e := toNat_ofInt64 n
  show IntKind.i64.wrap ((BitVec.ofInt 64 n &&& BitVec.ofInt 64 4294967295).toNat : Nat) = n % 4294967296
  rw [key, i64w]; unfold wrap64; omega
theorem and_1 (n : Int) : bits .and .i64 n 1 = n % 2 := by
  have h : (BitVec.ofInt 64 1).toNat = 2 ^ 1 - 1 := by decide
  have key : (BitVec.ofInt 64 n &&& BitVec.ofInt 64 1).toNat = (BitVec.ofInt 64 n).toNat % 2 ^ 1 := by
    rw [BitVec.toNat_and, h, Nat.and_two_pow_sub_one_eq_mod]
  have e := toNat_ofInt64 n
  show IntKind.i64.wrap ((BitVec.ofInt 64 n &&& BitVec.ofInt 64 1).toNat : Nat) = n % 2
  rw [key, i64w]; unfold wrap64; omega
theorem bits_not (n : Int) : bits .xor .i64 (-1) n = wrap64 (-1 - n) := by
  show IntKind.i64.wrap ((BitVec.ofInt 64 (-1) ^^^ BitVec.ofInt 64 n).toNat : Int) = _
  have h1 : BitVec.ofInt 64 (-1) = BitVec.allOnes 64 := by decide
  have e := toNat_ofInt64 n
  rw [h1, BitVec.allOnes_xor, BitVec.toNat_not, i64w]
  unfold wrap64
  have := (BitVec.ofInt 64 n).isLt
  omega
theorem or_sub_and (a b : Int) : wrap64 (bits .or .i64 a b - bits .and .i64 a b) = bits .xor .i64 a b := by
  show wrap64 (IntKind.i64.wrap ((BitVec.ofInt 64 a ||| BitVec.ofInt 64 b).toNat : Int) - IntKind.i64.wrap ((BitVec.ofInt 64 a &&& BitVec.ofInt 64 b).toNat : Int)) = IntKind.i64.wrap ((BitVec.ofInt 64 a ^^^ BitVec.ofInt 64 b).toNat : Int)
  generalize BitVec.ofInt 64 a = x
  generalize BitVec.ofInt 64 b = y
  have z : (x ^^^ y) &&& (x &&& y) = 0#64 := by
    ext i hi
    simp only [BitVec.getElem_and, BitVec.getElem_xor, BitVec.getElem_zero]
    cases x[i] <;> cases y[i] <;> rfl
  have o : (x ^^^ y) ||| (x &&& y) = x ||| y := by
    ext i hi
    simp only [BitVec.getElem_and, BitVec.getElem_xor, BitVec.getElem_or]
    cases x[i] <;> cases y[i] <;> rfl
  have s := BitVec.add_eq_or_of_and_eq_zero (x ^^^ y) (x &&& y) z
  rw [o] at s
  have t := congrArg BitVec.toNat s
  rw [BitVec.toNat_add] at t
  have h1 := (x ^^^ y).isLt
  have h2 := (x &&& y).isLt
  rw [i64w, i64w, i64w]
  unfold wrap64
  omega

def dvF (a b : Int) : Int × Int × Bool := if b = 0 ∨ (a = -9223372036854775808 ∧ b = -1) then (0, 0, false) else (wrap64 (a.tdiv b), a.tmod b, true)

theorem div_bound (x y : Int) (hx : 0 ≤ x) (hy : 0 < y) : 0 ≤ x / y ∧ x / y ≤ x ∧ 0 ≤ x / y * y ∧ x / y * y ≤ x ∧ x - x / y * y = x % y := by
  have h1 := Int.ediv_nonneg hx (Int.le_of_lt hy)
  have h2 : x / y ≤ x := Int.ediv_le_self y hx
  have h3 := Int.mul_ediv_add_emod x y
  have h4 := Int.emod_nonneg x (Int.ne_of_gt hy)
  rw [Int.mul_comm] at h3
  have h5 := Int.mul_nonneg h1 (Int.le_of_lt hy)
  omega

end Go.Proofs.YtfepkekielopmaaGreatDoor.Pl
