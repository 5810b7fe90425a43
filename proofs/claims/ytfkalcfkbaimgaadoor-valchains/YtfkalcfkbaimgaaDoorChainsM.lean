/- The plain mathematics behind the statement ValChains: sums, products and bits may be grouped as one likes. -/
import Derived.Test.YtfkalcfkbaimgaaDoorPlain
namespace Go.Proofs.YtfkalcfkbaimgaaDoor.Pl
open Go Go.RowKit
set_option linter.unusedSimpArgs false

theorem w64_rep (x : Int) : ∃ t : Int, wrap64 x = x + t * 18446744073709551616 := ⟨-((x + 9223372036854775808) / 18446744073709551616), by unfold wrap64; omega⟩
theorem w64_shift (x t : Int) : wrap64 (x + t * 18446744073709551616) = wrap64 x := by unfold wrap64; omega
theorem w64_mul_left (x y : Int) : wrap64 (wrap64 x * y) = wrap64 (x * y) := by
  obtain ⟨t, e⟩ := w64_rep x
  rw [e, Int.add_mul, Int.mul_assoc, Int.mul_comm 18446744073709551616 y, ← Int.mul_assoc, w64_shift]
theorem w64_mul_right (x y : Int) : wrap64 (x * wrap64 y) = wrap64 (x * y) := by
  rw [Int.mul_comm, w64_mul_left, Int.mul_comm]
theorem w64_add2 (x y : Int) : wrap64 (wrap64 x + wrap64 y) = wrap64 (x + y) := by unfold wrap64; omega
theorem add_assoc64 (a b c : Int) : wrap64 (wrap64 (a + b) + c) = wrap64 (a + wrap64 (b + c)) := by unfold wrap64; omega
theorem mul_assoc64 (a b c : Int) : wrap64 (wrap64 (a * b) * c) = wrap64 (a * wrap64 (b * c)) := by
  rw [w64_mul_left, w64_mul_right, Int.mul_assoc]
theorem distrib64 (a b c : Int) : wrap64 (a * wrap64 (b + c)) = wrap64 (wrap64 (a * b) + wrap64 (a * c)) := by
  rw [w64_mul_right, w64_add2, Int.mul_add]

theorem ofInt_wrap (x : BitVec 64) : BitVec.ofInt 64 (IntKind.i64.wrap (x.toNat : Int)) = x := by
  rw [show IntKind.i64.wrap (x.toNat : Int) = wrap64 (x.toNat : Int) from IntWalk.i64_left _]
  apply BitVec.eq_of_toNat_eq
  rw [BitVec.toNat_ofInt]
  have := x.isLt
  unfold wrap64
  omega
theorem and_assoc64 (a b c : Int) : bits .and .i64 (bits .and .i64 a b) c = bits .and .i64 a (bits .and .i64 b c) := by
  show IntKind.i64.wrap ((BitVec.ofInt 64 (IntKind.i64.wrap ((BitVec.ofInt 64 a &&& BitVec.ofInt 64 b).toNat : Int)) &&& BitVec.ofInt 64 c).toNat : Int) = IntKind.i64.wrap ((BitVec.ofInt 64 a &&& BitVec.ofInt 64 (IntKind.i64.wrap ((BitVec.ofInt 64 b &&& BitVec.ofInt 64 c).toNat : Int))).toNat : Int)
  rw [ofInt_wrap, ofInt_wrap, BitVec.and_assoc]
theorem or_assoc64 (a b c : Int) : bits .or .i64 (bits .or .i64 a b) c = bits .or .i64 a (bits .or .i64 b c) := by
  show IntKind.i64.wrap ((BitVec.ofInt 64 (IntKind.i64.wrap ((BitVec.ofInt 64 a ||| BitVec.ofInt 64 b).toNat : Int)) ||| BitVec.ofInt 64 c).toNat : Int) = IntKind.i64.wrap ((BitVec.ofInt 64 a ||| BitVec.ofInt 64 (IntKind.i64.wrap ((BitVec.ofInt 64 b ||| BitVec.ofInt 64 c).toNat : Int))).toNat : Int)
  rw [ofInt_wrap, ofInt_wrap, BitVec.or_assoc]
theorem xor_assoc64 (a b c : Int) : bits .xor .i64 (bits .xor .i64 a b) c = bits .xor .i64 a (bits .xor .i64 b c) := by
  show IntKind.i64.wrap ((BitVec.ofInt 64 (IntKind.i64.wrap ((BitVec.ofInt 64 a ^^^ BitVec.ofInt 64 b).toNat : Int)) ^^^ BitVec.ofInt 64 c).toNat : Int) = IntKind.i64.wrap ((BitVec.ofInt 64 a ^^^ BitVec.ofInt 64 (IntKind.i64.wrap ((BitVec.ofInt 64 b ^^^ BitVec.ofInt 64 c).toNat : Int))).toNat : Int)
  rw [ofInt_wrap, ofInt_wrap, BitVec.xor_assoc]

theorem bin11 (a b : Int) : binF 11 ⟨1, a, 0⟩ ⟨1, b, 0⟩ = (⟨1, wrap64 (a + b), 0⟩, true) := by simp [binF, kindF, goodF, intsF, ofF]
theorem bin13 (a b : Int) : binF 13 ⟨1, a, 0⟩ ⟨1, b, 0⟩ = (⟨1, wrap64 (a * b), 0⟩, true) := by simp [binF, kindF, goodF, intsF, ofF]
theorem bin16 (a b : Int) : binF 16 ⟨1, a, 0⟩ ⟨1, b, 0⟩ = (⟨1, bits .and .i64 a b, 0⟩, true) := by simp [binF, kindF, goodF, intsF, ofF]
theorem bin17 (a b : Int) : binF 17 ⟨1, a, 0⟩ ⟨1, b, 0⟩ = (⟨1, bits .or .i64 a b, 0⟩, true) := by simp [binF, kindF, goodF, intsF, ofF]
theorem bin18 (a b : Int) : binF 18 ⟨1, a, 0⟩ ⟨1, b, 0⟩ = (⟨1, bits .xor .i64 a b, 0⟩, true) := by simp [binF, kindF, goodF, intsF, ofF]

end Go.Proofs.YtfkalcfkbaimgaaDoor.Pl
