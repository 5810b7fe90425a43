/- The lexer as a function that the kernel reckons; some texts, cut. -/
import Derived.Test.YtkbihcicnffjdaaDoorLEach2
namespace Go.Proofs.YtkbihcicnffjdaaDoor
open Go.RowKit
set_option linter.unusedSimpArgs false
set_option linter.unusedVariables false
def kwD (s : ByteArray) : Bool := kwList.any (fun k => k.data.toList == s.data.toList)
theorem isKw_eq (s : ByteArray) : isKw s = kwD s := by
  unfold isKw kwD
  congr 1
  funext k
  simp [ByteArray.toList_eq]
def nameD (s : ByteArray) : WW × Bool := if 40 < s.size then (noWW, false) else (⟨if kwD s = true then 3 else 1, s, 0⟩, true)
theorem nameW_eq (s : ByteArray) : nameW s = nameD s := by unfold nameW nameD; rw [isKw_eq]
def wordD (t : ByteArray) : WW × Bool :=
  if nameB (byteAt t 0) = true then (if digitB (byteAt t 0) = true then numW (runOf t) else nameD (runOf t)) else markW t
theorem wordW_eq (t : ByteArray) : wordW t = wordD t := by unfold wordW wordD; rw [nameW_eq]
def nextD (t : ByteArray) (i : Nat) : Nat × Option WW :=
  let G := gaps t (t.size + 1 - i) i
  (G.1, if G.2 = true ∧ G.1 < t.size ∧ (wordD (t.extract G.1 t.size)).2 = true then some (wordD (t.extract G.1 t.size)).1 else none)
theorem nextW_eq (t : ByteArray) (i : Nat) : nextW t i = nextD t i := by unfold nextW nextD; simp only [wordW_eq]
def lexFD (t : ByteArray) : Nat → Nat → List (WW × Nat) × Nat
  | 0, i => ([], i)
  | f + 1, i => match nextD t i with
    | (j, none) => ([], j)
    | (j, some x) => ((x, j) :: (lexFD t f (j + x.s.size)).1, (lexFD t f (j + x.s.size)).2)
theorem lexF_eq (t : ByteArray) : ∀ f i, lexF t f i = lexFD t f i
  | 0, i => rfl
  | f + 1, i => by
    rw [lexF, lexFD, nextW_eq]
    cases nextD t i with
    | mk j o =>
      cases o with
      | none => rfl
      | some x => simp only [lexF_eq t f]
def lexD (t : ByteArray) : List (WW × Nat) × Nat := lexFD t (t.size + 1) 0
theorem lexAll_eq (t : ByteArray) : lexAll t = lexD t := lexF_eq t _ _
set_option maxRecDepth 100000 in
theorem lex_a : lexAll ⟨#[97, 49, 32, 62, 62, 61, 32, 48, 120, 49, 70]⟩ = ([(⟨1, ⟨#[97, 49]⟩, 0⟩, 0), (⟨4, ⟨#[62, 62]⟩, 0⟩, 3), (⟨4, ⟨#[61]⟩, 0⟩, 5), (⟨2, ⟨#[48, 120, 49, 70]⟩, 31⟩, 7)], 11) := by rw [lexAll_eq]; kernel_rfl
set_option maxRecDepth 100000 in
theorem lex_ab : lexAll ⟨#[97, 32, 98]⟩ = ([(⟨1, ⟨#[97]⟩, 0⟩, 0), (⟨1, ⟨#[98]⟩, 0⟩, 2)], 3) := by rw [lexAll_eq]; kernel_rfl
set_option maxRecDepth 100000 in
theorem lex_1a : lexAll ⟨#[49, 97]⟩ = ([], 0) := by rw [lexAll_eq]; kernel_rfl
set_option maxRecDepth 100000 in
theorem lex_at : lexAll ⟨#[10, 32, 64]⟩ = ([], 2) := by rw [lexAll_eq]; kernel_rfl
set_option maxRecDepth 100000 in
theorem lex_rem : lexAll ⟨#[47, 42, 32, 120]⟩ = ([], 0) := by rw [lexAll_eq]; kernel_rfl
set_option maxRecDepth 100000 in
theorem lex_int : lexAll ⟨#[105, 110, 116, 32, 105, 110, 32, 47, 47, 32, 120, 10, 47, 42, 32, 10, 32, 42, 47, 111, 117, 116]⟩ = ([(⟨3, ⟨#[105, 110, 116]⟩, 0⟩, 0), (⟨3, ⟨#[105, 110]⟩, 0⟩, 4), (⟨3, ⟨#[111, 117, 116]⟩, 0⟩, 19)], 22) := by rw [lexAll_eq]; kernel_rfl
end Go.Proofs.YtkbihcicnffjdaaDoor
