/- A part of a machine of our own for closed calls, and of the proof that it says what the runs do. -/
import Derived.Test.YtnkknbckhhgfeaaGreatDoorEvDefs
import Derived.Test.YtnkknbckhhgfeaaGreatDoorRows
set_option linter.unusedSimpArgs false
set_option linter.unusedVariables false
namespace Go.Ev
open Go Go.RowKit Go.Proofs Go.Proofs.YtnkknbckhhgfeaaGreatDoor
noncomputable def h0 : H := (putL 0 Rows.laid_plumbob_ltl_params (putA 1 Rows.laid_plumbob_rtl_shapes (putL 11 Rows.laid_plumbob_words_operations (putA 5 Rows.laid_unicode_utf8_acceptRanges (putL 2 Rows.laid_internal_strconv_uint64pow10 (putL 13 Rows.laid_math_bits_deBruijn64tab (putL 12 Rows.laid_math_bits_deBruijn32tab ⟨14, .nil⟩)))))))
noncomputable def vals : FuncId → List Value → Option Value := fun f args => match f, args with
  | 165, [.int .i64 n, .int .i64 (.ofNat 10)] => cond (inI64 n) (some (.string ⟨⟨itoaB n⟩⟩)) none
  | _, _ => none
noncomputable def tels : FuncId → List Value → H → Option (Value × H) := fun f args h => match f with
  | 111 => (orT (copyT 81 2 h args) (orT (copyT 83 2 h args) (orT (copyT 195 2 h args) none)))
  | 23 => (orT (strT 81 2 5 h args) (orT (strT 83 2 5 h args) (orT (strT 195 2 5 h args) none)))
  | 153 => makeT 5 h args
  | _ => none
noncomputable def pr0 : Prim := ⟨vals, tels⟩
end Go.Ev
