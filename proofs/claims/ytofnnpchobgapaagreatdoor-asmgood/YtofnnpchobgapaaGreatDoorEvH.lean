/- A part of a machine of our own for closed calls, and of the proof that it says what the runs do. -/
import Derived.Test.YtofnnpchobgapaaGreatDoorEvDefs
import Derived.Test.YtofnnpchobgapaaGreatDoorRows
set_option linter.unusedSimpArgs false
set_option linter.unusedVariables false
namespace Go.Ev
open Go Go.RowKit Go.Proofs Go.Proofs.YtofnnpchobgapaaGreatDoor
noncomputable def h0 : H := (putL 3 Rows.laid_plumbob_asm_names (putA 1 Rows.laid_plumbob_asm_shapes (putL 0 Rows.laid_plumbob_asm_order (putL 2 Rows.laid_plumbob_words_operations (putA 7 Rows.laid_unicode_utf8_acceptRanges (putL 4 Rows.laid_internal_strconv_uint64pow10 (putL 14 Rows.laid_math_bits_deBruijn64tab (putL 13 Rows.laid_math_bits_deBruijn32tab ⟨15, .nil⟩))))))))
noncomputable def vals : FuncId → List Value → Option Value := fun f args => match f, args with
  | 51, [.int .i64 n, .int .i64 (.ofNat 10)] => cond (inI64 n) (some (.string ⟨⟨itoaB n⟩⟩)) none
  | _, _ => none
noncomputable def tels : FuncId → List Value → H → Option (Value × H) := fun f args h => match f with
  | 65 => (orT (copyT 53 2 h args) (orT (copyT 55 2 h args) none))
  | 22 => (orT (strT 53 2 5 h args) (orT (strT 55 2 5 h args) none))
  | 108 => makeT 5 h args
  | _ => none
noncomputable def pr0 : Prim := ⟨vals, tels⟩
end Go.Ev
