
import Derived.Test.YtncondlfngeilaaGreatDoorEvDefs
import Derived.Test.YtncondlfngeilaaGreatDoorRows
set_option linter.unusedSimpArgs false
set_option linter.unusedVariables false
namespace Go.Ev
open Go Go.RowKit Go.Proofs Go.Proofs.YtncondlfngeilaaGreatDoor
noncomputable def h0 : H := (putL 1 Rows.laid_plumbob_ltl_params (putA 0 Rows.laid_plumbob_rtl_shapes (putL 11 Rows.laid_plumbob_words_operations (putA 5 Rows.laid_unicode_utf8_acceptRanges (putL 2 Rows.laid_internal_strconv_uint64pow10 (putL 13 Rows.laid_math_bits_deBruijn64tab (putL 12 Rows.laid_math_bits_deBruijn32tab ⟨14, .nil⟩)))))))
noncomputable def vals : FuncId → List Value → Option Value := fun f args => match f, args with
  | 176, [.int .i64 n, .int .i64 (.ofNat 10)] => cond (inI64 n) (some (.string ⟨⟨itoaB n⟩⟩)) none
  | _, _ => none
noncomputable def tels : FuncId → List Value → H → Option (Value × H) := fun f args h => match f with
  | 122 => (orT (copyT 87 2 h args) (orT (copyT 89 2 h args) (orT (copyT 208 2 h args) none)))
  | 29 => (orT (strT 87 2 5 h args) (orT (strT 89 2 5 h args) (orT (strT 208 2 5 h args) none)))
  | 164 => makeT 5 h args
  | _ => none
noncomputable def pr0 : Prim := ⟨vals, tels⟩
end Go.Ev
