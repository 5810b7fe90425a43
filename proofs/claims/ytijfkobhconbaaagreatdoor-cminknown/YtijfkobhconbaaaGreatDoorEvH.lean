/- A part of a machine of our own for closed calls, and of the proof that it says what the runs do. -/
import Derived.Test.YtijfkobhconbaaaGreatDoorEvDefs
import Derived.Test.YtijfkobhconbaaaGreatDoorRows
set_option linter.unusedSimpArgs false
set_option linter.unusedVariables false
namespace Go.Ev
open Go Go.RowKit Go.Proofs Go.Proofs.YtijfkobhconbaaaGreatDoor
noncomputable def h0 : H := (putL 1 Rows.laid_plumbob_cmin_operationNames (putL 0 Rows.laid_plumbob_cmin_kindNames (putL 4 Rows.laid_plumbob_ast_typeWords (putL 12 Rows.laid_plumbob_ast_prefixes (putR 11 Rows.laid_plumbob_ast_levels (putL 3 Rows.laid_plumbob_lex_marks (putL 6 Rows.laid_plumbob_lex_keywords (putL 5 Rows.laid_internal_strconv_uint64pow10 (putL 8 Rows.laid_math_bits_deBruijn64tab (putL 7 Rows.laid_math_bits_deBruijn32tab ⟨15, .nil⟩))))))))))
noncomputable def vals : FuncId → List Value → Option Value := fun f args => match f, args with
  | 236, [.string s] => cond (Nat.ble s.data.toList.length 1000000) (some (.string s)) none
  | 144, [.int .i64 n, .int .i64 (.ofNat 10)] => cond (inI64 n) (some (.string ⟨⟨itoaB n⟩⟩)) none
  | 142, [.string s, .string p] => some (.bool (prefB p.data.toList s.data.toList))
  | 273, [.string s, .int .u8 (.ofNat c)] => some (.int .i64 (firstB (c % 256) 0 s.data.toList))
  | 95, [.string s, .int .u8 (.ofNat c)] => some (.int .i64 (countB (c % 256) 0 s.data.toList))
  | _, _ => none
noncomputable def tels : FuncId → List Value → H → Option (Value × H) := fun f args h => match f with
  | 138 => (orT (copyT 74 2 h args) (orT (copyT 76 3 h args) none))
  | 19 => (orT (strT 74 2 5 h args) (orT (strT 76 3 5 h args) none))
  | 265 => makeT 5 h args
  | _ => none
noncomputable def pr0 : Prim := ⟨vals, tels⟩
end Go.Ev
