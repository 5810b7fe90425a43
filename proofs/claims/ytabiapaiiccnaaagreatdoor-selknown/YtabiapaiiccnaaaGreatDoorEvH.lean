/- A part of a machine of our own for closed calls, and of the proof that it says what the runs do. -/
import Derived.Test.YtabiapaiiccnaaaGreatDoorEvDefs
import Derived.Test.YtabiapaiiccnaaaGreatDoorRows
set_option linter.unusedSimpArgs false
set_option linter.unusedVariables false
namespace Go.Ev
open Go Go.RowKit Go.Proofs Go.Proofs.YtabiapaiiccnaaaGreatDoor
noncomputable def h0 : H := (putL 2 Rows.laid_plumbob_core_operationNames (putL 1 Rows.laid_plumbob_core_kindNames (putL 4 Rows.laid_plumbob_ast_typeWords (putL 12 Rows.laid_plumbob_ast_prefixes (putR 10 Rows.laid_plumbob_ast_levels (putL 3 Rows.laid_plumbob_lex_marks (putL 5 Rows.laid_plumbob_lex_keywords (putL 7 Rows.laid_internal_strconv_uint64pow10 (putL 6 Rows.laid_math_bits_deBruijn64tab (putL 11 Rows.laid_math_bits_deBruijn32tab ⟨15, .nil⟩))))))))))
noncomputable def vals : FuncId → List Value → Option Value := fun f args => match f, args with
  | 256, [.string s] => cond (Nat.ble s.data.toList.length 1000000) (some (.string s)) none
  | 184, [.int .i64 n, .int .i64 (.ofNat 10)] => cond (inI64 n) (some (.string ⟨⟨itoaB n⟩⟩)) none
  | 227, [.string s, .string p] => some (.bool (prefB p.data.toList s.data.toList))
  | 300, [.string s, .int .u8 (.ofNat c)] => some (.int .i64 (firstB (c % 256) 0 s.data.toList))
  | 91, [.string s, .int .u8 (.ofNat c)] => some (.int .i64 (countB (c % 256) 0 s.data.toList))
  | _, _ => none
noncomputable def tels : FuncId → List Value → H → Option (Value × H) := fun f args h => match f with
  | 223 => (orT (copyT 126 2 h args) (orT (copyT 128 3 h args) none))
  | 38 => (orT (strT 126 2 5 h args) (orT (strT 128 3 5 h args) none))
  | 359 => makeT 5 h args
  | _ => none
noncomputable def pr0 : Prim := ⟨vals, tels⟩
end Go.Ev
