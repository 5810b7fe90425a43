/- A part of a machine of our own for closed calls, and of the proof that it says what the runs do. -/
import Derived.Test.YtmbbgaomcdgpeaaGreatDoorEvDefs
import Derived.Test.YtmbbgaomcdgpeaaGreatDoorRows
set_option linter.unusedSimpArgs false
set_option linter.unusedVariables false
namespace Go.Ev
open Go Go.RowKit Go.Proofs Go.Proofs.YtmbbgaomcdgpeaaGreatDoor
noncomputable def h0 : H := (putL 2 Rows.laid_plumbob_core_operationNames (putL 1 Rows.laid_plumbob_core_kindNames (putL 4 Rows.laid_plumbob_ast_typeWords (putL 12 Rows.laid_plumbob_ast_prefixes (putR 9 Rows.laid_plumbob_ast_levels (putL 3 Rows.laid_plumbob_lex_marks (putL 5 Rows.laid_plumbob_lex_keywords (putL 6 Rows.laid_internal_strconv_uint64pow10 (putL 11 Rows.laid_math_bits_deBruijn64tab (putL 10 Rows.laid_math_bits_deBruijn32tab ⟨15, .nil⟩))))))))))
noncomputable def vals : FuncId → List Value → Option Value := fun f args => match f, args with
  | 229, [.string s] => cond (Nat.ble s.data.toList.length 1000000) (some (.string s)) none
  | 168, [.int .i64 n, .int .i64 (.ofNat 10)] => cond (inI64 n) (some (.string ⟨⟨itoaB n⟩⟩)) none
  | 200, [.string s, .string p] => some (.bool (prefB p.data.toList s.data.toList))
  | 261, [.string s, .int .u8 (.ofNat c)] => some (.int .i64 (firstB (c % 256) 0 s.data.toList))
  | 80, [.string s, .int .u8 (.ofNat c)] => some (.int .i64 (countB (c % 256) 0 s.data.toList))
  | _, _ => none
noncomputable def tels : FuncId → List Value → H → Option (Value × H) := fun f args h => match f with
  | 196 => (orT (copyT 116 2 h args) (orT (copyT 118 3 h args) none))
  | 31 => (orT (strT 116 2 5 h args) (orT (strT 118 3 5 h args) none))
  | 315 => makeT 5 h args
  | _ => none
noncomputable def pr0 : Prim := ⟨vals, tels⟩
end Go.Ev
