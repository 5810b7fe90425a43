/- A part of a machine of our own for closed calls, and of the proof that it says what the runs do. -/
import Derived.Test.YtpdhaghhhaobhaaGreatDoorEvDefs
import Derived.Test.YtpdhaghhhaobhaaGreatDoorRows
set_option linter.unusedSimpArgs false
set_option linter.unusedVariables false
namespace Go.Ev
open Go Go.RowKit Go.Proofs Go.Proofs.YtpdhaghhhaobhaaGreatDoor
noncomputable def h0 : H := (putL 2 Rows.laid_plumbob_ast_typeWords (putL 12 Rows.laid_plumbob_ast_prefixes (putR 7 Rows.laid_plumbob_ast_levels (putL 1 Rows.laid_plumbob_lex_marks (putL 3 Rows.laid_plumbob_lex_keywords (putL 4 Rows.laid_internal_strconv_uint64pow10 (putL 11 Rows.laid_math_bits_deBruijn64tab (putL 10 Rows.laid_math_bits_deBruijn32tab ⟨13, .nil⟩))))))))
noncomputable def vals : FuncId → List Value → Option Value := fun f args => match f, args with
  | 237, [.string s] => cond (Nat.ble s.data.toList.length 1000000) (some (.string s)) none
  | 143, [.int .i64 n, .int .i64 (.ofNat 10)] => cond (inI64 n) (some (.string ⟨⟨itoaB n⟩⟩)) none
  | 196, [.string s, .string p] => some (.bool (prefB p.data.toList s.data.toList))
  | 262, [.string s, .int .u8 (.ofNat c)] => some (.int .i64 (firstB (c % 256) 0 s.data.toList))
  | 113, [.string s, .int .u8 (.ofNat c)] => some (.int .i64 (countB (c % 256) 0 s.data.toList))
  | _, _ => none
noncomputable def pr0 : Prim := bare vals
end Go.Ev
