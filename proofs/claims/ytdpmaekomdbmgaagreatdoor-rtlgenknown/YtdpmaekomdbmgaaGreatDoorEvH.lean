/- A part of a machine of our own for closed calls, and of the proof that it says what the runs do. -/
import Derived.Test.YtdpmaekomdbmgaaGreatDoorEvDefs
import Derived.Test.YtdpmaekomdbmgaaGreatDoorRows
set_option linter.unusedSimpArgs false
set_option linter.unusedVariables false
namespace Go.Ev
open Go Go.RowKit Go.Proofs Go.Proofs.YtdpmaekomdbmgaaGreatDoor
noncomputable def h0 : H := (putA 0 Rows.laid_plumbob_rtl_shapes (putA 13 Rows.laid_unicode_utf8_acceptRanges (putL 10 Rows.laid_plumbob_ast_prefixes (putR 9 Rows.laid_plumbob_ast_levels (putL 3 Rows.laid_plumbob_ast_typeWords (putL 4 Rows.laid_plumbob_lex_keywords (putL 5 Rows.laid_math_bits_deBruijn64tab (putL 11 Rows.laid_math_bits_deBruijn32tab (putL 6 Rows.laid_internal_strconv_uint64pow10 (putL 2 Rows.laid_plumbob_lex_marks ⟨14, .nil⟩))))))))))
noncomputable def vals : FuncId → List Value → Option Value := fun f args => match f, args with
  | 304, [.string s] => cond (Nat.ble s.data.toList.length 1000000) (some (.string s)) none
  | 229, [.int .i64 n, .int .i64 (.ofNat 10)] => cond (inI64 n) (some (.string ⟨⟨itoaB n⟩⟩)) none
  | 279, [.string s, .string p] => some (.bool (prefB p.data.toList s.data.toList))
  | 354, [.string s, .int .u8 (.ofNat c)] => some (.int .i64 (firstB (c % 256) 0 s.data.toList))
  | 125, [.string s, .int .u8 (.ofNat c)] => some (.int .i64 (countB (c % 256) 0 s.data.toList))
  | _, _ => none
noncomputable def tels : FuncId → List Value → H → Option (Value × H) := fun f args h => match f with
  | 384 => (orT (copyT 412 2 h args) none)
  | 312 => (orT (strT 412 2 5 h args) none)
  | 429 => makeT 5 h args
  | _ => none
noncomputable def pr0 : Prim := ⟨vals, tels⟩
end Go.Ev
