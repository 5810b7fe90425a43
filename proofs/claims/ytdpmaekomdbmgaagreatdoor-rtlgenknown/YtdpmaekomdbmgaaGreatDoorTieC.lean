/- A closed fact of the program's tie (see TieZ). -/
import Derived.Test.YtdpmaekomdbmgaaGreatDoorRows
import Derived.LaidByTextLater
namespace Go.Proofs.YtdpmaekomdbmgaaGreatDoor
open Go
theorem tieA9 : ∀ os tape, (DataW.laidRun Tryz.prog (varsWorld Tryz.prog 400 (varsId Tryz.prog) os tape).memory 8 (([("plumbob/lex.marks", Rows.laid_plumbob_lex_marks), ("strconv.ErrSyntax", Rows.laid_strconv_ErrSyntax), ("strconv.ErrRange", Rows.laid_strconv_ErrRange), ("internal/strconv.uint64pow10", Rows.laid_internal_strconv_uint64pow10), ("math/bits.deBruijn32tab", Rows.laid_math_bits_deBruijn32tab), ("math/bits.deBruijn64tab", Rows.laid_math_bits_deBruijn64tab), ("plumbob/lex.keywords", Rows.laid_plumbob_lex_keywords), ("plumbob/ast.typeWords", Rows.laid_plumbob_ast_typeWords), ("plumbob/ast.levels", Rows.laid_plumbob_ast_levels), ("plumbob/ast.prefixes", Rows.laid_plumbob_ast_prefixes), ("unicode/utf8.acceptRanges", Rows.laid_unicode_utf8_acceptRanges), ("plumbob/rtl.shapes", Rows.laid_plumbob_rtl_shapes)] : List (String × DataW Unit)).map (·.1))).map (fun x => decide x.2.Nodup && laidRowsB Tryz.prog (varsWorld Tryz.prog 400 (varsId Tryz.prog) os tape).memory x.2) = some true := fun _ _ => by kernel_rfl
end Go.Proofs.YtdpmaekomdbmgaaGreatDoor
