/- A closed fact of the program's tie (see TieZ). -/
import Derived.Test.YtdpmaekomdbmgaaGreatDoorRows
import Derived.LaidByTextLater
namespace Go.Proofs.YtdpmaekomdbmgaaGreatDoor
open Go
theorem tieA6 : varsNamedLaterB Tryz.prog (varsId Tryz.prog) [("plumbob/lex.marks", Rows.laid_plumbob_lex_marks), ("strconv.ErrSyntax", Rows.laid_strconv_ErrSyntax), ("strconv.ErrRange", Rows.laid_strconv_ErrRange), ("internal/strconv.uint64pow10", Rows.laid_internal_strconv_uint64pow10), ("math/bits.deBruijn32tab", Rows.laid_math_bits_deBruijn32tab), ("math/bits.deBruijn64tab", Rows.laid_math_bits_deBruijn64tab), ("plumbob/lex.keywords", Rows.laid_plumbob_lex_keywords), ("plumbob/ast.typeWords", Rows.laid_plumbob_ast_typeWords), ("plumbob/ast.levels", Rows.laid_plumbob_ast_levels), ("plumbob/ast.prefixes", Rows.laid_plumbob_ast_prefixes), ("unicode/utf8.acceptRanges", Rows.laid_unicode_utf8_acceptRanges), ("plumbob/rtl.shapes", Rows.laid_plumbob_rtl_shapes)] = true := by kernel_rfl
end Go.Proofs.YtdpmaekomdbmgaaGreatDoor
