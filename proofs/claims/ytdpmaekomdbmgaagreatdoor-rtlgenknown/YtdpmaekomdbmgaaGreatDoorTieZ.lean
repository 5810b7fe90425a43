/- The program's tie, of closed facts that stand in texts of their own, and the row's. -/
import Derived.Test.YtdpmaekomdbmgaaGreatDoorTieA
import Derived.Test.YtdpmaekomdbmgaaGreatDoorTieB
import Derived.Test.YtdpmaekomdbmgaaGreatDoorTieC
import Derived.Test.YtdpmaekomdbmgaaGreatDoorTieD
import Derived.Test.YtdpmaekomdbmgaaGreatDoorTieE
import Derived.Test.YtdpmaekomdbmgaaGreatDoorTieF
import Derived.Test.YtdpmaekomdbmgaaGreatDoorTieG
import Derived.LaidByTextLater
import Derived.SevenTiedAt
namespace Go.Proofs.YtdpmaekomdbmgaaGreatDoor
open Go
theorem pin_laid_unicode_utf8_first : Tryz.pinned.checked.prog.pinnedFits "unicode/utf8.first" = true := by kernel_rfl
theorem noOwnUnsafe : Tryz.pinned.checked.prog.headLifts.contains "ownunsafe" = false := by kernel_rfl
theorem fits1 : Tryz.pinned.checked.prog.listedFits [("plumbob/lex.marks", Rows.laid_plumbob_lex_marks), ("strconv.ErrSyntax", Rows.laid_strconv_ErrSyntax), ("strconv.ErrRange", Rows.laid_strconv_ErrRange), ("internal/strconv.uint64pow10", Rows.laid_internal_strconv_uint64pow10), ("math/bits.deBruijn32tab", Rows.laid_math_bits_deBruijn32tab), ("math/bits.deBruijn64tab", Rows.laid_math_bits_deBruijn64tab), ("plumbob/lex.keywords", Rows.laid_plumbob_lex_keywords), ("plumbob/ast.typeWords", Rows.laid_plumbob_ast_typeWords), ("plumbob/ast.levels", Rows.laid_plumbob_ast_levels), ("plumbob/ast.prefixes", Rows.laid_plumbob_ast_prefixes), ("unicode/utf8.first", Rows.laid_unicode_utf8_first), ("unicode/utf8.acceptRanges", Rows.laid_unicode_utf8_acceptRanges), ("plumbob/rtl.shapes", Rows.laid_plumbob_rtl_shapes)] = true := by
  unfold Program.listedFits
  rw [noOwnUnsafe]
  kernel_rfl
theorem tie : Tryz.prog.laidByTextLater [("plumbob/lex.marks", Rows.laid_plumbob_lex_marks), ("strconv.ErrSyntax", Rows.laid_strconv_ErrSyntax), ("strconv.ErrRange", Rows.laid_strconv_ErrRange), ("internal/strconv.uint64pow10", Rows.laid_internal_strconv_uint64pow10), ("math/bits.deBruijn32tab", Rows.laid_math_bits_deBruijn32tab), ("math/bits.deBruijn64tab", Rows.laid_math_bits_deBruijn64tab), ("plumbob/lex.keywords", Rows.laid_plumbob_lex_keywords), ("plumbob/ast.typeWords", Rows.laid_plumbob_ast_typeWords), ("plumbob/ast.levels", Rows.laid_plumbob_ast_levels), ("plumbob/ast.prefixes", Rows.laid_plumbob_ast_prefixes), ("unicode/utf8.acceptRanges", Rows.laid_unicode_utf8_acceptRanges), ("plumbob/rtl.shapes", Rows.laid_plumbob_rtl_shapes)] [.data, .sentinel, .sentinel, .data, .data, .data, .data, .data, .data, .data, .data, .data] true :=
  Program.laidByTextLater_by_run 400 8 tieA1 tieA2 tieA3 tieA4 tieA5 tieA6 tieA7 tieA8 tieA9
theorem rtlgenKnown_row_tie : Rows.rtlgenKnownRow.laidByTextAt .later Tryz.pinned [.data, .sentinel, .sentinel, .data, .data, .data, .data, .data, .data, .data, .pinned, .data, .data] true :=
  OpenClaim.laidByTextAt_pinned rfl rfl tie rfl rfl rfl rfl (fun y hy _e => by
    simp only [Rows.rtlgenKnownRow, List.zip_cons_cons, List.zip_nil_right, List.mem_cons, List.mem_nil_iff, or_false] at hy
    rcases hy with rfl | rfl | rfl | rfl | rfl | rfl | rfl | rfl | rfl | rfl | rfl | rfl | rfl
    · cases _e
    · cases _e
    · cases _e
    · cases _e
    · cases _e
    · cases _e
    · cases _e
    · cases _e
    · cases _e
    · cases _e
    · exact ⟨pin_laid_unicode_utf8_first, by kernel_rfl⟩
    · cases _e
    · cases _e) fits1
end Go.Proofs.YtdpmaekomdbmgaaGreatDoor
