/- A part of a machine of our own for closed calls, and of the proof that it says what the runs do. -/
import Derived.Test.YtdpmaekomdbmgaaGreatDoorEvTab
import Derived.Test.YtdpmaekomdbmgaaGreatDoorEvH
set_option linter.unusedSimpArgs false
set_option linter.unusedVariables false
namespace Go.Ev
open Go Go.RowKit Go.Proofs Go.Proofs.YtdpmaekomdbmgaaGreatDoor

theorem gsize : Tryz.prog.globals.size = 14 := by kernel_rfl
theorem gn2 : Tryz.prog.globalNamed "plumbob/lex.marks" = some 2 := by kernel_rfl
theorem gty2 : (Tryz.prog.globals[2]?).map (·.type) = some 390 := by kernel_rfl
theorem und390 : Tryz.prog.underlying 390 = some (.array 31 9) := by kernel_rfl
theorem scal9 : Scal Tryz.prog 9 := ⟨by kernel_rfl, .inr (.inl (by kernel_rfl))⟩
theorem gn7 : Tryz.prog.globalNamed "strconv.ErrSyntax" = some 7 := by kernel_rfl
theorem gn8 : Tryz.prog.globalNamed "strconv.ErrRange" = some 8 := by kernel_rfl
theorem gn6 : Tryz.prog.globalNamed "internal/strconv.uint64pow10" = some 6 := by kernel_rfl
theorem gty6 : (Tryz.prog.globals[6]?).map (·.type) = some 494 := by kernel_rfl
theorem und494 : Tryz.prog.underlying 494 = some (.array 20 378) := by kernel_rfl
theorem scal378 : Scal Tryz.prog 378 := ⟨by kernel_rfl, .inl ⟨.u64, by kernel_rfl⟩⟩
theorem gn11 : Tryz.prog.globalNamed "math/bits.deBruijn32tab" = some 11 := by kernel_rfl
theorem gty11 : (Tryz.prog.globals[11]?).map (·.type) = some 517 := by kernel_rfl
theorem und517 : Tryz.prog.underlying 517 = some (.array 32 5) := by kernel_rfl
theorem scal5 : Scal Tryz.prog 5 := ⟨by kernel_rfl, .inl ⟨.u8, by kernel_rfl⟩⟩
theorem gn5 : Tryz.prog.globalNamed "math/bits.deBruijn64tab" = some 5 := by kernel_rfl
theorem gty5 : (Tryz.prog.globals[5]?).map (·.type) = some 471 := by kernel_rfl
theorem und471 : Tryz.prog.underlying 471 = some (.array 64 5) := by kernel_rfl
theorem gn4 : Tryz.prog.globalNamed "plumbob/lex.keywords" = some 4 := by kernel_rfl
theorem gty4 : (Tryz.prog.globals[4]?).map (·.type) = some 444 := by kernel_rfl
theorem und444 : Tryz.prog.underlying 444 = some (.array 15 9) := by kernel_rfl
theorem gn3 : Tryz.prog.globalNamed "plumbob/ast.typeWords" = some 3 := by kernel_rfl
theorem gty3 : (Tryz.prog.globals[3]?).map (·.type) = some 395 := by kernel_rfl
theorem und395 : Tryz.prog.underlying 395 = some (.array 5 9) := by kernel_rfl
theorem gn9 : Tryz.prog.globalNamed "plumbob/ast.levels" = some 9 := by kernel_rfl
theorem gty9 : (Tryz.prog.globals[9]?).map (·.type) = some 506 := by kernel_rfl
theorem und506 : Tryz.prog.underlying 506 = some (.array 10 101) := by kernel_rfl
theorem und101 : Tryz.prog.underlying 101 = some (.slice 9) := by kernel_rfl
theorem gn10 : Tryz.prog.globalNamed "plumbob/ast.prefixes" = some 10 := by kernel_rfl
theorem gty10 : (Tryz.prog.globals[10]?).map (·.type) = some 395 := by kernel_rfl
theorem gn12 : Tryz.prog.globalNamed "unicode/utf8.first" = some 12 := by kernel_rfl
theorem gn13 : Tryz.prog.globalNamed "unicode/utf8.acceptRanges" = some 13 := by kernel_rfl
theorem gty13 : (Tryz.prog.globals[13]?).map (·.type) = some 522 := by kernel_rfl
theorem und522 : Tryz.prog.underlying 522 = some (.array 16 521) := by kernel_rfl
theorem fld521 : ∃ fs : Array Field, Tryz.prog.underlying 521 = some (.struct fs) ∧ fs.size = 2 ∧ ∀ (i : Nat) f, fs[i]? = some f → f.offset = i ∧ Scal Tryz.prog f.type := structs_ok (by kernel_rfl)
theorem gn0 : Tryz.prog.globalNamed "plumbob/rtl.shapes" = some 0 := by kernel_rfl
theorem gty0 : (Tryz.prog.globals[0]?).map (·.type) = some 313 := by kernel_rfl
theorem und313 : Tryz.prog.underlying 313 = some (.array 15 231) := by kernel_rfl
theorem fld231 : ∃ fs : Array Field, Tryz.prog.underlying 231 = some (.struct fs) ∧ fs.size = 9 ∧ ∀ (i : Nat) f, fs[i]? = some f → f.offset = i ∧ Scal Tryz.prog f.type := structs_ok (by kernel_rfl)

theorem size_of {B : World} {n : String} {g : Nat} {d : DataW Unit} {r : List (String × DataW Unit)} {ps : List MemPlace} (hg : Tryz.prog.globalNamed n = some g) (hL : DataW.LaidVars Tryz.prog B ((n, d) :: r) ps) : g < B.heap.size := by
  obtain ⟨g', t, cs, fuel, p, q, h1, _, h3, _, _, _⟩ := hL
  rw [hg] at h1; cases h1
  simp only [World.var?, hg, Option.bind_some] at h3
  cases hh : B.heap[g]? with
  | none => simp [hh] at h3
  | some o => exact (Array.getElem?_eq_some_iff.1 hh).1

theorem tabs_seat {B : World} (hm : laidMet Tryz.prog Rows.rtlgenKnownRow.laid B) : ∃ σ, TabSt Tryz.prog B σ h0 := by
  obtain ⟨ps, hL, _⟩ := hm
  have L0 : DataW.LaidVars Tryz.prog B [("plumbob/lex.marks", Rows.laid_plumbob_lex_marks), ("strconv.ErrSyntax", Rows.laid_strconv_ErrSyntax), ("strconv.ErrRange", Rows.laid_strconv_ErrRange), ("internal/strconv.uint64pow10", Rows.laid_internal_strconv_uint64pow10), ("math/bits.deBruijn32tab", Rows.laid_math_bits_deBruijn32tab), ("math/bits.deBruijn64tab", Rows.laid_math_bits_deBruijn64tab), ("plumbob/lex.keywords", Rows.laid_plumbob_lex_keywords), ("plumbob/ast.typeWords", Rows.laid_plumbob_ast_typeWords), ("plumbob/ast.levels", Rows.laid_plumbob_ast_levels), ("plumbob/ast.prefixes", Rows.laid_plumbob_ast_prefixes), ("unicode/utf8.first", Rows.laid_unicode_utf8_first), ("unicode/utf8.acceptRanges", Rows.laid_unicode_utf8_acceptRanges), ("plumbob/rtl.shapes", Rows.laid_plumbob_rtl_shapes)] ps := hL
  obtain ⟨p1, L1⟩ := laid_skip L0
  obtain ⟨p2, L2⟩ := laid_skip L1
  obtain ⟨p3, L3⟩ := laid_skip L2
  obtain ⟨p4, L4⟩ := laid_skip L3
  obtain ⟨p5, L5⟩ := laid_skip L4
  obtain ⟨p6, L6⟩ := laid_skip L5
  obtain ⟨p7, L7⟩ := laid_skip L6
  obtain ⟨p8, L8⟩ := laid_skip L7
  obtain ⟨p9, L9⟩ := laid_skip L8
  obtain ⟨p10, L10⟩ := laid_skip L9
  obtain ⟨p11, L11⟩ := laid_skip L10
  obtain ⟨p12, L12⟩ := laid_skip L11
  have hs : Tryz.prog.globals.size ≤ B.heap.size := by have := size_of gn13 L11; rw [gsize]; omega
  have k0 := TabSt.start (P := Tryz.prog) (B := B) hs
  generalize glob0 Tryz.prog.globals.size = σ at k0
  rw [gsize] at k0
  have k1 := tab_lits (ds := parts Rows.laid_plumbob_lex_marks) (r := [("strconv.ErrSyntax", Rows.laid_strconv_ErrSyntax), ("strconv.ErrRange", Rows.laid_strconv_ErrRange), ("internal/strconv.uint64pow10", Rows.laid_internal_strconv_uint64pow10), ("math/bits.deBruijn32tab", Rows.laid_math_bits_deBruijn32tab), ("math/bits.deBruijn64tab", Rows.laid_math_bits_deBruijn64tab), ("plumbob/lex.keywords", Rows.laid_plumbob_lex_keywords), ("plumbob/ast.typeWords", Rows.laid_plumbob_ast_typeWords), ("plumbob/ast.levels", Rows.laid_plumbob_ast_levels), ("plumbob/ast.prefixes", Rows.laid_plumbob_ast_prefixes), ("unicode/utf8.first", Rows.laid_unicode_utf8_first), ("unicode/utf8.acceptRanges", Rows.laid_unicode_utf8_acceptRanges), ("plumbob/rtl.shapes", Rows.laid_plumbob_rtl_shapes)]) (ps := ps) L0 gn2 gty2 und390 scal9 (by simp [parts, Rows.laid_plumbob_lex_marks]) k0
  have k2 := tab_lits (ds := parts Rows.laid_internal_strconv_uint64pow10) (r := [("math/bits.deBruijn32tab", Rows.laid_math_bits_deBruijn32tab), ("math/bits.deBruijn64tab", Rows.laid_math_bits_deBruijn64tab), ("plumbob/lex.keywords", Rows.laid_plumbob_lex_keywords), ("plumbob/ast.typeWords", Rows.laid_plumbob_ast_typeWords), ("plumbob/ast.levels", Rows.laid_plumbob_ast_levels), ("plumbob/ast.prefixes", Rows.laid_plumbob_ast_prefixes), ("unicode/utf8.first", Rows.laid_unicode_utf8_first), ("unicode/utf8.acceptRanges", Rows.laid_unicode_utf8_acceptRanges), ("plumbob/rtl.shapes", Rows.laid_plumbob_rtl_shapes)]) (ps := p3) L3 gn6 gty6 und494 scal378 (by simp [parts, Rows.laid_internal_strconv_uint64pow10]) k1
  have k3 := tab_lits (ds := parts Rows.laid_math_bits_deBruijn32tab) (r := [("math/bits.deBruijn64tab", Rows.laid_math_bits_deBruijn64tab), ("plumbob/lex.keywords", Rows.laid_plumbob_lex_keywords), ("plumbob/ast.typeWords", Rows.laid_plumbob_ast_typeWords), ("plumbob/ast.levels", Rows.laid_plumbob_ast_levels), ("plumbob/ast.prefixes", Rows.laid_plumbob_ast_prefixes), ("unicode/utf8.first", Rows.laid_unicode_utf8_first), ("unicode/utf8.acceptRanges", Rows.laid_unicode_utf8_acceptRanges), ("plumbob/rtl.shapes", Rows.laid_plumbob_rtl_shapes)]) (ps := p4) L4 gn11 gty11 und517 scal5 (by simp [parts, Rows.laid_math_bits_deBruijn32tab]) k2
  have k4 := tab_lits (ds := parts Rows.laid_math_bits_deBruijn64tab) (r := [("plumbob/lex.keywords", Rows.laid_plumbob_lex_keywords), ("plumbob/ast.typeWords", Rows.laid_plumbob_ast_typeWords), ("plumbob/ast.levels", Rows.laid_plumbob_ast_levels), ("plumbob/ast.prefixes", Rows.laid_plumbob_ast_prefixes), ("unicode/utf8.first", Rows.laid_unicode_utf8_first), ("unicode/utf8.acceptRanges", Rows.laid_unicode_utf8_acceptRanges), ("plumbob/rtl.shapes", Rows.laid_plumbob_rtl_shapes)]) (ps := p5) L5 gn5 gty5 und471 scal5 (by simp [parts, Rows.laid_math_bits_deBruijn64tab]) k3
  have k5 := tab_lits (ds := parts Rows.laid_plumbob_lex_keywords) (r := [("plumbob/ast.typeWords", Rows.laid_plumbob_ast_typeWords), ("plumbob/ast.levels", Rows.laid_plumbob_ast_levels), ("plumbob/ast.prefixes", Rows.laid_plumbob_ast_prefixes), ("unicode/utf8.first", Rows.laid_unicode_utf8_first), ("unicode/utf8.acceptRanges", Rows.laid_unicode_utf8_acceptRanges), ("plumbob/rtl.shapes", Rows.laid_plumbob_rtl_shapes)]) (ps := p6) L6 gn4 gty4 und444 scal9 (by simp [parts, Rows.laid_plumbob_lex_keywords]) k4
  have k6 := tab_lits (ds := parts Rows.laid_plumbob_ast_typeWords) (r := [("plumbob/ast.levels", Rows.laid_plumbob_ast_levels), ("plumbob/ast.prefixes", Rows.laid_plumbob_ast_prefixes), ("unicode/utf8.first", Rows.laid_unicode_utf8_first), ("unicode/utf8.acceptRanges", Rows.laid_unicode_utf8_acceptRanges), ("plumbob/rtl.shapes", Rows.laid_plumbob_rtl_shapes)]) (ps := p7) L7 gn3 gty3 und395 scal9 (by simp [parts, Rows.laid_plumbob_ast_typeWords]) k5
  obtain ⟨τ8, _, k7⟩ := tab_rows (rows := (parts Rows.laid_plumbob_ast_levels).map elems) (r := [("plumbob/ast.prefixes", Rows.laid_plumbob_ast_prefixes), ("unicode/utf8.first", Rows.laid_unicode_utf8_first), ("unicode/utf8.acceptRanges", Rows.laid_unicode_utf8_acceptRanges), ("plumbob/rtl.shapes", Rows.laid_plumbob_rtl_shapes)]) (ps := p8) L8 gn9 gty9 und506 (by kernel_rfl) (by kernel_rfl) und101 scal9 (by simp [parts, Rows.laid_plumbob_ast_levels]) (by simp [parts, elems, Rows.laid_plumbob_ast_levels]) k6
  have k8 := tab_lits (ds := parts Rows.laid_plumbob_ast_prefixes) (r := [("unicode/utf8.first", Rows.laid_unicode_utf8_first), ("unicode/utf8.acceptRanges", Rows.laid_unicode_utf8_acceptRanges), ("plumbob/rtl.shapes", Rows.laid_plumbob_rtl_shapes)]) (ps := p9) L9 gn10 gty10 und395 scal9 (by simp [parts, Rows.laid_plumbob_ast_prefixes]) k7
  obtain ⟨fs11, hue11, hfs11, hof11⟩ := fld521
  have k9 := tab_aggs (kc := 2) (ds := parts Rows.laid_unicode_utf8_acceptRanges) (r := [("plumbob/rtl.shapes", Rows.laid_plumbob_rtl_shapes)]) (ps := p11) L11 gn13 gty13 und522 hue11 (by kernel_rfl) (by kernel_rfl) hfs11 hof11 (ne_nil_of (by kernel_rfl)) k8
  obtain ⟨fs12, hue12, hfs12, hof12⟩ := fld231
  have k10 := tab_aggs (kc := 9) (ds := parts Rows.laid_plumbob_rtl_shapes) (r := []) (ps := p12) L12 gn0 gty0 und313 hue12 (by kernel_rfl) (by kernel_rfl) hfs12 hof12 (ne_nil_of (by kernel_rfl)) k9
  exact ⟨_, k10⟩
end Go.Ev
