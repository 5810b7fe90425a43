/- A part of a machine of our own for closed calls, and of the proof that it says what the runs do. -/
import Derived.Test.YtpdhaghhhaobhaaGreatDoorEvTab
import Derived.Test.YtpdhaghhhaobhaaGreatDoorEvH
set_option linter.unusedSimpArgs false
set_option linter.unusedVariables false
namespace Go.Ev
open Go Go.RowKit Go.Proofs Go.Proofs.YtpdhaghhhaobhaaGreatDoor

theorem gsize : Tryz.prog.globals.size = 13 := by kernel_rfl
theorem gn10 : Tryz.prog.globalNamed "math/bits.deBruijn32tab" = some 10 := by kernel_rfl
theorem gty10 : (Tryz.prog.globals[10]?).map (·.type) = some 428 := by kernel_rfl
theorem und428 : Tryz.prog.underlying 428 = some (.array 32 5) := by kernel_rfl
theorem scal5 : Scal Tryz.prog 5 := ⟨by kernel_rfl, .inl ⟨.u8, by kernel_rfl⟩⟩
theorem gn11 : Tryz.prog.globalNamed "math/bits.deBruijn64tab" = some 11 := by kernel_rfl
theorem gty11 : (Tryz.prog.globals[11]?).map (·.type) = some 429 := by kernel_rfl
theorem und429 : Tryz.prog.underlying 429 = some (.array 64 5) := by kernel_rfl
theorem gn4 : Tryz.prog.globalNamed "internal/strconv.uint64pow10" = some 4 := by kernel_rfl
theorem gty4 : (Tryz.prog.globals[4]?).map (·.type) = some 406 := by kernel_rfl
theorem und406 : Tryz.prog.underlying 406 = some (.array 20 290) := by kernel_rfl
theorem scal290 : Scal Tryz.prog 290 := ⟨by kernel_rfl, .inl ⟨.u64, by kernel_rfl⟩⟩
theorem gn9 : Tryz.prog.globalNamed "unicode/utf8.acceptRanges" = some 9 := by kernel_rfl
theorem gn6 : Tryz.prog.globalNamed "strconv.ErrRange" = some 6 := by kernel_rfl
theorem gn5 : Tryz.prog.globalNamed "strconv.ErrSyntax" = some 5 := by kernel_rfl
theorem gn3 : Tryz.prog.globalNamed "plumbob/lex.keywords" = some 3 := by kernel_rfl
theorem gty3 : (Tryz.prog.globals[3]?).map (·.type) = some 392 := by kernel_rfl
theorem und392 : Tryz.prog.underlying 392 = some (.array 15 9) := by kernel_rfl
theorem scal9 : Scal Tryz.prog 9 := ⟨by kernel_rfl, .inr (.inl (by kernel_rfl))⟩
theorem gn1 : Tryz.prog.globalNamed "plumbob/lex.marks" = some 1 := by kernel_rfl
theorem gty1 : (Tryz.prog.globals[1]?).map (·.type) = some 345 := by kernel_rfl
theorem und345 : Tryz.prog.underlying 345 = some (.array 31 9) := by kernel_rfl
theorem gn7 : Tryz.prog.globalNamed "plumbob/ast.levels" = some 7 := by kernel_rfl
theorem gty7 : (Tryz.prog.globals[7]?).map (·.type) = some 423 := by kernel_rfl
theorem und423 : Tryz.prog.underlying 423 = some (.array 10 39) := by kernel_rfl
theorem und39 : Tryz.prog.underlying 39 = some (.slice 9) := by kernel_rfl
theorem gn12 : Tryz.prog.globalNamed "plumbob/ast.prefixes" = some 12 := by kernel_rfl
theorem gty12 : (Tryz.prog.globals[12]?).map (·.type) = some 348 := by kernel_rfl
theorem und348 : Tryz.prog.underlying 348 = some (.array 5 9) := by kernel_rfl
theorem gn2 : Tryz.prog.globalNamed "plumbob/ast.typeWords" = some 2 := by kernel_rfl
theorem gty2 : (Tryz.prog.globals[2]?).map (·.type) = some 348 := by kernel_rfl
theorem gn8 : Tryz.prog.globalNamed "unicode/utf8.first" = some 8 := by kernel_rfl

theorem size_of {B : World} {n : String} {g : Nat} {d : DataW Unit} {r : List (String × DataW Unit)} {ps : List MemPlace} (hg : Tryz.prog.globalNamed n = some g) (hL : DataW.LaidVars Tryz.prog B ((n, d) :: r) ps) : g < B.heap.size := by
  obtain ⟨g', t, cs, fuel, p, q, h1, _, h3, _, _, _⟩ := hL
  rw [hg] at h1; cases h1
  simp only [World.var?, hg, Option.bind_some] at h3
  cases hh : B.heap[g]? with
  | none => simp [hh] at h3
  | some o => exact (Array.getElem?_eq_some_iff.1 hh).1

theorem tabs_seat {B : World} (hm : laidMet Tryz.prog Rows.clightKnownRow.laid B) : ∃ σ, TabSt Tryz.prog B σ h0 := by
  obtain ⟨ps, hL, _⟩ := hm
  have L0 : DataW.LaidVars Tryz.prog B [("math/bits.deBruijn32tab", Rows.laid_math_bits_deBruijn32tab), ("math/bits.deBruijn64tab", Rows.laid_math_bits_deBruijn64tab), ("internal/strconv.uint64pow10", Rows.laid_internal_strconv_uint64pow10), ("unicode/utf8.acceptRanges", Rows.laid_unicode_utf8_acceptRanges), ("strconv.ErrRange", Rows.laid_strconv_ErrRange), ("strconv.ErrSyntax", Rows.laid_strconv_ErrSyntax), ("plumbob/lex.keywords", Rows.laid_plumbob_lex_keywords), ("plumbob/lex.marks", Rows.laid_plumbob_lex_marks), ("plumbob/ast.levels", Rows.laid_plumbob_ast_levels), ("plumbob/ast.prefixes", Rows.laid_plumbob_ast_prefixes), ("plumbob/ast.typeWords", Rows.laid_plumbob_ast_typeWords), ("unicode/utf8.first", Rows.laid_unicode_utf8_first)] ps := hL
  obtain ⟨p1, L1⟩ := laid_skip L0
  obtain ⟨p2, L2⟩ := laid_skip L1
  obtain ⟨p3, L3⟩ := laid_skip L2
  obtain ⟨p4, L4⟩ := laid_skip L3
  obtain ⟨p5, L5⟩ := laid_skip L4
  obtain ⟨p6, L6⟩ := laid_skip L5
  obtain ⟨p7, L7⟩ := laid_skip L6
  obtain ⟨p8, L8⟩ := laid_skip L7
  obtain ⟨p9, L9⟩ := laid_skip L8
  obtain ⟨p10, L10⟩ := laid_skip L9
  obtain ⟨p11, L11⟩ := laid_skip L10
  have hs : Tryz.prog.globals.size ≤ B.heap.size := by have := size_of gn12 L9; rw [gsize]; omega
  have k0 := TabSt.start (P := Tryz.prog) (B := B) hs
  generalize glob0 Tryz.prog.globals.size = σ at k0
  rw [gsize] at k0
  have k1 := tab_lits (ds := parts Rows.laid_math_bits_deBruijn32tab) (r := [("math/bits.deBruijn64tab", Rows.laid_math_bits_deBruijn64tab), ("internal/strconv.uint64pow10", Rows.laid_internal_strconv_uint64pow10), ("unicode/utf8.acceptRanges", Rows.laid_unicode_utf8_acceptRanges), ("strconv.ErrRange", Rows.laid_strconv_ErrRange), ("strconv.ErrSyntax", Rows.laid_strconv_ErrSyntax), ("plumbob/lex.keywords", Rows.laid_plumbob_lex_keywords), ("plumbob/lex.marks", Rows.laid_plumbob_lex_marks), ("plumbob/ast.levels", Rows.laid_plumbob_ast_levels), ("plumbob/ast.prefixes", Rows.laid_plumbob_ast_prefixes), ("plumbob/ast.typeWords", Rows.laid_plumbob_ast_typeWords), ("unicode/utf8.first", Rows.laid_unicode_utf8_first)]) (ps := ps) L0 gn10 gty10 und428 scal5 (by simp [parts, Rows.laid_math_bits_deBruijn32tab]) k0
  have k2 := tab_lits (ds := parts Rows.laid_math_bits_deBruijn64tab) (r := [("internal/strconv.uint64pow10", Rows.laid_internal_strconv_uint64pow10), ("unicode/utf8.acceptRanges", Rows.laid_unicode_utf8_acceptRanges), ("strconv.ErrRange", Rows.laid_strconv_ErrRange), ("strconv.ErrSyntax", Rows.laid_strconv_ErrSyntax), ("plumbob/lex.keywords", Rows.laid_plumbob_lex_keywords), ("plumbob/lex.marks", Rows.laid_plumbob_lex_marks), ("plumbob/ast.levels", Rows.laid_plumbob_ast_levels), ("plumbob/ast.prefixes", Rows.laid_plumbob_ast_prefixes), ("plumbob/ast.typeWords", Rows.laid_plumbob_ast_typeWords), ("unicode/utf8.first", Rows.laid_unicode_utf8_first)]) (ps := p1) L1 gn11 gty11 und429 scal5 (by simp [parts, Rows.laid_math_bits_deBruijn64tab]) k1
  have k3 := tab_lits (ds := parts Rows.laid_internal_strconv_uint64pow10) (r := [("unicode/utf8.acceptRanges", Rows.laid_unicode_utf8_acceptRanges), ("strconv.ErrRange", Rows.laid_strconv_ErrRange), ("strconv.ErrSyntax", Rows.laid_strconv_ErrSyntax), ("plumbob/lex.keywords", Rows.laid_plumbob_lex_keywords), ("plumbob/lex.marks", Rows.laid_plumbob_lex_marks), ("plumbob/ast.levels", Rows.laid_plumbob_ast_levels), ("plumbob/ast.prefixes", Rows.laid_plumbob_ast_prefixes), ("plumbob/ast.typeWords", Rows.laid_plumbob_ast_typeWords), ("unicode/utf8.first", Rows.laid_unicode_utf8_first)]) (ps := p2) L2 gn4 gty4 und406 scal290 (by simp [parts, Rows.laid_internal_strconv_uint64pow10]) k2
  have k4 := tab_lits (ds := parts Rows.laid_plumbob_lex_keywords) (r := [("plumbob/lex.marks", Rows.laid_plumbob_lex_marks), ("plumbob/ast.levels", Rows.laid_plumbob_ast_levels), ("plumbob/ast.prefixes", Rows.laid_plumbob_ast_prefixes), ("plumbob/ast.typeWords", Rows.laid_plumbob_ast_typeWords), ("unicode/utf8.first", Rows.laid_unicode_utf8_first)]) (ps := p6) L6 gn3 gty3 und392 scal9 (by simp [parts, Rows.laid_plumbob_lex_keywords]) k3
  have k5 := tab_lits (ds := parts Rows.laid_plumbob_lex_marks) (r := [("plumbob/ast.levels", Rows.laid_plumbob_ast_levels), ("plumbob/ast.prefixes", Rows.laid_plumbob_ast_prefixes), ("plumbob/ast.typeWords", Rows.laid_plumbob_ast_typeWords), ("unicode/utf8.first", Rows.laid_unicode_utf8_first)]) (ps := p7) L7 gn1 gty1 und345 scal9 (by simp [parts, Rows.laid_plumbob_lex_marks]) k4
  obtain ⟨τ8, _, k6⟩ := tab_rows (rows := (parts Rows.laid_plumbob_ast_levels).map elems) (r := [("plumbob/ast.prefixes", Rows.laid_plumbob_ast_prefixes), ("plumbob/ast.typeWords", Rows.laid_plumbob_ast_typeWords), ("unicode/utf8.first", Rows.laid_unicode_utf8_first)]) (ps := p8) L8 gn7 gty7 und423 (by kernel_rfl) (by kernel_rfl) und39 scal9 (by simp [parts, Rows.laid_plumbob_ast_levels]) (by simp [parts, elems, Rows.laid_plumbob_ast_levels]) k5
  have k7 := tab_lits (ds := parts Rows.laid_plumbob_ast_prefixes) (r := [("plumbob/ast.typeWords", Rows.laid_plumbob_ast_typeWords), ("unicode/utf8.first", Rows.laid_unicode_utf8_first)]) (ps := p9) L9 gn12 gty12 und348 scal9 (by simp [parts, Rows.laid_plumbob_ast_prefixes]) k6
  have k8 := tab_lits (ds := parts Rows.laid_plumbob_ast_typeWords) (r := [("unicode/utf8.first", Rows.laid_unicode_utf8_first)]) (ps := p10) L10 gn2 gty2 und348 scal9 (by simp [parts, Rows.laid_plumbob_ast_typeWords]) k7
  exact ⟨_, k8⟩
end Go.Ev
