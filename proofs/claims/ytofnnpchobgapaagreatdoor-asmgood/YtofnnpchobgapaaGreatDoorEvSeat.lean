/- A part of a machine of our own for closed calls, and of the proof that it says what the runs do. -/
import Derived.Test.YtofnnpchobgapaaGreatDoorEvTab
import Derived.Test.YtofnnpchobgapaaGreatDoorEvH
set_option linter.unusedSimpArgs false
set_option linter.unusedVariables false
namespace Go.Ev
open Go Go.RowKit Go.Proofs Go.Proofs.YtofnnpchobgapaaGreatDoor

theorem gsize : Tryz.prog.globals.size = 15 := by kernel_rfl
theorem gn13 : Tryz.prog.globalNamed "math/bits.deBruijn32tab" = some 13 := by kernel_rfl
theorem gty13 : (Tryz.prog.globals[13]?).map (·.type) = some 207 := by kernel_rfl
theorem und207 : Tryz.prog.underlying 207 = some (.array 32 5) := by kernel_rfl
theorem scal5 : Scal Tryz.prog 5 := ⟨by kernel_rfl, .inl ⟨.u8, by kernel_rfl⟩⟩
theorem gn14 : Tryz.prog.globalNamed "math/bits.deBruijn64tab" = some 14 := by kernel_rfl
theorem gty14 : (Tryz.prog.globals[14]?).map (·.type) = some 208 := by kernel_rfl
theorem und208 : Tryz.prog.underlying 208 = some (.array 64 5) := by kernel_rfl
theorem gn4 : Tryz.prog.globalNamed "internal/strconv.uint64pow10" = some 4 := by kernel_rfl
theorem gty4 : (Tryz.prog.globals[4]?).map (·.type) = some 171 := by kernel_rfl
theorem und171 : Tryz.prog.underlying 171 = some (.array 20 139) := by kernel_rfl
theorem scal139 : Scal Tryz.prog 139 := ⟨by kernel_rfl, .inl ⟨.u64, by kernel_rfl⟩⟩
theorem gn7 : Tryz.prog.globalNamed "unicode/utf8.acceptRanges" = some 7 := by kernel_rfl
theorem gty7 : (Tryz.prog.globals[7]?).map (·.type) = some 191 := by kernel_rfl
theorem und191 : Tryz.prog.underlying 191 = some (.array 16 190) := by kernel_rfl
theorem fld190 : ∃ fs : Array Field, Tryz.prog.underlying 190 = some (.struct fs) ∧ fs.size = 2 ∧ ∀ (i : Nat) f, fs[i]? = some f → f.offset = i ∧ Scal Tryz.prog f.type := structs_ok (by kernel_rfl)
theorem gn2 : Tryz.prog.globalNamed "plumbob/words.operations" = some 2 := by kernel_rfl
theorem gty2 : (Tryz.prog.globals[2]?).map (·.type) = some 128 := by kernel_rfl
theorem und128 : Tryz.prog.underlying 128 = some (.array 27 9) := by kernel_rfl
theorem scal9 : Scal Tryz.prog 9 := ⟨by kernel_rfl, .inr (.inl (by kernel_rfl))⟩
theorem gn0 : Tryz.prog.globalNamed "plumbob/asm.order" = some 0 := by kernel_rfl
theorem gty0 : (Tryz.prog.globals[0]?).map (·.type) = some 119 := by kernel_rfl
theorem und119 : Tryz.prog.underlying 119 = some (.array 6 3) := by kernel_rfl
theorem scal3 : Scal Tryz.prog 3 := ⟨by kernel_rfl, .inl ⟨.i64, by kernel_rfl⟩⟩
theorem gn1 : Tryz.prog.globalNamed "plumbob/asm.shapes" = some 1 := by kernel_rfl
theorem gty1 : (Tryz.prog.globals[1]?).map (·.type) = some 127 := by kernel_rfl
theorem und127 : Tryz.prog.underlying 127 = some (.array 27 109) := by kernel_rfl
theorem fld109 : ∃ fs : Array Field, Tryz.prog.underlying 109 = some (.struct fs) ∧ fs.size = 7 ∧ ∀ (i : Nat) f, fs[i]? = some f → f.offset = i ∧ Scal Tryz.prog f.type := structs_ok (by kernel_rfl)
theorem gn3 : Tryz.prog.globalNamed "plumbob/asm.names" = some 3 := by kernel_rfl
theorem gty3 : (Tryz.prog.globals[3]?).map (·.type) = some 129 := by kernel_rfl
theorem und129 : Tryz.prog.underlying 129 = some (.array 16 9) := by kernel_rfl
theorem gn12 : Tryz.prog.globalNamed "strconv.isGraphic" = some 12 := by kernel_rfl
theorem gn9 : Tryz.prog.globalNamed "strconv.isNotPrint16" = some 9 := by kernel_rfl
theorem gn11 : Tryz.prog.globalNamed "strconv.isNotPrint32" = some 11 := by kernel_rfl
theorem gn8 : Tryz.prog.globalNamed "strconv.isPrint16" = some 8 := by kernel_rfl
theorem gn10 : Tryz.prog.globalNamed "strconv.isPrint32" = some 10 := by kernel_rfl
theorem gn6 : Tryz.prog.globalNamed "unicode/utf8.first" = some 6 := by kernel_rfl

theorem size_of {B : World} {n : String} {g : Nat} {d : DataW Unit} {r : List (String × DataW Unit)} {ps : List MemPlace} (hg : Tryz.prog.globalNamed n = some g) (hL : DataW.LaidVars Tryz.prog B ((n, d) :: r) ps) : g < B.heap.size := by
  obtain ⟨g', t, cs, fuel, p, q, h1, _, h3, _, _, _⟩ := hL
  rw [hg] at h1; cases h1
  simp only [World.var?, hg, Option.bind_some] at h3
  cases hh : B.heap[g]? with
  | none => simp [hh] at h3
  | some o => exact (Array.getElem?_eq_some_iff.1 hh).1

theorem tabs_seat {B : World} (hm : laidMet Tryz.prog Rows.asmGoodRow.laid B) : ∃ σ, TabSt Tryz.prog B σ h0 := by
  obtain ⟨ps, hL, _⟩ := hm
  have L0 : DataW.LaidVars Tryz.prog B [("math/bits.deBruijn32tab", Rows.laid_math_bits_deBruijn32tab), ("math/bits.deBruijn64tab", Rows.laid_math_bits_deBruijn64tab), ("internal/strconv.uint64pow10", Rows.laid_internal_strconv_uint64pow10), ("unicode/utf8.acceptRanges", Rows.laid_unicode_utf8_acceptRanges), ("plumbob/words.operations", Rows.laid_plumbob_words_operations), ("plumbob/asm.order", Rows.laid_plumbob_asm_order), ("plumbob/asm.shapes", Rows.laid_plumbob_asm_shapes), ("plumbob/asm.names", Rows.laid_plumbob_asm_names), ("strconv.isGraphic", Rows.laid_strconv_isGraphic), ("strconv.isNotPrint16", Rows.laid_strconv_isNotPrint16), ("strconv.isNotPrint32", Rows.laid_strconv_isNotPrint32), ("strconv.isPrint16", Rows.laid_strconv_isPrint16), ("strconv.isPrint32", Rows.laid_strconv_isPrint32), ("unicode/utf8.first", Rows.laid_unicode_utf8_first)] ps := hL
  obtain ⟨p1, L1⟩ := laid_skip L0
  obtain ⟨p2, L2⟩ := laid_skip L1
  obtain ⟨p3, L3⟩ := laid_skip L2
  obtain ⟨p4, L4⟩ := laid_skip L3
  obtain ⟨p5, L5⟩ := laid_skip L4
  obtain ⟨p6, L6⟩ := laid_skip L5
  obtain ⟨p7, L7⟩ := laid_skip L6
  obtain ⟨p8, L8⟩ := laid_skip L7
  obtain ⟨p9, L9⟩ := laid_skip L8
  obtain ⟨p10, L10⟩ := laid_skip L9
  obtain ⟨p11, L11⟩ := laid_skip L10
  obtain ⟨p12, L12⟩ := laid_skip L11
  obtain ⟨p13, L13⟩ := laid_skip L12
  have hs : Tryz.prog.globals.size ≤ B.heap.size := by have := size_of gn14 L1; rw [gsize]; omega
  have k0 := TabSt.start (P := Tryz.prog) (B := B) hs
  generalize glob0 Tryz.prog.globals.size = σ at k0
  rw [gsize] at k0
  have k1 := tab_lits (ds := parts Rows.laid_math_bits_deBruijn32tab) (r := [("math/bits.deBruijn64tab", Rows.laid_math_bits_deBruijn64tab), ("internal/strconv.uint64pow10", Rows.laid_internal_strconv_uint64pow10), ("unicode/utf8.acceptRanges", Rows.laid_unicode_utf8_acceptRanges), ("plumbob/words.operations", Rows.laid_plumbob_words_operations), ("plumbob/asm.order", Rows.laid_plumbob_asm_order), ("plumbob/asm.shapes", Rows.laid_plumbob_asm_shapes), ("plumbob/asm.names", Rows.laid_plumbob_asm_names), ("strconv.isGraphic", Rows.laid_strconv_isGraphic), ("strconv.isNotPrint16", Rows.laid_strconv_isNotPrint16), ("strconv.isNotPrint32", Rows.laid_strconv_isNotPrint32), ("strconv.isPrint16", Rows.laid_strconv_isPrint16), ("strconv.isPrint32", Rows.laid_strconv_isPrint32), ("unicode/utf8.first", Rows.laid_unicode_utf8_first)]) (ps := ps) L0 gn13 gty13 und207 scal5 (by simp [parts, Rows.laid_math_bits_deBruijn32tab]) k0
  have k2 := tab_lits (ds := parts Rows.laid_math_bits_deBruijn64tab) (r := [("internal/strconv.uint64pow10", Rows.laid_internal_strconv_uint64pow10), ("unicode/utf8.acceptRanges", Rows.laid_unicode_utf8_acceptRanges), ("plumbob/words.operations", Rows.laid_plumbob_words_operations), ("plumbob/asm.order", Rows.laid_plumbob_asm_order), ("plumbob/asm.shapes", Rows.laid_plumbob_asm_shapes), ("plumbob/asm.names", Rows.laid_plumbob_asm_names), ("strconv.isGraphic", Rows.laid_strconv_isGraphic), ("strconv.isNotPrint16", Rows.laid_strconv_isNotPrint16), ("strconv.isNotPrint32", Rows.laid_strconv_isNotPrint32), ("strconv.isPrint16", Rows.laid_strconv_isPrint16), ("strconv.isPrint32", Rows.laid_strconv_isPrint32), ("unicode/utf8.first", Rows.laid_unicode_utf8_first)]) (ps := p1) L1 gn14 gty14 und208 scal5 (by simp [parts, Rows.laid_math_bits_deBruijn64tab]) k1
  have k3 := tab_lits (ds := parts Rows.laid_internal_strconv_uint64pow10) (r := [("unicode/utf8.acceptRanges", Rows.laid_unicode_utf8_acceptRanges), ("plumbob/words.operations", Rows.laid_plumbob_words_operations), ("plumbob/asm.order", Rows.laid_plumbob_asm_order), ("plumbob/asm.shapes", Rows.laid_plumbob_asm_shapes), ("plumbob/asm.names", Rows.laid_plumbob_asm_names), ("strconv.isGraphic", Rows.laid_strconv_isGraphic), ("strconv.isNotPrint16", Rows.laid_strconv_isNotPrint16), ("strconv.isNotPrint32", Rows.laid_strconv_isNotPrint32), ("strconv.isPrint16", Rows.laid_strconv_isPrint16), ("strconv.isPrint32", Rows.laid_strconv_isPrint32), ("unicode/utf8.first", Rows.laid_unicode_utf8_first)]) (ps := p2) L2 gn4 gty4 und171 scal139 (by simp [parts, Rows.laid_internal_strconv_uint64pow10]) k2
  obtain ⟨fs3, hue3, hfs3, hof3⟩ := fld190
  have k4 := tab_aggs (kc := 2) (ds := parts Rows.laid_unicode_utf8_acceptRanges) (r := [("plumbob/words.operations", Rows.laid_plumbob_words_operations), ("plumbob/asm.order", Rows.laid_plumbob_asm_order), ("plumbob/asm.shapes", Rows.laid_plumbob_asm_shapes), ("plumbob/asm.names", Rows.laid_plumbob_asm_names), ("strconv.isGraphic", Rows.laid_strconv_isGraphic), ("strconv.isNotPrint16", Rows.laid_strconv_isNotPrint16), ("strconv.isNotPrint32", Rows.laid_strconv_isNotPrint32), ("strconv.isPrint16", Rows.laid_strconv_isPrint16), ("strconv.isPrint32", Rows.laid_strconv_isPrint32), ("unicode/utf8.first", Rows.laid_unicode_utf8_first)]) (ps := p3) L3 gn7 gty7 und191 hue3 (by kernel_rfl) (by kernel_rfl) hfs3 hof3 (ne_nil_of (by kernel_rfl)) k3
  have k5 := tab_lits (ds := parts Rows.laid_plumbob_words_operations) (r := [("plumbob/asm.order", Rows.laid_plumbob_asm_order), ("plumbob/asm.shapes", Rows.laid_plumbob_asm_shapes), ("plumbob/asm.names", Rows.laid_plumbob_asm_names), ("strconv.isGraphic", Rows.laid_strconv_isGraphic), ("strconv.isNotPrint16", Rows.laid_strconv_isNotPrint16), ("strconv.isNotPrint32", Rows.laid_strconv_isNotPrint32), ("strconv.isPrint16", Rows.laid_strconv_isPrint16), ("strconv.isPrint32", Rows.laid_strconv_isPrint32), ("unicode/utf8.first", Rows.laid_unicode_utf8_first)]) (ps := p4) L4 gn2 gty2 und128 scal9 (by simp [parts, Rows.laid_plumbob_words_operations]) k4
  have k6 := tab_lits (ds := parts Rows.laid_plumbob_asm_order) (r := [("plumbob/asm.shapes", Rows.laid_plumbob_asm_shapes), ("plumbob/asm.names", Rows.laid_plumbob_asm_names), ("strconv.isGraphic", Rows.laid_strconv_isGraphic), ("strconv.isNotPrint16", Rows.laid_strconv_isNotPrint16), ("strconv.isNotPrint32", Rows.laid_strconv_isNotPrint32), ("strconv.isPrint16", Rows.laid_strconv_isPrint16), ("strconv.isPrint32", Rows.laid_strconv_isPrint32), ("unicode/utf8.first", Rows.laid_unicode_utf8_first)]) (ps := p5) L5 gn0 gty0 und119 scal3 (by simp [parts, Rows.laid_plumbob_asm_order]) k5
  obtain ⟨fs6, hue6, hfs6, hof6⟩ := fld109
  have k7 := tab_aggs (kc := 7) (ds := parts Rows.laid_plumbob_asm_shapes) (r := [("plumbob/asm.names", Rows.laid_plumbob_asm_names), ("strconv.isGraphic", Rows.laid_strconv_isGraphic), ("strconv.isNotPrint16", Rows.laid_strconv_isNotPrint16), ("strconv.isNotPrint32", Rows.laid_strconv_isNotPrint32), ("strconv.isPrint16", Rows.laid_strconv_isPrint16), ("strconv.isPrint32", Rows.laid_strconv_isPrint32), ("unicode/utf8.first", Rows.laid_unicode_utf8_first)]) (ps := p6) L6 gn1 gty1 und127 hue6 (by kernel_rfl) (by kernel_rfl) hfs6 hof6 (ne_nil_of (by kernel_rfl)) k6
  have k8 := tab_lits (ds := parts Rows.laid_plumbob_asm_names) (r := [("strconv.isGraphic", Rows.laid_strconv_isGraphic), ("strconv.isNotPrint16", Rows.laid_strconv_isNotPrint16), ("strconv.isNotPrint32", Rows.laid_strconv_isNotPrint32), ("strconv.isPrint16", Rows.laid_strconv_isPrint16), ("strconv.isPrint32", Rows.laid_strconv_isPrint32), ("unicode/utf8.first", Rows.laid_unicode_utf8_first)]) (ps := p7) L7 gn3 gty3 und129 scal9 (by simp [parts, Rows.laid_plumbob_asm_names]) k7
  exact ⟨_, k8⟩
end Go.Ev
