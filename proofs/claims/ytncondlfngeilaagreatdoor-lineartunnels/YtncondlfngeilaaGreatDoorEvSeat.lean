
import Derived.Test.YtncondlfngeilaaGreatDoorEvTab
import Derived.Test.YtncondlfngeilaaGreatDoorEvH
set_option linter.unusedSimpArgs false
set_option linter.unusedVariables false
namespace Go.Ev
open Go Go.RowKit Go.Proofs Go.Proofs.YtncondlfngeilaaGreatDoor

theorem gsize : Tryz.prog.globals.size = 14 := by kernel_rfl
theorem gn12 : Tryz.prog.globalNamed "math/bits.deBruijn32tab" = some 12 := by kernel_rfl
theorem gty12 : (Tryz.prog.globals[12]?).map (·.type) = some 286 := by kernel_rfl
theorem und286 : Tryz.prog.underlying 286 = some (.array 32 5) := by kernel_rfl
theorem scal5 : Scal Tryz.prog 5 := ⟨by kernel_rfl, .inl ⟨.u8, by kernel_rfl⟩⟩
theorem gn13 : Tryz.prog.globalNamed "math/bits.deBruijn64tab" = some 13 := by kernel_rfl
theorem gty13 : (Tryz.prog.globals[13]?).map (·.type) = some 287 := by kernel_rfl
theorem und287 : Tryz.prog.underlying 287 = some (.array 64 5) := by kernel_rfl
theorem gn2 : Tryz.prog.globalNamed "internal/strconv.uint64pow10" = some 2 := by kernel_rfl
theorem gty2 : (Tryz.prog.globals[2]?).map (·.type) = some 247 := by kernel_rfl
theorem und247 : Tryz.prog.underlying 247 = some (.array 20 227) := by kernel_rfl
theorem scal227 : Scal Tryz.prog 227 := ⟨by kernel_rfl, .inl ⟨.u64, by kernel_rfl⟩⟩
theorem gn5 : Tryz.prog.globalNamed "unicode/utf8.acceptRanges" = some 5 := by kernel_rfl
theorem gty5 : (Tryz.prog.globals[5]?).map (·.type) = some 273 := by kernel_rfl
theorem und273 : Tryz.prog.underlying 273 = some (.array 16 272) := by kernel_rfl
theorem fld272 : ∃ fs : Array Field, Tryz.prog.underlying 272 = some (.struct fs) ∧ fs.size = 2 ∧ ∀ (i : Nat) f, fs[i]? = some f → f.offset = i ∧ Scal Tryz.prog f.type := structs_ok (by kernel_rfl)
theorem gn11 : Tryz.prog.globalNamed "plumbob/words.operations" = some 11 := by kernel_rfl
theorem gty11 : (Tryz.prog.globals[11]?).map (·.type) = some 279 := by kernel_rfl
theorem und279 : Tryz.prog.underlying 279 = some (.array 27 9) := by kernel_rfl
theorem scal9 : Scal Tryz.prog 9 := ⟨by kernel_rfl, .inr (.inl (by kernel_rfl))⟩
theorem gn0 : Tryz.prog.globalNamed "plumbob/rtl.shapes" = some 0 := by kernel_rfl
theorem gty0 : (Tryz.prog.globals[0]?).map (·.type) = some 210 := by kernel_rfl
theorem und210 : Tryz.prog.underlying 210 = some (.array 15 181) := by kernel_rfl
theorem fld181 : ∃ fs : Array Field, Tryz.prog.underlying 181 = some (.struct fs) ∧ fs.size = 9 ∧ ∀ (i : Nat) f, fs[i]? = some f → f.offset = i ∧ Scal Tryz.prog f.type := structs_ok (by kernel_rfl)
theorem gn1 : Tryz.prog.globalNamed "plumbob/ltl.params" = some 1 := by kernel_rfl
theorem gty1 : (Tryz.prog.globals[1]?).map (·.type) = some 212 := by kernel_rfl
theorem und212 : Tryz.prog.underlying 212 = some (.array 6 3) := by kernel_rfl
theorem scal3 : Scal Tryz.prog 3 := ⟨by kernel_rfl, .inl ⟨.i64, by kernel_rfl⟩⟩
theorem size_of {B : World} {n : String} {g : Nat} {d : DataW Unit} {r : List (String × DataW Unit)} {ps : List MemPlace} (hg : Tryz.prog.globalNamed n = some g) (hL : DataW.LaidVars Tryz.prog B ((n, d) :: r) ps) : g < B.heap.size := by
  obtain ⟨g', t, cs, fuel, p, q, h1, _, h3, _, _, _⟩ := hL
  rw [hg] at h1; cases h1
  simp only [World.var?, hg, Option.bind_some] at h3
  cases hh : B.heap[g]? with
  | none => simp [hh] at h3
  | some o => exact (Array.getElem?_eq_some_iff.1 hh).1

theorem tabs_seat {B : World} (hm : laidMet Tryz.prog Rows.linearTunnelsRow.laid B) : ∃ σ, TabSt Tryz.prog B σ h0 := by
  obtain ⟨ps, hL, _⟩ := hm
  have L0 : DataW.LaidVars Tryz.prog B [("math/bits.deBruijn32tab", Rows.laid_math_bits_deBruijn32tab), ("math/bits.deBruijn64tab", Rows.laid_math_bits_deBruijn64tab), ("internal/strconv.uint64pow10", Rows.laid_internal_strconv_uint64pow10), ("unicode/utf8.acceptRanges", Rows.laid_unicode_utf8_acceptRanges), ("plumbob/words.operations", Rows.laid_plumbob_words_operations), ("plumbob/rtl.shapes", Rows.laid_plumbob_rtl_shapes), ("plumbob/ltl.params", Rows.laid_plumbob_ltl_params), ("strconv.isGraphic", Rows.laid_strconv_isGraphic), ("strconv.isNotPrint16", Rows.laid_strconv_isNotPrint16), ("strconv.isNotPrint32", Rows.laid_strconv_isNotPrint32), ("strconv.isPrint16", Rows.laid_strconv_isPrint16), ("strconv.isPrint32", Rows.laid_strconv_isPrint32), ("unicode/utf8.first", Rows.laid_unicode_utf8_first)] ps := hL
  obtain ⟨p1, L1⟩ := laid_skip L0
  obtain ⟨p2, L2⟩ := laid_skip L1
  obtain ⟨p3, L3⟩ := laid_skip L2
  obtain ⟨p4, L4⟩ := laid_skip L3
  obtain ⟨p5, L5⟩ := laid_skip L4
  obtain ⟨p6, L6⟩ := laid_skip L5
  obtain ⟨p7, L7⟩ := laid_skip L6
  obtain ⟨p8, L8⟩ := laid_skip L7
  obtain ⟨p9, L9⟩ := laid_skip L8
  obtain ⟨p10, L10⟩ := laid_skip L9
  obtain ⟨p11, L11⟩ := laid_skip L10
  obtain ⟨p12, L12⟩ := laid_skip L11
  have hs : Tryz.prog.globals.size ≤ B.heap.size := by have := size_of gn13 L1; rw [gsize]; omega
  have k0 := TabSt.start (P := Tryz.prog) (B := B) hs
  generalize glob0 Tryz.prog.globals.size = σ at k0
  rw [gsize] at k0
  have k1 := tab_lits (ds := parts Rows.laid_math_bits_deBruijn32tab) (r := [("math/bits.deBruijn64tab", Rows.laid_math_bits_deBruijn64tab), ("internal/strconv.uint64pow10", Rows.laid_internal_strconv_uint64pow10), ("unicode/utf8.acceptRanges", Rows.laid_unicode_utf8_acceptRanges), ("plumbob/words.operations", Rows.laid_plumbob_words_operations), ("plumbob/rtl.shapes", Rows.laid_plumbob_rtl_shapes), ("plumbob/ltl.params", Rows.laid_plumbob_ltl_params), ("strconv.isGraphic", Rows.laid_strconv_isGraphic), ("strconv.isNotPrint16", Rows.laid_strconv_isNotPrint16), ("strconv.isNotPrint32", Rows.laid_strconv_isNotPrint32), ("strconv.isPrint16", Rows.laid_strconv_isPrint16), ("strconv.isPrint32", Rows.laid_strconv_isPrint32), ("unicode/utf8.first", Rows.laid_unicode_utf8_first)]) (ps := ps) L0 gn12 gty12 und286 scal5 (by simp [parts, Rows.laid_math_bits_deBruijn32tab]) k0
  have k2 := tab_lits (ds := parts Rows.laid_math_bits_deBruijn64tab) (r := [("internal/strconv.uint64pow10", Rows.laid_internal_strconv_uint64pow10), ("unicode/utf8.acceptRanges", Rows.laid_unicode_utf8_acceptRanges), ("plumbob/words.operations", Rows.laid_plumbob_words_operations), ("plumbob/rtl.shapes", Rows.laid_plumbob_rtl_shapes), ("plumbob/ltl.params", Rows.laid_plumbob_ltl_params), ("strconv.isGraphic", Rows.laid_strconv_isGraphic), ("strconv.isNotPrint16", Rows.laid_strconv_isNotPrint16), ("strconv.isNotPrint32", Rows.laid_strconv_isNotPrint32), ("strconv.isPrint16", Rows.laid_strconv_isPrint16), ("strconv.isPrint32", Rows.laid_strconv_isPrint32), ("unicode/utf8.first", Rows.laid_unicode_utf8_first)]) (ps := p1) L1 gn13 gty13 und287 scal5 (by simp [parts, Rows.laid_math_bits_deBruijn64tab]) k1
  have k3 := tab_lits (ds := parts Rows.laid_internal_strconv_uint64pow10) (r := [("unicode/utf8.acceptRanges", Rows.laid_unicode_utf8_acceptRanges), ("plumbob/words.operations", Rows.laid_plumbob_words_operations), ("plumbob/rtl.shapes", Rows.laid_plumbob_rtl_shapes), ("plumbob/ltl.params", Rows.laid_plumbob_ltl_params), ("strconv.isGraphic", Rows.laid_strconv_isGraphic), ("strconv.isNotPrint16", Rows.laid_strconv_isNotPrint16), ("strconv.isNotPrint32", Rows.laid_strconv_isNotPrint32), ("strconv.isPrint16", Rows.laid_strconv_isPrint16), ("strconv.isPrint32", Rows.laid_strconv_isPrint32), ("unicode/utf8.first", Rows.laid_unicode_utf8_first)]) (ps := p2) L2 gn2 gty2 und247 scal227 (by simp [parts, Rows.laid_internal_strconv_uint64pow10]) k2
  obtain ⟨fs3, hue3, hfs3, hof3⟩ := fld272
  have k4 := tab_aggs (kc := 2) (ds := parts Rows.laid_unicode_utf8_acceptRanges) (r := [("plumbob/words.operations", Rows.laid_plumbob_words_operations), ("plumbob/rtl.shapes", Rows.laid_plumbob_rtl_shapes), ("plumbob/ltl.params", Rows.laid_plumbob_ltl_params), ("strconv.isGraphic", Rows.laid_strconv_isGraphic), ("strconv.isNotPrint16", Rows.laid_strconv_isNotPrint16), ("strconv.isNotPrint32", Rows.laid_strconv_isNotPrint32), ("strconv.isPrint16", Rows.laid_strconv_isPrint16), ("strconv.isPrint32", Rows.laid_strconv_isPrint32), ("unicode/utf8.first", Rows.laid_unicode_utf8_first)]) (ps := p3) L3 gn5 gty5 und273 hue3 (by kernel_rfl) (by kernel_rfl) hfs3 hof3 (ne_nil_of (by kernel_rfl)) k3
  have k5 := tab_lits (ds := parts Rows.laid_plumbob_words_operations) (r := [("plumbob/rtl.shapes", Rows.laid_plumbob_rtl_shapes), ("plumbob/ltl.params", Rows.laid_plumbob_ltl_params), ("strconv.isGraphic", Rows.laid_strconv_isGraphic), ("strconv.isNotPrint16", Rows.laid_strconv_isNotPrint16), ("strconv.isNotPrint32", Rows.laid_strconv_isNotPrint32), ("strconv.isPrint16", Rows.laid_strconv_isPrint16), ("strconv.isPrint32", Rows.laid_strconv_isPrint32), ("unicode/utf8.first", Rows.laid_unicode_utf8_first)]) (ps := p4) L4 gn11 gty11 und279 scal9 (by simp [parts, Rows.laid_plumbob_words_operations]) k4
  obtain ⟨fs5, hue5, hfs5, hof5⟩ := fld181
  have k6 := tab_aggs (kc := 9) (ds := parts Rows.laid_plumbob_rtl_shapes) (r := [("plumbob/ltl.params", Rows.laid_plumbob_ltl_params), ("strconv.isGraphic", Rows.laid_strconv_isGraphic), ("strconv.isNotPrint16", Rows.laid_strconv_isNotPrint16), ("strconv.isNotPrint32", Rows.laid_strconv_isNotPrint32), ("strconv.isPrint16", Rows.laid_strconv_isPrint16), ("strconv.isPrint32", Rows.laid_strconv_isPrint32), ("unicode/utf8.first", Rows.laid_unicode_utf8_first)]) (ps := p5) L5 gn0 gty0 und210 hue5 (by kernel_rfl) (by kernel_rfl) hfs5 hof5 (ne_nil_of (by kernel_rfl)) k5
  have k7 := tab_lits (ds := parts Rows.laid_plumbob_ltl_params) (r := [("strconv.isGraphic", Rows.laid_strconv_isGraphic), ("strconv.isNotPrint16", Rows.laid_strconv_isNotPrint16), ("strconv.isNotPrint32", Rows.laid_strconv_isNotPrint32), ("strconv.isPrint16", Rows.laid_strconv_isPrint16), ("strconv.isPrint32", Rows.laid_strconv_isPrint32), ("unicode/utf8.first", Rows.laid_unicode_utf8_first)]) (ps := p6) L6 gn1 gty1 und212 scal3 (by simp [parts, Rows.laid_plumbob_ltl_params]) k6
  exact ⟨_, k7⟩
end Go.Ev
