/- A part of a machine of our own for closed calls, and of the proof that it says what the runs do. -/
import Derived.Test.YtdnjjejfnmilpaaGreatDoorEvTab
import Derived.Test.YtdnjjejfnmilpaaGreatDoorEvH
set_option linter.unusedSimpArgs false
set_option linter.unusedVariables false
namespace Go.Ev
open Go Go.RowKit Go.Proofs Go.Proofs.YtdnjjejfnmilpaaGreatDoor

theorem gsize : Tryz.prog.globals.size = 3 := by kernel_rfl
theorem gn1 : Tryz.prog.globalNamed "math/bits.deBruijn64tab" = some 1 := by kernel_rfl
theorem gty1 : (Tryz.prog.globals[1]?).map (·.type) = some 219 := by kernel_rfl
theorem und219 : Tryz.prog.underlying 219 = some (.array 64 5) := by kernel_rfl
theorem scal5 : Scal Tryz.prog 5 := ⟨by kernel_rfl, .inl ⟨.u8, by kernel_rfl⟩⟩
theorem gn2 : Tryz.prog.globalNamed "plumbob/rtl.shapes" = some 2 := by kernel_rfl
theorem gty2 : (Tryz.prog.globals[2]?).map (·.type) = some 221 := by kernel_rfl
theorem und221 : Tryz.prog.underlying 221 = some (.array 15 179) := by kernel_rfl
theorem fld179 : ∃ fs : Array Field, Tryz.prog.underlying 179 = some (.struct fs) ∧ fs.size = 9 ∧ ∀ (i : Nat) f, fs[i]? = some f → f.offset = i ∧ Scal Tryz.prog f.type := structs_ok (by kernel_rfl)
theorem gn0 : Tryz.prog.globalNamed "plumbob/ltl.params" = some 0 := by kernel_rfl
theorem gty0 : (Tryz.prog.globals[0]?).map (·.type) = some 182 := by kernel_rfl
theorem und182 : Tryz.prog.underlying 182 = some (.array 6 3) := by kernel_rfl
theorem scal3 : Scal Tryz.prog 3 := ⟨by kernel_rfl, .inl ⟨.i64, by kernel_rfl⟩⟩

theorem size_of {B : World} {n : String} {g : Nat} {d : DataW Unit} {r : List (String × DataW Unit)} {ps : List MemPlace} (hg : Tryz.prog.globalNamed n = some g) (hL : DataW.LaidVars Tryz.prog B ((n, d) :: r) ps) : g < B.heap.size := by
  obtain ⟨g', t, cs, fuel, p, q, h1, _, h3, _, _, _⟩ := hL
  rw [hg] at h1; cases h1
  simp only [World.var?, hg, Option.bind_some] at h3
  cases hh : B.heap[g]? with
  | none => simp [hh] at h3
  | some o => exact (Array.getElem?_eq_some_iff.1 hh).1

theorem tabs_seat {B : World} (hm : laidMet Tryz.prog Rows.allocKnownRow.laid B) : ∃ σ, TabSt Tryz.prog B σ h0 := by
  obtain ⟨ps, hL, _⟩ := hm
  have L0 : DataW.LaidVars Tryz.prog B [("math/bits.deBruijn64tab", Rows.laid_math_bits_deBruijn64tab), ("plumbob/rtl.shapes", Rows.laid_plumbob_rtl_shapes), ("plumbob/ltl.params", Rows.laid_plumbob_ltl_params)] ps := hL
  obtain ⟨p1, L1⟩ := laid_skip L0
  obtain ⟨p2, L2⟩ := laid_skip L1
  have hs : Tryz.prog.globals.size ≤ B.heap.size := by have := size_of gn2 L1; rw [gsize]; omega
  have k0 := TabSt.start (P := Tryz.prog) (B := B) hs
  generalize glob0 Tryz.prog.globals.size = σ at k0
  rw [gsize] at k0
  have k1 := tab_lits (ds := parts Rows.laid_math_bits_deBruijn64tab) (r := [("plumbob/rtl.shapes", Rows.laid_plumbob_rtl_shapes), ("plumbob/ltl.params", Rows.laid_plumbob_ltl_params)]) (ps := ps) L0 gn1 gty1 und219 scal5 (by simp [parts, Rows.laid_math_bits_deBruijn64tab]) k0
  obtain ⟨fs1, hue1, hfs1, hof1⟩ := fld179
  have k2 := tab_aggs (kc := 9) (ds := parts Rows.laid_plumbob_rtl_shapes) (r := [("plumbob/ltl.params", Rows.laid_plumbob_ltl_params)]) (ps := p1) L1 gn2 gty2 und221 hue1 (by kernel_rfl) (by kernel_rfl) hfs1 hof1 (ne_nil_of (by kernel_rfl)) k1
  have k3 := tab_lits (ds := parts Rows.laid_plumbob_ltl_params) (r := []) (ps := p2) L2 gn0 gty0 und182 scal3 (by simp [parts, Rows.laid_plumbob_ltl_params]) k2
  exact ⟨_, k3⟩
end Go.Ev
