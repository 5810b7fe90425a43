/- A part of a machine of our own for closed calls, and of the proof that it says what the runs do. -/
import Derived.Test.YthieicjnenlpfaaGreatDoorEvTab
import Derived.Test.YthieicjnenlpfaaGreatDoorEvH
set_option linter.unusedSimpArgs false
set_option linter.unusedVariables false
namespace Go.Ev
open Go Go.RowKit Go.Proofs Go.Proofs.YthieicjnenlpfaaGreatDoor

theorem gsize : Tryz.prog.globals.size = 2 := by kernel_rfl
theorem gn1 : Tryz.prog.globalNamed "plumbob/rtl.shapes" = some 1 := by kernel_rfl
theorem gty1 : (Tryz.prog.globals[1]?).map (·.type) = some 118 := by kernel_rfl
theorem und118 : Tryz.prog.underlying 118 = some (.array 15 97) := by kernel_rfl
theorem fld97 : ∃ fs : Array Field, Tryz.prog.underlying 97 = some (.struct fs) ∧ fs.size = 9 ∧ ∀ (i : Nat) f, fs[i]? = some f → f.offset = i ∧ Scal Tryz.prog f.type := structs_ok (by kernel_rfl)
theorem gn0 : Tryz.prog.globalNamed "plumbob/ltl.params" = some 0 := by kernel_rfl
theorem gty0 : (Tryz.prog.globals[0]?).map (·.type) = some 46 := by kernel_rfl
theorem und46 : Tryz.prog.underlying 46 = some (.array 6 3) := by kernel_rfl
theorem scal3 : Scal Tryz.prog 3 := ⟨by kernel_rfl, .inl ⟨.i64, by kernel_rfl⟩⟩

theorem size_of {B : World} {n : String} {g : Nat} {d : DataW Unit} {r : List (String × DataW Unit)} {ps : List MemPlace} (hg : Tryz.prog.globalNamed n = some g) (hL : DataW.LaidVars Tryz.prog B ((n, d) :: r) ps) : g < B.heap.size := by
  obtain ⟨g', t, cs, fuel, p, q, h1, _, h3, _, _, _⟩ := hL
  rw [hg] at h1; cases h1
  simp only [World.var?, hg, Option.bind_some] at h3
  cases hh : B.heap[g]? with
  | none => simp [hh] at h3
  | some o => exact (Array.getElem?_eq_some_iff.1 hh).1

theorem tabs_seat {B : World} (hm : laidMet Tryz.prog Rows.ltlGoodRow.laid B) : ∃ σ, TabSt Tryz.prog B σ h0 := by
  obtain ⟨ps, hL, _⟩ := hm
  have L0 : DataW.LaidVars Tryz.prog B [("plumbob/rtl.shapes", Rows.laid_plumbob_rtl_shapes), ("plumbob/ltl.params", Rows.laid_plumbob_ltl_params)] ps := hL
  obtain ⟨p1, L1⟩ := laid_skip L0
  have hs : Tryz.prog.globals.size ≤ B.heap.size := by have := size_of gn1 L0; rw [gsize]; omega
  have k0 := TabSt.start (P := Tryz.prog) (B := B) hs
  generalize glob0 Tryz.prog.globals.size = σ at k0
  rw [gsize] at k0
  obtain ⟨fs0, hue0, hfs0, hof0⟩ := fld97
  have k1 := tab_aggs (kc := 9) (ds := parts Rows.laid_plumbob_rtl_shapes) (r := [("plumbob/ltl.params", Rows.laid_plumbob_ltl_params)]) (ps := ps) L0 gn1 gty1 und118 hue0 (by kernel_rfl) (by kernel_rfl) hfs0 hof0 (ne_nil_of (by kernel_rfl)) k0
  have k2 := tab_lits (ds := parts Rows.laid_plumbob_ltl_params) (r := []) (ps := p1) L1 gn0 gty0 und46 scal3 (by simp [parts, Rows.laid_plumbob_ltl_params]) k1
  exact ⟨_, k2⟩
end Go.Ev
