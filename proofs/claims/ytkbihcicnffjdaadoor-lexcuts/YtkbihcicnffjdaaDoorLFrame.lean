/- What every row of this seat owes: the listed tables lie as the program's text lays them. -/
import Derived.Test.YtkbihcicnffjdaaDoorLAwake2
import Derived.Test.YtkbihcicnffjdaaDoorTie
import Derived.Test.YtkbihcicnffjdaaDoorCards
import Derived.ProofKit
import Derived.LaidMore
import Derived.OpenShut
import Derived.Carry
import Derived.ChangeMaps5
import Derived.Stop.Joined
import Derived.Stop.LaidErr
import Derived.Lib.LaidTab
import Derived.SevenTiedAt
import Derived.Lib.SmallJoins
namespace Go.Proofs.YtkbihcicnffjdaaDoor
open Go.ChangeShapes Go.WideShapes Go.ChangeAt Go.RowKit Go.Joins Go.Deep
set_option linter.unusedSimpArgs false
set_option linter.unusedVariables false

theorem own : ownKnob Tryd.prog.godebug = none := by kernel_rfl
theorem laidOut : laidOutB Tryd.prog = true := by kernel_rfl
def laid7 : List (String × DataW Unit) := [("math/bits.deBruijn32tab", Rows.laid_math_bits_deBruijn32tab), ("math/bits.deBruijn64tab", Rows.laid_math_bits_deBruijn64tab), ("internal/strconv.uint64pow10", Rows.laid_internal_strconv_uint64pow10), ("strconv.ErrRange", Rows.laid_strconv_ErrRange), ("strconv.ErrSyntax", Rows.laid_strconv_ErrSyntax), ("plumbob/lex.keywords", Rows.laid_plumbob_lex_keywords), ("plumbob/lex.marks", Rows.laid_plumbob_lex_marks)]
theorem gRange : Tryd.prog.globalNamed "strconv.ErrRange" = some 3 := by kernel_rfl
theorem gSyntax : Tryd.prog.globalNamed "strconv.ErrSyntax" = some 2 := by kernel_rfl
theorem gKw : Tryd.prog.globalNamed "plumbob/lex.keywords" = some 1 := by kernel_rfl
theorem gMk : Tryd.prog.globalNamed "plumbob/lex.marks" = some 0 := by kernel_rfl
theorem tRange : (Tryd.prog.globals[3]?).map (·.type) = some 63 := by kernel_rfl
theorem tSyntax : (Tryd.prog.globals[2]?).map (·.type) = some 63 := by kernel_rfl
theorem tKw : (Tryd.prog.globals[1]?).map (·.type) = some 67 := by kernel_rfl
theorem tMk : (Tryd.prog.globals[0]?).map (·.type) = some 59 := by kernel_rfl
/-- A table of texts as a row lists it. -/
def strData {H : Type} (ss : List ByteArray) : DataW H := .agg (ss.map fun s => .lit (.string s.data.toList))
theorem kwData_eq : (Rows.laid_plumbob_lex_keywords : DataW Unit) = strData kwList := by rfl
theorem mkData_eq : (Rows.laid_plumbob_lex_marks : DataW Unit) = strData mkList := by rfl
theorem bytes_ext {a b : ByteArray} (h : a.data.toList = b.data.toList) : a = b := by
  obtain ⟨⟨a⟩⟩ := a
  obtain ⟨⟨b⟩⟩ := b
  simp at h
  rw [h]
theorem strs_of_head {W : World} {name : String} {ss : List ByteArray} {rest : List (String × DataW Unit)} {g : Nat} {t e : TypeId} {n : Nat}
    (hg : Tryd.prog.globalNamed name = some g) (hty : (Tryd.prog.globals[g]?).map (·.type) = some t) (ht : Tryd.prog.underlying t = some (.array n e)) (he : Tryd.prog.underlying e = some .string) (hce : Tryd.prog.cellsOf e = 1)
    (h : laidMet Tryd.prog ((name, strData ss) :: rest) W) (i : Nat) (s : ByteArray) (hs : ss[i]? = some s) : W.cell? ⟨g, i, none⟩ = some (.string s) := by
  obtain ⟨ps, ⟨g', t', cs, fuel, p, q, hg', ht', hvar, hd, _, _⟩, _⟩ := h
  obtain rfl := Option.some.inj (hg.symm.trans hg')
  obtain rfl := Option.some.inj (hty.symm.trans ht')
  obtain ⟨xs, m, _, hx, hcl, hxl, hel⟩ := DataW.trod_array ht hd
  have hx1 : ss.map (fun s => (DataW.lit (.string s.data.toList) : DataW Unit)) = xs.map (·.1) := by
    have := congrArg Prod.fst hx
    simpa [strData] using this
  have hi : i < n := by
    have h1 := (List.getElem?_eq_some_iff.1 hs).1
    have h2 := congrArg List.length hx1
    simp at h2
    omega
  have h3 := congrArg (·[i]?) hx1
  simp only [List.getElem?_map, hs, Option.map_some] at h3
  obtain ⟨y, hy⟩ : ∃ y, xs[i]? = some y := ⟨_, List.getElem?_eq_getElem (by omega)⟩
  have hei := hel i hi
  rw [hy, hce, Nat.mul_one] at hei
  obtain ⟨s', hc, hye, _⟩ := DataW.trod_string he hei
  rw [hy] at h3
  simp [hye] at h3
  have e1 : s = s' := bytes_ext (congrArg Array.toList h3)
  subst e1
  rw [World.var?_cell hg hvar i]
  have := congrArg (·[0]?) hc
  simpa [List.getElem?_take, List.getElem?_drop] using this
/-- The door's own heap meets the condition. -/
theorem door_met (os : Os) (args : Array Value) : laidMetH Tryd.prog laid7 ((World.doorLaid Tryd.prog 400 os).forCall (fun _ _ => 0) ⟨#[], args, []⟩).memory :=
  laidMetH_of_parts3 (fuel := 8) (laidMet_of_run' 8 (by kernel_rfl) (by kernel_rfl)) (by kernel_rfl) (by kernel_rfl)
theorem cellsStr : Tryd.prog.cellsOf 9 = 1 := by kernel_rfl
theorem cellsErr : Tryd.prog.cellsOf 83 = 1 := by kernel_rfl
theorem starErr : "*" ++ "errors.errorString" = "*errors.errorString" := by decide
theorem rowErr (u : TypeId) (h : Tryd.prog.typeName? 3 u = some "*errors.errorString") : u = 81 := 
  typeName_ptr_named (nm := "errors.errorString") (by rw [starErr]; kernel_rfl) (by kernel_rfl) (by decide) u (by rw [starErr]; exact h)
theorem tabs_of_laid {W : World} (h : laidMetH Tryd.prog laid7 W) : LexTab W ∧ ErrTab W := by
  rw [MakeChecks.laidMetH_plain _ _ _ (by kernel_rfl)] at h
  have h3 := laidMet.tail (laidMet.tail (laidMet.tail h))
  have h4 := laidMet.tail h3
  have h5 := laidMet.tail h4
  have h6 := laidMet.tail h5
  rw [kwData_eq] at h5
  rw [mkData_eq] at h6
  obtain ⟨a0, s0, hv0, _⟩ := laid_sentinel h3 gRange tRange Tryd.underlying63 rowErr Tryd.underlying81 Tryd.underlying83 rfl rfl Tryd.underlying9 cellsErr cellsStr
  obtain ⟨a1, s1, hv1, _⟩ := laid_sentinel h4 gSyntax tSyntax Tryd.underlying63 rowErr Tryd.underlying81 Tryd.underlying83 rfl rfl Tryd.underlying9 cellsErr cellsStr
  refine ⟨⟨fun j hj => ?_, fun j hj => ?_⟩, ⟨⟨_, _, World.var?_cell gSyntax hv1 0⟩, ⟨_, _, World.var?_cell gRange hv0 0⟩⟩⟩
  · have hl : j < kwList.length := hj
    rw [List.getElem?_eq_getElem hl]
    exact strs_of_head gKw tKw Tryd.underlying67 Tryd.underlying9 cellsStr h5 j _ (List.getElem?_eq_getElem hl)
  · have hl : j < mkList.length := hj
    rw [List.getElem?_eq_getElem hl]
    exact strs_of_head gMk tMk Tryd.underlying59 Tryd.underlying9 cellsStr h6 j _ (List.getElem?_eq_getElem hl)
end Go.Proofs.YtkbihcicnffjdaaDoor
