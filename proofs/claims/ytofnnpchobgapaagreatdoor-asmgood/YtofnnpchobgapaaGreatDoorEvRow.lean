/- The contract of the law's first question, a closed call, by a machine of our own. -/
import Derived.Test.YtofnnpchobgapaaGreatDoorEvAll
import Derived.Test.YtofnnpchobgapaaGreatDoorEvSeat
import Derived.Test.YtofnnpchobgapaaGreatDoorEvVal
import Derived.Test.YtofnnpchobgapaaGreatDoorTie
import Derived.Test.YtofnnpchobgapaaGreatDoorCards
import Derived.ProofKit
import Derived.LaidMore
import Derived.Lay
import Derived.OpenShut
import Derived.Carry
import Derived.ChangeMaps5
import Derived.Stop.Joined
import Derived.Stop.LaidErr
import Derived.Lib.LaidTab
import Derived.SevenTiedAt
import Derived.Lib.SmallJoins
set_option linter.unusedSimpArgs false
set_option linter.unusedVariables false
namespace Go.Proofs.YtofnnpchobgapaaGreatDoor
open Go.ChangeShapes Go.WideShapes Go.ChangeAt Go.RowKit Go.Joins Go.Deep
set_option linter.unusedSimpArgs false
set_option linter.unusedVariables false

theorem own : ownKnob Tryz.prog.godebug = none := by kernel_rfl
theorem laidOut : laidOutB Tryz.prog = true := by kernel_rfl
def laidY : List (String × DataW Unit) := [("math/bits.deBruijn32tab", Rows.laid_math_bits_deBruijn32tab), ("math/bits.deBruijn64tab", Rows.laid_math_bits_deBruijn64tab), ("internal/strconv.uint64pow10", Rows.laid_internal_strconv_uint64pow10), ("unicode/utf8.acceptRanges", Rows.laid_unicode_utf8_acceptRanges), ("plumbob/words.operations", Rows.laid_plumbob_words_operations), ("plumbob/asm.order", Rows.laid_plumbob_asm_order), ("plumbob/asm.shapes", Rows.laid_plumbob_asm_shapes), ("plumbob/asm.names", Rows.laid_plumbob_asm_names), ("strconv.isGraphic", Rows.laid_strconv_isGraphic), ("strconv.isNotPrint16", Rows.laid_strconv_isNotPrint16), ("strconv.isNotPrint32", Rows.laid_strconv_isNotPrint32), ("strconv.isPrint16", Rows.laid_strconv_isPrint16), ("strconv.isPrint32", Rows.laid_strconv_isPrint32), ("unicode/utf8.first", Rows.laid_unicode_utf8_first)]
theorem mixedOk : Tryz.prog.follows .mixedOrders = true := by kernel_rfl
theorem awake_walk (W : World) (h : laidMetH Tryz.prog laidY W) : ∀ w, Below W.heap.size W w → Calls Tryz.prog 5 #[] w (fun e W' => e = .returned (.bool true) ∧ Below w.heap.size w W') := by
  rw [MakeChecks.laidMetH_plain _ _ _ (by kernel_rfl)] at h
  obtain ⟨σ, k⟩ := Ev.tabs_seat (B := W) h
  have hp : laidMet Tryz.prog (("internal/strconv.uint64pow10", Rows.laid_internal_strconv_uint64pow10) :: [("unicode/utf8.acceptRanges", Rows.laid_unicode_utf8_acceptRanges), ("plumbob/words.operations", Rows.laid_plumbob_words_operations), ("plumbob/asm.order", Rows.laid_plumbob_asm_order), ("plumbob/asm.shapes", Rows.laid_plumbob_asm_shapes), ("plumbob/asm.names", Rows.laid_plumbob_asm_names), ("strconv.isGraphic", Rows.laid_strconv_isGraphic), ("strconv.isNotPrint16", Rows.laid_strconv_isNotPrint16), ("strconv.isNotPrint32", Rows.laid_strconv_isNotPrint32), ("strconv.isPrint16", Rows.laid_strconv_isPrint16), ("strconv.isPrint32", Rows.laid_strconv_isPrint32), ("unicode/utf8.first", Rows.laid_unicode_utf8_first)]) W := (laidMet.tail (laidMet.tail h))
  rw [show (Rows.laid_internal_strconv_uint64pow10 : DataW Unit) = Lib.tabData .u64 Lib.pow10Tab by rfl] at hp
  have ht : Lib.TabIs Tryz.prog W "internal/strconv.uint64pow10" .u64 Lib.pow10Tab := Lib.tabIs_of_head (show Tryz.prog.globalNamed "internal/strconv.uint64pow10" = some 4 by kernel_rfl) (show (Tryz.prog.globals[4]?).map (·.type) = some 171 by kernel_rfl) Tryz.underlying171 Tryz.underlying139 (by kernel_rfl) (by kernel_rfl) hp
  exact (Ev.ansv_calls mixedOk (Ev.all0 mixedOk Ev.no_count (Ev.vals_ok ht)) Ev.no_count k rfl rfl (Ev.ansb_ansv Ev.k0)).2
theorem plain1_eq {σ : Ev.Sg} {v v' : Value} (h : Ev.plain1 v = true) (k : Ev.VR σ v v') : v' = v := by
  cases k <;> first | rfl | simp [Ev.plain1] at h
/-- The cells of a table. -/
noncomputable def tab1 : List Value := (Ev.parts Rows.laid_plumbob_asm_shapes).flatMap fun x => (Ev.parts x).map Ev.litv
theorem tab1_get : Ev.h0.objs.get 1 = some (.ro tab1) := by kernel_rfl
theorem tab1_cells (W : World) (h : laidMetH Tryz.prog laidY W) (i : Nat) (v : Value) (hv : tab1[i]? = some v) (hp : Ev.plain1 v = true) : W.cell? ⟨1, i, none⟩ = some v := by
  rw [MakeChecks.laidMetH_plain _ _ _ (by kernel_rfl)] at h
  obtain ⟨σ, k⟩ := Ev.tabs_seat (B := W) h
  obtain ⟨r, δ, x, e1, C, e, fz, h1, h2⟩ := k.hr.obj 1 _ tab1_get rfl
  rw [k.hr.glob 1 (by rw [Ev.gsize]; decide)] at e1
  cases e1
  obtain ⟨v', h3, h4⟩ := h2 i v hv
  have h3' : C[i]? = some v' := by simpa using h3
  rw [Ev.cell_at h1, h3', plain1_eq hp h4]
end Go.Proofs.YtofnnpchobgapaaGreatDoor
