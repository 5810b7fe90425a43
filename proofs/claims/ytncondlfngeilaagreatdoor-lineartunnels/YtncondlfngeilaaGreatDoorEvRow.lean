
import Derived.Test.YtncondlfngeilaaGreatDoorEvAll
import Derived.Test.YtncondlfngeilaaGreatDoorEvSeat
import Derived.Test.YtncondlfngeilaaGreatDoorEvVal
import Derived.Test.YtncondlfngeilaaGreatDoorTie
import Derived.Test.YtncondlfngeilaaGreatDoorCards
import Derived.ProofKit
import Derived.LaidMore
import Derived.Lay
import Derived.OpenShut
import Derived.Carry
import Derived.ChangeMaps5
import Derived.Stop.Joined
import Derived.Stop.LaidErr
import Derived.Lib.LaidTab
import Derived.SevenTiedAt
import Derived.Lib.SmallJoins
set_option linter.unusedSimpArgs false
set_option linter.unusedVariables false
namespace Go.Proofs.YtncondlfngeilaaGreatDoor
open Go.ChangeShapes Go.WideShapes Go.ChangeAt Go.RowKit Go.Joins Go.Deep
set_option linter.unusedSimpArgs false
set_option linter.unusedVariables false

theorem own : ownKnob Tryz.prog.godebug = none := by kernel_rfl
theorem laidOut : laidOutB Tryz.prog = true := by kernel_rfl
def laidY : List (String × DataW Unit) := [("math/bits.deBruijn32tab", Rows.laid_math_bits_deBruijn32tab), ("math/bits.deBruijn64tab", Rows.laid_math_bits_deBruijn64tab), ("internal/strconv.uint64pow10", Rows.laid_internal_strconv_uint64pow10), ("unicode/utf8.acceptRanges", Rows.laid_unicode_utf8_acceptRanges), ("plumbob/words.operations", Rows.laid_plumbob_words_operations), ("plumbob/rtl.shapes", Rows.laid_plumbob_rtl_shapes), ("plumbob/ltl.params", Rows.laid_plumbob_ltl_params), ("strconv.isGraphic", Rows.laid_strconv_isGraphic), ("strconv.isNotPrint16", Rows.laid_strconv_isNotPrint16), ("strconv.isNotPrint32", Rows.laid_strconv_isNotPrint32), ("strconv.isPrint16", Rows.laid_strconv_isPrint16), ("strconv.isPrint32", Rows.laid_strconv_isPrint32), ("unicode/utf8.first", Rows.laid_unicode_utf8_first)]
theorem mixedOk : Tryz.prog.follows .mixedOrders = true := by kernel_rfl
theorem awake_walk (W : World) (h : laidMetH Tryz.prog laidY W) : ∀ w, Below W.heap.size W w → Calls Tryz.prog 4 #[] w (fun e W' => e = .returned (.bool true) ∧ Below w.heap.size w W') := by
  rw [MakeChecks.laidMetH_plain _ _ _ (by kernel_rfl)] at h
  obtain ⟨σ, k⟩ := Ev.tabs_seat (B := W) h
  have hp : laidMet Tryz.prog (("internal/strconv.uint64pow10", Rows.laid_internal_strconv_uint64pow10) :: [("unicode/utf8.acceptRanges", Rows.laid_unicode_utf8_acceptRanges), ("plumbob/words.operations", Rows.laid_plumbob_words_operations), ("plumbob/rtl.shapes", Rows.laid_plumbob_rtl_shapes), ("plumbob/ltl.params", Rows.laid_plumbob_ltl_params), ("strconv.isGraphic", Rows.laid_strconv_isGraphic), ("strconv.isNotPrint16", Rows.laid_strconv_isNotPrint16), ("strconv.isNotPrint32", Rows.laid_strconv_isNotPrint32), ("strconv.isPrint16", Rows.laid_strconv_isPrint16), ("strconv.isPrint32", Rows.laid_strconv_isPrint32), ("unicode/utf8.first", Rows.laid_unicode_utf8_first)]) W := (laidMet.tail (laidMet.tail h))
  rw [show (Rows.laid_internal_strconv_uint64pow10 : DataW Unit) = Lib.tabData .u64 Lib.pow10Tab by rfl] at hp
  have ht : Lib.TabIs Tryz.prog W "internal/strconv.uint64pow10" .u64 Lib.pow10Tab := Lib.tabIs_of_head (show Tryz.prog.globalNamed "internal/strconv.uint64pow10" = some 2 by kernel_rfl) (show (Tryz.prog.globals[2]?).map (·.type) = some 247 by kernel_rfl) Tryz.underlying247 Tryz.underlying227 (by kernel_rfl) (by kernel_rfl) hp
  exact (Ev.ansv_calls mixedOk (Ev.all0 mixedOk Ev.no_count (Ev.vals_ok ht)) Ev.no_count k rfl rfl (Ev.ansb_ansv Ev.k0)).2
theorem plain1_eq {σ : Ev.Sg} {v v' : Value} (h : Ev.plain1 v = true) (k : Ev.VR σ v v') : v' = v := by
  cases k <;> first | rfl | simp [Ev.plain1] at h
noncomputable def tab0 : List Value := (Ev.parts Rows.laid_plumbob_rtl_shapes).flatMap fun x => (Ev.parts x).map Ev.litv
theorem tab0_get : Ev.h0.objs.get 0 = some (.ro tab0) := by kernel_rfl
theorem tab0_cells (W : World) (h : laidMetH Tryz.prog laidY W) (i : Nat) (v : Value) (hv : tab0[i]? = some v) (hp : Ev.plain1 v = true) : W.cell? ⟨0, i, none⟩ = some v := by
  rw [MakeChecks.laidMetH_plain _ _ _ (by kernel_rfl)] at h
  obtain ⟨σ, k⟩ := Ev.tabs_seat (B := W) h
  obtain ⟨r, δ, x, e1, C, e, fz, h1, h2⟩ := k.hr.obj 0 _ tab0_get rfl
  rw [k.hr.glob 0 (by rw [Ev.gsize]; decide)] at e1
  cases e1
  obtain ⟨v', h3, h4⟩ := h2 i v hv
  have h3' : C[i]? = some v' := by simpa using h3
  rw [Ev.cell_at h1, h3', plain1_eq hp h4]
end Go.Proofs.YtncondlfngeilaaGreatDoor
