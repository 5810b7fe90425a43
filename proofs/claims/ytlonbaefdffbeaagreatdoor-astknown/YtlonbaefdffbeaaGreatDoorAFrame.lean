import Derived.Test.YtlonbaefdffbeaaGreatDoorXTellA
import Derived.ChangeArms
import Derived.Test.YtlonbaefdffbeaaGreatDoorTie
import Derived.Test.YtlonbaefdffbeaaGreatDoorCards
import Derived.ProofKit
import Derived.LaidMore
import Derived.OpenShut
import Derived.Carry
import Derived.ChangeMaps5
import Derived.Stop.Joined
import Derived.Stop.LaidErr
import Derived.Lib.LaidTab
import Derived.SevenTiedAt
import Derived.Lib.SmallJoins
namespace Go.Proofs.YtlonbaefdffbeaaGreatDoor
open Go.ChangeShapes Go.WideShapes Go.ChangeAt Go.RowKit Go.Joins Go.Deep
set_option linter.unusedSimpArgs false
set_option linter.unusedVariables false

theorem own : ownKnob Tryz.prog.godebug = none := by kernel_rfl
def laid7 : List (String × DataW Unit) := [("math/bits.deBruijn32tab", Rows.laid_math_bits_deBruijn32tab), ("math/bits.deBruijn64tab", Rows.laid_math_bits_deBruijn64tab), ("internal/strconv.uint64pow10", Rows.laid_internal_strconv_uint64pow10), ("strconv.ErrRange", Rows.laid_strconv_ErrRange), ("strconv.ErrSyntax", Rows.laid_strconv_ErrSyntax), ("plumbob/lex.keywords", Rows.laid_plumbob_lex_keywords), ("plumbob/lex.marks", Rows.laid_plumbob_lex_marks), ("plumbob/ast.levels", Rows.laid_plumbob_ast_levels), ("plumbob/ast.prefixes", Rows.laid_plumbob_ast_prefixes), ("plumbob/ast.typeWords", Rows.laid_plumbob_ast_typeWords)]
theorem gRange : Tryz.prog.globalNamed "strconv.ErrRange" = some 6 := by kernel_rfl
theorem tRange : (Tryz.prog.globals[6]?).map (·.type) = some 127 := by kernel_rfl
theorem gSyntax : Tryz.prog.globalNamed "strconv.ErrSyntax" = some 5 := by kernel_rfl
theorem tSyntax : (Tryz.prog.globals[5]?).map (·.type) = some 127 := by kernel_rfl
theorem gKw : Tryz.prog.globalNamed "plumbob/lex.keywords" = some 3 := by kernel_rfl
theorem tKw : (Tryz.prog.globals[3]?).map (·.type) = some 153 := by kernel_rfl
theorem gMk : Tryz.prog.globalNamed "plumbob/lex.marks" = some 1 := by kernel_rfl
theorem tMk : (Tryz.prog.globals[1]?).map (·.type) = some 143 := by kernel_rfl
theorem gLv : Tryz.prog.globalNamed "plumbob/ast.levels" = some 7 := by kernel_rfl
theorem tLv : (Tryz.prog.globals[7]?).map (·.type) = some 181 := by kernel_rfl
theorem gPf : Tryz.prog.globalNamed "plumbob/ast.prefixes" = some 8 := by kernel_rfl
theorem tPf : (Tryz.prog.globals[8]?).map (·.type) = some 147 := by kernel_rfl
theorem gTw : Tryz.prog.globalNamed "plumbob/ast.typeWords" = some 2 := by kernel_rfl
theorem tTw : (Tryz.prog.globals[2]?).map (·.type) = some 147 := by kernel_rfl
theorem gPow : Tryz.prog.globalNamed "internal/strconv.uint64pow10" = some 4 := by kernel_rfl
theorem tPow : (Tryz.prog.globals[4]?).map (·.type) = some 173 := by kernel_rfl
def strData {H : Type} (ss : List ByteArray) : DataW H := .agg (ss.map fun s => .lit (.string s.data.toList))
theorem kwData_eq : (Rows.laid_plumbob_lex_keywords : DataW Unit) = strData kwList := by rfl
theorem mkData_eq : (Rows.laid_plumbob_lex_marks : DataW Unit) = strData mkList := by rfl
theorem pfData_eq : (Rows.laid_plumbob_ast_prefixes : DataW Unit) = strData preOps := by rfl
theorem twData_eq : (Rows.laid_plumbob_ast_typeWords : DataW Unit) = strData twList := by rfl
def lvData {H : Type} : DataW H := .agg (lvOps.map fun ss => .slice (ss.map fun s => .lit (.string s.data.toList)) [])
theorem lvData_eq : (Rows.laid_plumbob_ast_levels : DataW Unit) = lvData := by rfl
theorem powData_eq : (Rows.laid_internal_strconv_uint64pow10 : DataW Unit) = Lib.tabData .u64 Lib.pow10Tab := by rfl
theorem bytes_ext {a b : ByteArray} (h : a.data.toList = b.data.toList) : a = b := by
 obtain ⟨⟨a⟩⟩ := a;obtain ⟨⟨b⟩⟩ := b;simp at h;rw [h]
theorem strs_of_head {W : World} {name : String} {ss : List ByteArray} {rest : List (String × DataW Unit)} {g : Nat} {t e : TypeId} {n : Nat}
  (hg : Tryz.prog.globalNamed name = some g) (hty : (Tryz.prog.globals[g]?).map (·.type) = some t) (ht : Tryz.prog.underlying t = some (.array n e)) (he : Tryz.prog.underlying e = some .string) (hce : Tryz.prog.cellsOf e = 1)
  (h : laidMet Tryz.prog ((name, strData ss) :: rest) W) (i : Nat) (s : ByteArray) (hs : ss[i]? = some s) : W.cell? ⟨g, i, none⟩ = some (.string s) := by
 obtain ⟨ps, ⟨g', t', cs, fuel, p, q, hg', ht', hvar, hd, _, _⟩, _⟩ := h;obtain rfl := Option.some.inj (hg.symm.trans hg');obtain rfl := Option.some.inj (hty.symm.trans ht');obtain ⟨xs, m, _, hx, hcl, hxl, hel⟩ := DataW.trod_array ht hd
 have hx1 : ss.map (fun s => (DataW.lit (.string s.data.toList) : DataW Unit)) = xs.map (·.1) := by
  have := congrArg Prod.fst hx;simpa [strData] using this
 have hi : i < n := by
  have h1 := (List.getElem?_eq_some_iff.1 hs).1;have h2 := congrArg List.length hx1;simp at h2
  omega
 have h3 := congrArg (·[i]?) hx1;simp only [List.getElem?_map, hs, Option.map_some] at h3;obtain ⟨y, hy⟩ : ∃ y, xs[i]? = some y := ⟨_, List.getElem?_eq_getElem (by omega)⟩;have hei := hel i hi;rw [hy, hce, Nat.mul_one] at hei;obtain ⟨s', hc, hye, _⟩ := DataW.trod_string he hei;rw [hy] at h3;simp [hye] at h3;have e1 : s = s' := bytes_ext (congrArg Array.toList h3);subst e1;rw [World.var?_cell hg hvar i];have := congrArg (·[0]?) hc;simpa [List.getElem?_take, List.getElem?_drop] using this
theorem spot_none {w : World} {a : Addr} {v : Value} (h : w.cell? (a.add 0) = some v) : a = ⟨a.block, a.off, none⟩ := by
 obtain ⟨b, off, spot⟩ := a;have := World.cell?_spot h;have : spot = none := by simpa [Addr.add] using this
 subst this; rfl
theorem cells_one {w : World} {a : Addr} {v : Value} (h : w.cells? 0 a 1 = some [v]) : w.cell? a = some v := by
 have e : a.add 0 = a := by simp [Addr.add]
 unfold World.cells? at h;rw [if_pos (Nat.zero_le _)] at h;have h1 : (List.range 1) = [0] := rfl;rw [h1] at h;simp only [List.mapM_cons, List.mapM_nil, e] at h
 cases hc : w.cell? a with
 | none => rw [hc] at h; simp at h
 | some x => rw [hc] at h; simpa using h
theorem lv_of_head {W : World} {rest : List (String × DataW Unit)} (h : laidMet Tryz.prog (("plumbob/ast.levels", lvData) :: rest) W) : ∃ gb, LvTab gb W := by
 obtain ⟨ps, ⟨g', t', cs, fuel, p, q, hg', ht', hvar, hd, _, _⟩, _⟩ := h;obtain rfl := Option.some.inj (gLv.symm.trans hg');obtain rfl := Option.some.inj (tLv.symm.trans ht');obtain ⟨xs, m, _, hx, hcl, hxl, hel⟩ := DataW.trod_array Tryz.underlying181 hd
 have hx1 : lvOps.map (fun ss => (DataW.slice (ss.map fun s => .lit (.string s.data.toList)) [] : DataW Unit)) = xs.map (·.1) := by
  have := congrArg Prod.fst hx;simpa [lvData] using this
 have hlen : xs.length = 10 := by
  have h2 := congrArg List.length hx1;rw [List.length_map, List.length_map] at h2;exact h2.symm
 have hce : Tryz.prog.cellsOf 38 = 1 := by kernel_rfl
 have hcs : Tryz.prog.cellsOf 9 = 1 := by kernel_rfl
 have each : ∀ l ops, lvOps[l]? = some ops → ∃ q : Nat × Nat, W.cell? ⟨7, l, none⟩ = some (.slice (some ⟨q.1, q.2, none⟩) ops.length ops.length) ∧ ∀ j op, ops[j]? = some op → W.cell? ⟨q.1, q.2 + j, none⟩ = some (.string op) := by
  intro l ops ho;have hi : l < 10 := (List.getElem?_eq_some_iff.1 ho).1
  have hne : ops ≠ [] := by
   have h9 : lvOps.all (fun o => !o.isEmpty) = true := by decide
   have := List.all_eq_true.1 h9 ops (List.mem_of_getElem? ho);intro he;rw [he] at this;simp at this
  have h3 := congrArg (·[l]?) hx1;simp only [List.getElem?_map, ho, Option.map_some] at h3;obtain ⟨y, hy⟩ : ∃ y, xs[l]? = some y := ⟨_, List.getElem?_eq_getElem (by omega)⟩;have hei := hel l hi;rw [hy, hce, Nat.mul_one] at hei;rw [hy, Option.map_some] at h3;have h4 := Option.some.inj h3
  have hcell : ∀ v, (cs.toList.drop l).take 1 = [v] → W.cell? ⟨7, l, none⟩ = some v := fun v hc => by
   rw [World.var?_cell gLv hvar l];have := congrArg (·[0]?) hc;simpa [List.getElem?_take, List.getElem?_drop] using this
  rcases DataW.trod_slice Tryz.underlying38 hei with ⟨_, hye⟩ | ⟨a, len, cap, elems, rst, n, _, hc, hye, _, hlc, _, hll, hev, hsp, _⟩
  ·rw [hye] at h4
   cases h4
  ·rw [hye] at h4
   simp only [DataW.slice.injEq] at h4;obtain ⟨h5, h6⟩ := h4
   have hr : rst = [] := by
    cases rst with
    | nil => rfl
    | cons _ _ => simp at h6
   have hcap : cap = len := by
    have := (hsp rfl).1;rw [hr] at this;simp at this
    omega
   have hlo : len = ops.length := by
    have := congrArg List.length h5;rw [List.length_map, List.length_map, hll] at this;exact this.symm
   have hat : ∀ j op, ops[j]? = some op → W.cell? (a.add j) = some (.string op) := by
    intro j op hj;have hjl : j < len := by rw [hlo]; exact (List.getElem?_eq_some_iff.1 hj).1
    have h7 := hev j hjl;rw [hcs, Nat.mul_one] at h7;obtain ⟨z, hz⟩ : ∃ z, elems[j]? = some z := ⟨_, List.getElem?_eq_getElem (by omega)⟩;rw [hz, Option.bind_eq_some_iff] at h7;obtain ⟨cz, hcz, htz⟩ := h7;obtain ⟨s', hc', hze, _⟩ := DataW.trod_string Tryz.underlying9 htz;have h8 := congrArg (·[j]?) h5;simp only [List.getElem?_map, hj, hz, Option.map_some] at h8;have h9 := Option.some.inj h8;rw [hze] at h9;simp only [DataW.lit.injEq, Lit.string.injEq] at h9;have e1 : op = s' := bytes_ext h9;subst e1;subst hc';have := cells_one hcz;exact this
   obtain ⟨o0, ho0⟩ : ∃ o0, ops[0]? = some o0 := by
    cases ops with
    | nil => exact absurd rfl hne
    | cons x r => exact ⟨x, rfl⟩
   have hspot := spot_none (hat 0 o0 ho0);refine ⟨(a.block, a.off), ?_, ?_⟩
   ·have := hcell _ hc
    rw [this, hcap, hlo];exact congrArg (fun x => some (Value.slice (some x) ops.length ops.length)) hspot
   ·intro j op hj
    have h := hat j op hj;rw [hspot] at h
    by_cases hj0 : j = 0
    ·subst hj0
     simpa [Addr.add] using h
    ·simpa [Addr.add, hj0] using h
 have each' : ∀ l, ∃ q : Nat × Nat, ∀ ops, lvOps[l]? = some ops → W.cell? ⟨7, l, none⟩ = some (.slice (some ⟨q.1, q.2, none⟩) ops.length ops.length) ∧ ∀ j op, ops[j]? = some op → W.cell? ⟨q.1, q.2 + j, none⟩ = some (.string op) := by
  intro l
  cases ho : lvOps[l]? with
  | none => exact ⟨(0, 0), fun ops h => by cases h⟩
  | some ops =>
   obtain ⟨q, hq⟩ := each l ops ho;exact ⟨q, fun ops' h => by obtain rfl := Option.some.inj h; exact hq⟩
 obtain ⟨gb, hgb⟩ := Classical.axiomOfChoice each';exact ⟨gb, fun l ops ho => (hgb l ops ho).1, fun l ops j op ho hop => (hgb l ops ho).2 j op hop⟩
theorem door_met (os : Os) (args : Array Value) : laidMetH Tryz.prog laid7 ((World.doorLaid Tryz.prog 400 os).forCall (fun _ _ => 0) ⟨#[], args, []⟩).memory :=
 laidMetH_of_parts3 (fuel := 8) (laidMet_of_run' 8 (by kernel_rfl) (by kernel_rfl)) (by kernel_rfl) (by kernel_rfl)
theorem cellsStr : Tryz.prog.cellsOf 9 = 1 := by kernel_rfl
theorem cellsErr : Tryz.prog.cellsOf 185 = 1 := by kernel_rfl
theorem starErr : "*" ++ "errors.errorString" = "*errors.errorString" := by decide
theorem rowErr (u : TypeId) (h : Tryz.prog.typeName? 3 u = some "*errors.errorString") : u = 183 := 
 typeName_ptr_named (nm := "errors.errorString") (by rw [starErr]; kernel_rfl) (by kernel_rfl) (by decide) u (by rw [starErr]; exact h)
theorem tabs_of_laid {W : World} (h : laidMetH Tryz.prog laid7 W) : ∃ gb, PTab gb W ∧ Tab10 W := by
 rw [MakeChecks.laidMetH_plain _ _ _ (by kernel_rfl)] at h;have h2 := laidMet.tail (laidMet.tail h);have h3 := laidMet.tail h2;have h4 := laidMet.tail h3;have h5 := laidMet.tail h4;have h6 := laidMet.tail h5;have h7 := laidMet.tail h6;have h8 := laidMet.tail h7;have h9 := laidMet.tail h8;rw [powData_eq] at h2;rw [kwData_eq] at h5;rw [mkData_eq] at h6;rw [lvData_eq] at h7;rw [pfData_eq] at h8;rw [twData_eq] at h9;obtain ⟨a0, s0, hv0, _⟩ := laid_sentinel h3 gRange tRange Tryz.underlying127 rowErr Tryz.underlying183 Tryz.underlying185 rfl rfl Tryz.underlying9 cellsErr cellsStr;obtain ⟨a1, s1, hv1, _⟩ := laid_sentinel h4 gSyntax tSyntax Tryz.underlying127 rowErr Tryz.underlying183 Tryz.underlying185 rfl rfl Tryz.underlying9 cellsErr cellsStr;obtain ⟨gb, hlv⟩ := lv_of_head h7;refine ⟨gb, ⟨⟨fun j hj => ?_, fun j hj => ?_⟩, ⟨⟨_, _, World.var?_cell gSyntax hv1 0⟩, ⟨_, _, World.var?_cell gRange hv0 0⟩⟩, ⟨fun j hj => ?_⟩, ⟨fun j hj => ?_⟩, hlv⟩, ?_⟩
 ·have hl : j < kwList.length := hj
  rw [List.getElem?_eq_getElem hl];exact strs_of_head gKw tKw Tryz.underlying153 Tryz.underlying9 cellsStr h5 j _ (List.getElem?_eq_getElem hl)
 ·have hl : j < mkList.length := hj
  rw [List.getElem?_eq_getElem hl];exact strs_of_head gMk tMk Tryz.underlying143 Tryz.underlying9 cellsStr h6 j _ (List.getElem?_eq_getElem hl)
 ·have hl : j < twList.length := hj
  rw [List.getElem?_eq_getElem hl];exact strs_of_head gTw tTw Tryz.underlying147 Tryz.underlying9 cellsStr h9 j _ (List.getElem?_eq_getElem hl)
 ·have hl : j < preOps.length := hj
  rw [List.getElem?_eq_getElem hl];exact strs_of_head gPf tPf Tryz.underlying147 Tryz.underlying9 cellsStr h8 j _ (List.getElem?_eq_getElem hl)
 ·exact Lib.tabIs_of_head gPow tPow Tryz.underlying173 Tryz.underlying102 (by kernel_rfl) (by kernel_rfl) h2
end Go.Proofs.YtlonbaefdffbeaaGreatDoor
