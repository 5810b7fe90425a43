/- FlowLeast, where what comes in is of bulk at most 1,048,576: for every right function each register that Live tells at a node is read there, or told at one that it goes on at and not written, and what is so is told: the statement FlowLeast returns true. Conditions: the bound on what comes in; the table that the row lists starts as the program's text lays it (the card ties it). -/
import Derived.Test.YtfeglcpipcjaeaaGreatDoorFyJ
import Derived.Test.YtfeglcpipcjaeaaGreatDoorFyH
import Derived.Test.YtfeglcpipcjaeaaGreatDoorEvRow
import Derived.Test.YtfeglcpipcjaeaaGreatDoorTie
import Derived.Test.YtfeglcpipcjaeaaGreatDoorCards
import Derived.Deep.DeepHandedRow
namespace Go.Proofs.YtfeglcpipcjaeaaGreatDoor
open Go.ChangeShapes Go.WideShapes Go.ChangeAt Go.RowKit Go.Joins Go.Deep Go.Proofs.Tryz
set_option linter.unusedSimpArgs false
set_option linter.unusedVariables false
set_option maxRecDepth 100000

theorem flowLeast_reads (os : Os) {H : Type} (enc : TypeId × Value → H) : ∃ places, DataW.whole enc prog ((World.laidAll prog os laidY).forCall (fun _ _ => 0) ⟨#[], #[.agg #[.string .empty, .slice none 0 0, .int .i64 0, .int .i64 0, .int .i64 0, .slice none 0 0]], []⟩).memory Tryz.f4.params.toList Rows.flowLeastSpec.vars false #[.agg #[.string .empty, .slice none 0 0, .int .i64 0, .int .i64 0, .int .i64 0, .slice none 0 0]].toList 8 = some ([.agg [.lit (.string []), .nil, .lit (.int .i64 0), .lit (.int .i64 0), .lit (.int .i64 0), .nil]], [], places) :=
 ⟨[], by kernel_rfl⟩
theorem flowLeast_bulk {H : Type} {d : DataW H} (hk : Rows.uptoSmall H ([d] ++ []) = true) : Rows.uptoBulk d ≤ 1048576 := by
 have h : Rows.uptoBulkAll ([d] ++ []) ≤ 1048576 := of_decide_eq_true hk;simp only [List.append_nil, Rows.uptoBulkAll] at h
 omega
theorem flowLeast_lifted (os : Os) (started : os.Started) (H : Type) (enc : TypeId × Value → H) (F : Stop.Interp) :
  ReturnsInHanded {} Tryz.checked os 4 .any ((Rows.OpenSpec.upto Rows.flowLeastSpec).preRow enc prog Tryz.f4 Rows.flowLeastUptoRow.domain false Rows.flowLeastUptoRow.laid) (((Rows.OpenSpec.upto Rows.flowLeastSpec).at F).post enc prog Tryz.f4 false true false false) := by
 obtain ⟨places, hx⟩ := flowLeast_reads os enc
 refine returnsInHanded_of_row (C := Tryz.checked) (s := Rows.OpenSpec.upto Rows.flowLeastSpec) own started (by kernel_rfl) func4
  (witness_row_at (enc := enc) (C := Tryz.checked) false (World.laidAll prog os laidY) #[.agg #[.string .empty, .slice none 0 0, .int .i64 0, .int .i64 0, .int .i64 0, .slice none 0 0]] (World.laidAll_os _ _ _) (by kernel_rfl) (by kernel_rfl) (by kernel_rfl)
   (OpenSpec.preRow_of_cond 8 hx (by kernel_rfl) (fun k hk => by cases hk; kernel_rfl) (by kernel_rfl) (show laidMetH prog laidY _ by rw [MakeChecks.laidMetH_plain _ _ _ (by kernel_rfl)]; exact laidMet_laidAll _ (by kernel_rfl) (by kernel_rfl)))) ?_
 intro W base args ds gs before hval0 hW _ hcond _ hL0 _ _;have hL : laidMetH prog laidY W := hL0;have hval : ∀ (j : Nat) t v, Tryz.f4.params[j]? = some t → args[j]? = some v → Value.okWide prog W .any base t v := hval0;have hW' := hW;obtain ⟨p, q, hA0, hV, rfl, hfz, hnd⟩ := hW;have hA : DataW.TrodAll enc prog W 0 (fun _ => true) true Tryz.f4.params.toList args.toList ds p := hA0;rw [params4] at hA hval;obtain ⟨v0, vs0, d0, ds0, p0, q0, hargs, rfl, rfl, h0, r0⟩ := trodAll_cons hA;obtain ⟨rfl, rfl, rfl⟩ := trodAll_nil r0;obtain rfl : args = #[v0] := by cases args; simp_all
 obtain ⟨rfl, rfl⟩ := trodVars_none hV;have hlt0 : ∀ x ∈ p0, x.block < W.heap.size := fun x hx => by simpa using hW'.lt x (by simp [hx])
 have hargs0 : ∀ (W' : World), Below W.heap.size W W' → DataW.Trod enc prog W' 0 (fun b => decide (b < W.heap.size)) true 25 v0 d0 p0 := fun W' hn => Below.trod laidOut (by kernel_rfl) (of_decide_eq_true (by kernel_rfl)) h0 hn hlt0;obtain ⟨f, hf, hu⟩ := open_fn (hval 0 25 v0 rfl rfl) h0 (flowLeast_bulk (hcond _ rfl));clear hA0 hval0;simp only [List.append_nil] at hW';refine (flowLeast_walk v0 f W hf (shtab_of W hL) (by omega) (fun w1 hb => awake_walk W hL w1 hb)).mono fun e W' ⟨he, hb⟩ => ?_;subst he;exact ⟨_, rfl, _, _, _, [], _, [], hW', (trodAll_cons_mk (shut_bool underlying4 _) trodAll_mk0), (trodAll_cons_mk (hargs0 _ hb) trodAll_mk0), rfl, hb.frame _, fun h => by cases h⟩
theorem flowLeast_row : Rows.FlowLeastUptoSaid :=
 OpenClaim.holds_of_cond 4 Tryz.f4 rfl rfl rfl rfl rfl rfl rfl ⟨rfl, rfl, rfl, rfl, rfl⟩ rfl rfl rfl rfl rfl (by kernel_rfl) func4 (by kernel_rfl)
  (of_decide_eq_true (by kernel_rfl)) (by unfold Func.isWrapper; first | (rw [if_pos (by decide +kernel)]; kernel_rfl) | (rw [if_neg (by decide +kernel)]; exact ⟨rfl, rfl⟩))
  (fun os started H enc _ F => by rw [OpenClaim.pre_eq_preRow]; exact flowLeast_lifted os started H enc F)
/-- THE STATEMENT. -/
theorem flowLeastUpto_holds : Rows.FlowLeastUptoCardSaid :=
 Claim7.holds_tied_plain_at .later [] [.data] true (true, "7f78731c44acd1f4e340aab1213062a0c39742402108cd497b79a6990c25ce68") false
  flowLeast_row (fun _ h => by cases h) (by kernel_rfl) (fun _ h => by cases h) flowLeastUpto_row_tie rfl ⟨rfl, rfl⟩ (by kernel_rfl) rfl
  (fun f fn hf hfn => by
   obtain rfl : f = 4 := Option.some.inj ((show prog.funcNamed "plumbob/plumboblaw14.FlowLeast" = some 4 by kernel_rfl).symm.trans hf) |>.symm;obtain rfl : fn = Tryz.f4 := (Option.some.inj (func4.symm.trans hfn)).symm
   exact ⟨by kernel_rfl, fun j t ht => by
    rw [params4] at ht;have hm : t ∈ [25] := by simpa using Array.mem_of_getElem? ht
    have hall : ([25].all fun u => !prog.wantsStandIn u) = true := by kernel_rfl
    exact (show prog.wantsStandIn t = false by simpa using List.all_eq_true.1 hall t hm)⟩)
  (by kernel_rfl)
#print axioms flowLeastUpto_holds
end Go.Proofs.YtfeglcpipcjaeaaGreatDoor
