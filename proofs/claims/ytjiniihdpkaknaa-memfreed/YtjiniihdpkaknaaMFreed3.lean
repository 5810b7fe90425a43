/- For all sizes, blocks and accesses: a block that is freed is no block any more, and all others are as they were: the statement MemFreed returns true. No condition. -/
import Derived.Test.YtjiniihdpkaknaaMFreed2
import Derived.Carry
import Derived.Lib.SmallJoins
namespace Go.Proofs.Ytjiniihdpkaknaa
open Go.ChangeShapes Go.WideShapes Go.ChangeAt Go.RowKit Go.Joins Pl
set_option linter.unusedSimpArgs false
set_option linter.unusedVariables false

theorem laidOut : laidOutB Try.prog = true := by kernel_rfl
theorem cellsInt : Try.prog.cellsOf 3 = 1 := by kernel_rfl
theorem cells29 : Try.prog.cellsOf 29 = 3 := by kernel_rfl
theorem open_val {H : Type} {enc : TypeId × Value → H} {W : World} {r : Reach} {b0 base : Nat} {spare : Nat → Bool} {held : Bool} {v : Value} {d : DataW H} {p : List MemPlace}
    (hv : Value.okWide Try.prog W r b0 29 v) (h : DataW.Trod enc Try.prog W base spare held 29 v d p) :
    ∃ k n b : Int, v = .agg #[.int .i64 k, .int .i64 n, .int .i64 b] ∧ d = .agg [.lit (.int .i64 k), .lit (.int .i64 n), .lit (.int .i64 b)] ∧ p = [] ∧
      (Lit.int .i64 k).wf = true ∧ (Lit.int .i64 n).wf = true ∧ (Lit.int .i64 b).wf = true := by
  obtain ⟨c0, c1, c2, y0, y1, y2, m, rfl, rfl, rfl, hy0, hy1, hy2⟩ := open_agg3 Try.underlying29 (by kernel_rfl) cells29 hv h
  obtain ⟨a, e0, rfl, wa⟩ := DataW.trod_int Try.underlying3 hy0
  obtain ⟨b, e1, rfl, wb⟩ := DataW.trod_int Try.underlying2 hy1
  obtain ⟨c, e2, rfl, wc⟩ := DataW.trod_int Try.underlying3 hy2
  simp at e0 e1 e2
  subst e0 e1 e2
  exact ⟨a, b, c, rfl, rfl, rfl, wa, wb, wc⟩
theorem shut_val {H : Type} {enc : TypeId × Value → H} {W : World} {base : Nat} {spare : Nat → Bool} {held : Bool} {k n b : Int}
    (wk : (Lit.int .i64 k).wf = true) (wn : (Lit.int .i64 n).wf = true) (wb : (Lit.int .i64 b).wf = true) :
    DataW.Trod enc Try.prog W base spare held 29 (.agg #[.int .i64 k, .int .i64 n, .int .i64 b]) (.agg [.lit (.int .i64 k), .lit (.int .i64 n), .lit (.int .i64 b)]) [] :=
  shut_agg3 (y0 := (.lit (.int .i64 k), [])) (y1 := (.lit (.int .i64 n), [])) (y2 := (.lit (.int .i64 b), [])) Try.underlying29 (by kernel_rfl) cells29
    ⟨1, by simp [DataW.trod, Try.underlying3, wk]⟩ ⟨1, by simp [DataW.trod, Try.underlying2, wn]⟩ ⟨1, by simp [DataW.trod, Try.underlying3, wb]⟩
/-- The walk at every slice of ints. -/
theorem memFreed_all {H : Type} {enc : TypeId × Value → H} {W : World} {base : Nat} {v0 : Value} {d0 : DataW H} {p0 : List MemPlace} (hv : Value.okWide Try.prog W .any base 50 v0) (h0 : DataW.Trod enc Try.prog W 0 (fun _ => true) true 50 v0 d0 p0)
    (gone chunk aa vk vn vb : Int) (xg : (Lit.int .i64 gone).wf = true) : Calls Try.prog 7 #[v0, .int .i64 gone, .int .i64 chunk, .int .i64 aa, .agg #[.int .i64 vk, .int .i64 vn, .int .i64 vb]] W (retP (.bool true) W) := by
  obtain ⟨a0, len, cap, rfl⟩ := okWide_slice Try.underlying50 hv
  obtain ⟨fuel, hf⟩ := h0
  rcases open_ints Try.underlying50 Try.underlying3 cellsInt hf with ⟨hcs, hx⟩ | ⟨a, len', cap', zs, hcs, _, hl, hm, hz, hx, hcell, hwz⟩
  · simp [Value.cells] at hcs
    obtain ⟨rfl, rfl, rfl⟩ := hcs
    exact memFreed_short none 0 0 gone chunk aa vk vn vb W (.inl rfl) (by omega)
  · simp [Value.cells] at hcs
    obtain ⟨rfl, rfl, rfl⟩ := hcs
    simp only [if_true] at hz
    have hmx : (len : Int) ≤ 9223372036854775807 := by unfold maxLen at hm; omega
    by_cases hs : len = 0 ∨ 20 < len
    · exact memFreed_short _ len cap gone chunk aa vk vn vb W hs hmx
    · obtain ⟨b, off, rfl, hc⟩ := ints_at hcell (by omega)
      have hpos : (0 : Int) < (len : Int) := by omega
      have hg1 : 0 ≤ gone % 1024 := Int.emod_nonneg _ (by omega)
      have hg2 : gone % 1024 < 1024 := Int.emod_lt_of_pos _ (by omega)
      have hk0 := Int.emod_nonneg (gone % 1024) (show (len : Int) ≠ 0 by omega)
      have hk1 := Int.emod_lt_of_pos (gone % 1024) hpos
      exact memFreed_walk b off len cap (fun i => zs.getD i 0) (fun i => (zs.getD i 0 % 64).toNat) gone chunk aa vk vn vb (gone % 1024) (gone % 1024 % (len : Int)).toNat W (by omega) (by omega)
        (fun i hi => hc i (by omega)) (fun i => by
          have h1 := Int.emod_nonneg (zs.getD i 0) (show (64 : Int) ≠ 0 by omega)
          have h2 := Int.emod_lt_of_pos (zs.getD i 0) (show (0 : Int) < 64 by omega)
          refine ⟨?_, by omega⟩
          rw [and_63]
          omega) (and_1023 gone) hg1 (by omega) (by omega) (by omega)

set_option maxRecDepth 100000 in
theorem memFreed_lifted (os : Os) (started : os.Started) (H : Type) (enc : TypeId × Value → H) :
    ReturnsInHanded {} Try.checked os 7 .any (Rows.memFreedSpec.pre6 enc Try.prog Try.f7 Rows.memFreedRow.domain false) (Rows.memFreedSpec.post enc Try.prog Try.f7 false true false false) := by
  refine returnsInHanded_of_change (C := Try.checked) own started (by kernel_rfl) Try.func7
    (ChangeSpec.witness6 (enc := enc) (C := Try.checked) false ⟨#[], #[.slice none 0 0, .int .i64 0, .int .i64 0, .int .i64 0, .agg #[.int .i64 0, .int .i64 0, .int .i64 0]], []⟩ 8 (by kernel_rfl) (by kernel_rfl) (by kernel_rfl) (by kernel_rfl)) ?_
  intro W base args ds gs before hval0 hW hcnd _
  have hval : ∀ (j : Nat) t v, Try.f7.params[j]? = some t → args[j]? = some v → Value.okWide Try.prog W .any base t v := hval0
  have hW' := hW
  obtain ⟨p, q, hA0, hV, rfl, hfz, hnd⟩ := hW
  have hA : DataW.TrodAll enc Try.prog W 0 (fun _ => true) true Try.f7.params.toList args.toList ds p := hA0
  rw [Try.params7] at hA hval
  obtain ⟨v0, vs0, d0, ds0, p0, q0, hargs, rfl, rfl, h0, r0⟩ := trodAll_cons hA
  obtain ⟨v1, vs1, d1, ds1, p1, q1, rfl, rfl, rfl, h1, r1⟩ := trodAll_cons r0
  obtain ⟨v2, vs2, d2, ds2, p2, q2, rfl, rfl, rfl, h2, r2⟩ := trodAll_cons r1
  obtain ⟨v3, vs3, d3, ds3, p3, q3, rfl, rfl, rfl, h3, r3⟩ := trodAll_cons r2
  obtain ⟨v4, vs4, d4, ds4, p4, q4, rfl, rfl, rfl, h4, r4⟩ := trodAll_cons r3
  obtain ⟨rfl, rfl, rfl⟩ := trodAll_nil r4
  obtain rfl : args = #[v0, v1, v2, v3, v4] := by cases args; simp_all
  obtain ⟨rfl, rfl⟩ := trodVars_none hV
  obtain ⟨a1, rfl, rfl, rfl, x1⟩ := open_int Try.underlying3 (hval 1 3 v1 rfl rfl) h1
  obtain ⟨a2, rfl, rfl, rfl, x2⟩ := open_int Try.underlying3 (hval 2 3 v2 rfl rfl) h2
  obtain ⟨a3, rfl, rfl, rfl, x3⟩ := open_int Try.underlying2 (hval 3 2 v3 rfl rfl) h3
  obtain ⟨k4, n4, b4, rfl, rfl, rfl, xk, xn, xb⟩ := open_val (hval 4 29 v4 rfl rfl) h4
  have hv0 := hval 0 50 v0 rfl rfl
  have hlt : ∀ x ∈ p0, x.block < W.heap.size := fun x hx => by simpa using hW'.lt x (by simp [hx])
  have hargs0 : ∀ (W' : World), Below W.heap.size W W' → DataW.Trod enc Try.prog W' 0 (fun b => decide (b < W.heap.size)) true 50 v0 d0 p0 := fun W' hn => Below.trod laidOut (by kernel_rfl) (of_decide_eq_true (by kernel_rfl)) h0 hn hlt
  clear hA0 hval0
  simp only [List.append_nil] at hW'
  refine (memFreed_all hv0 h0 a1 a2 a3 k4 n4 b4 x1).mono fun e W' ⟨he, hb⟩ => ?_
  subst he
  exact ⟨_, rfl, _, _, _, [], _, [], hW', (trodAll_cons_mk (shut_bool Try.underlying4 _) trodAll_mk0), (trodAll_cons_mk (hargs0 _ hb) (trodAll_cons_mk (shut_int Try.underlying3 x1) (trodAll_cons_mk (shut_int Try.underlying3 x2) (trodAll_cons_mk (shut_int Try.underlying2 x3) (trodAll_cons_mk (shut_val xk xn xb) trodAll_mk0))))), rfl, hb.frame _, fun h => by cases h⟩

/-- THE STATEMENT. -/
theorem memFreed_holds : Rows.MemFreedSaid :=
  OpenClaim.holds_of_wide 7 Try.f7 rfl rfl rfl rfl rfl rfl rfl ⟨rfl, rfl, rfl, rfl, rfl⟩ rfl rfl rfl rfl rfl (by kernel_rfl) Try.func7 (by kernel_rfl)
    (of_decide_eq_true (by kernel_rfl)) (by unfold Func.isWrapper; first | (rw [if_pos (by decide +kernel)]; kernel_rfl) | (rw [if_neg (by decide +kernel)]; exact ⟨rfl, rfl⟩))
    (fun os started H enc _ => memFreed_lifted os started H enc)
#print axioms memFreed_holds

end Go.Proofs.Ytjiniihdpkaknaa
