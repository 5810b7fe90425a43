/- For all sizes, stores, places and values: what is stored is loaded, and no other place that is not touched by it has changed: the statement MemApart returns true. No condition. -/
import Derived.Test.YtjiniihdpkaknaaMApart2
import Derived.Test.YtjiniihdpkaknaaMActs
import Derived.Test.YtjiniihdpkaknaaMOpen
namespace Go.Proofs.Ytjiniihdpkaknaa
open Go.ChangeShapes Go.WideShapes Go.ChangeAt Go.RowKit Go.Joins Pl
set_option linter.unusedSimpArgs false
set_option linter.unusedVariables false

/-- The walk at every slice of Act. -/
theorem memApart_all {H : Type} {enc : TypeId × Value → H} {W : World} {base : Nat} {v1 : Value} {d1 : DataW H} {p1 : List MemPlace} (hv : Value.okWide Try.prog W .any base 35 v1) (h1 : DataW.Trod enc Try.prog W 0 (fun _ => true) true 35 v1 d1 p1)
    (size ak an ab chunk vk vn vb qk qn qb wide : Int) (xvn : (Lit.int .i64 vn).wf = true) : Calls Try.prog 6 #[.int .i64 size, v1, .agg #[.int .i64 ak, .int .i64 an, .int .i64 ab], .int .i64 chunk, .agg #[.int .i64 vk, .int .i64 vn, .int .i64 vb], .agg #[.int .i64 qk, .int .i64 qn, .int .i64 qb], .int .i64 wide] W (retP (.bool true) W) := by
  obtain ⟨a0, len, cap, rfl⟩ := okWide_slice Try.underlying35 hv
  obtain ⟨hmx, hz⟩ := open_acts h1
  by_cases hs : size < 0 ∨ 4096 < size ∨ 30 < len
  · exact memApart_short a0 len cap size ak an ab chunk vk vn vb qk qn qb wide W hs
  · by_cases hl : 0 < len
    · obtain ⟨b, off, Z, ha, hc⟩ := hz hl
      exact memApart_walk a0 b off len cap Z size ak an ab chunk vk vn vb qk qn qb wide W (by omega) (by omega) (by omega) xvn (fun _ => ⟨ha, hc⟩)
    · exact memApart_walk a0 0 0 len cap (fun _ _ => 0) size ak an ab chunk vk vn vb qk qn qb wide W (by omega) (by omega) (by omega) xvn (fun h => absurd h hl)

set_option maxRecDepth 100000 in
theorem memApart_lifted (os : Os) (started : os.Started) (H : Type) (enc : TypeId × Value → H) :
    ReturnsInHanded {} Try.checked os 6 .any (Rows.memApartSpec.pre6 enc Try.prog Try.f6 Rows.memApartRow.domain false) (Rows.memApartSpec.post enc Try.prog Try.f6 false true false false) := by
  refine returnsInHanded_of_change (C := Try.checked) own started (by kernel_rfl) Try.func6
    (ChangeSpec.witness6 (enc := enc) (C := Try.checked) false ⟨#[], #[.int .i64 0, .slice none 0 0, .agg #[.int .i64 0, .int .i64 0, .int .i64 0], .int .i64 0, .agg #[.int .i64 0, .int .i64 0, .int .i64 0], .agg #[.int .i64 0, .int .i64 0, .int .i64 0], .int .i64 0], []⟩ 8 (by kernel_rfl) (by kernel_rfl) (by kernel_rfl) (by kernel_rfl)) ?_
  intro W base args ds gs before hval0 hW hcnd _
  have hval : ∀ (j : Nat) t v, Try.f6.params[j]? = some t → args[j]? = some v → Value.okWide Try.prog W .any base t v := hval0
  have hW' := hW
  obtain ⟨p, q, hA0, hV, rfl, hfz, hnd⟩ := hW
  have hA : DataW.TrodAll enc Try.prog W 0 (fun _ => true) true Try.f6.params.toList args.toList ds p := hA0
  rw [Try.params6] at hA hval
  obtain ⟨v0, vs0, d0, ds0, p0, q0, hargs, rfl, rfl, h0, r0⟩ := trodAll_cons hA
  obtain ⟨v1, vs1, d1, ds1, p1, q1, rfl, rfl, rfl, h1, r1⟩ := trodAll_cons r0
  obtain ⟨v2, vs2, d2, ds2, p2, q2, rfl, rfl, rfl, h2, r2⟩ := trodAll_cons r1
  obtain ⟨v3, vs3, d3, ds3, p3, q3, rfl, rfl, rfl, h3, r3⟩ := trodAll_cons r2
  obtain ⟨v4, vs4, d4, ds4, p4, q4, rfl, rfl, rfl, h4, r4⟩ := trodAll_cons r3
  obtain ⟨v5, vs5, d5, ds5, p5, q5, rfl, rfl, rfl, h5, r5⟩ := trodAll_cons r4
  obtain ⟨v6, vs6, d6, ds6, p6, q6, rfl, rfl, rfl, h6, r6⟩ := trodAll_cons r5
  obtain ⟨rfl, rfl, rfl⟩ := trodAll_nil r6
  obtain rfl : args = #[v0, v1, v2, v3, v4, v5, v6] := by cases args; simp_all
  obtain ⟨rfl, rfl⟩ := trodVars_none hV
  obtain ⟨a0, rfl, rfl, rfl, x0⟩ := open_int Try.underlying3 (hval 0 3 v0 rfl rfl) h0
  obtain ⟨k2, n2, b2, rfl, rfl, rfl, xk2, xn2, xb2⟩ := open_val (hval 2 29 v2 rfl rfl) h2
  obtain ⟨a3, rfl, rfl, rfl, x3⟩ := open_int Try.underlying3 (hval 3 3 v3 rfl rfl) h3
  obtain ⟨k4, n4, b4, rfl, rfl, rfl, xk4, xn4, xb4⟩ := open_val (hval 4 29 v4 rfl rfl) h4
  obtain ⟨k5, n5, b5, rfl, rfl, rfl, xk5, xn5, xb5⟩ := open_val (hval 5 29 v5 rfl rfl) h5
  obtain ⟨a6, rfl, rfl, rfl, x6⟩ := open_int Try.underlying3 (hval 6 3 v6 rfl rfl) h6
  have hv1 := hval 1 35 v1 rfl rfl
  have hlt : ∀ x ∈ p1, x.block < W.heap.size := fun x hx => by simpa using hW'.lt x (by simp [hx])
  have hargs1 : ∀ (W' : World), Below W.heap.size W W' → DataW.Trod enc Try.prog W' 0 (fun b => decide (b < W.heap.size)) true 35 v1 d1 p1 := fun W' hn => Below.trod laidOut (by kernel_rfl) (of_decide_eq_true (by kernel_rfl)) h1 hn hlt
  clear hA0 hval0
  simp only [List.append_nil] at hW'
  refine (memApart_all hv1 h1 a0 k2 n2 b2 a3 k4 n4 b4 k5 n5 b5 a6 xn4).mono fun e W' ⟨he, hb⟩ => ?_
  subst he
  exact ⟨_, rfl, _, _, _, [], _, [], hW', (trodAll_cons_mk (shut_bool Try.underlying4 _) trodAll_mk0), (trodAll_cons_mk (shut_int Try.underlying3 x0) (trodAll_cons_mk (hargs1 _ hb) (trodAll_cons_mk (shut_val xk2 xn2 xb2) (trodAll_cons_mk (shut_int Try.underlying3 x3) (trodAll_cons_mk (shut_val xk4 xn4 xb4) (trodAll_cons_mk (shut_val xk5 xn5 xb5) (trodAll_cons_mk (shut_int Try.underlying3 x6) trodAll_mk0))))))), rfl, hb.frame _, fun h => by cases h⟩

/-- THE STATEMENT. -/
theorem memApart_holds : Rows.MemApartSaid :=
  OpenClaim.holds_of_wide 6 Try.f6 rfl rfl rfl rfl rfl rfl rfl ⟨rfl, rfl, rfl, rfl, rfl⟩ rfl rfl rfl rfl rfl (by kernel_rfl) Try.func6 (by kernel_rfl)
    (of_decide_eq_true (by kernel_rfl)) (by unfold Func.isWrapper; first | (rw [if_pos (by decide +kernel)]; kernel_rfl) | (rw [if_neg (by decide +kernel)]; exact ⟨rfl, rfl⟩))
    (fun os started H enc _ => memApart_lifted os started H enc)
#print axioms memApart_holds

end Go.Proofs.Ytjiniihdpkaknaa
