/- FlowGrows: with an edge more no number is lesser; with a greater start neither: its walk. -/
import Derived.Test.YtiigfggebpmlnaaGreatDoorFlGrow2
namespace Go.Proofs.YtiigfggebpmlnaaGreatDoor
open Go.ChangeShapes Go.WideShapes Go.ChangeAt Go.RowKit
set_option linter.unusedSimpArgs false
set_option linter.unusedVariables false

theorem and1023 (a : Int) : ∃ A : Nat, bits .and .i64 a 1023 = (A : Int) := by
  refine ⟨(BitVec.ofInt 64 a).toNat &&& 1023, ?_⟩
  have h2 : (BitVec.ofInt 64 (1023 : Int)).toNat = 1023 := by decide
  have hle : (BitVec.ofInt 64 a).toNat &&& 1023 ≤ 1023 := Nat.and_le_right
  show IntKind.i64.wrap ((BitVec.ofInt 64 a &&& BitVec.ofInt 64 (1023 : Int)).toNat : Int) = _
  rw [BitVec.toNat_and, h2]
  generalize (BitVec.ofInt 64 a).toNat &&& 1023 = A at hle ⊢
  simp [IntKind.wrap, IntKind.bits, IntKind.signed]
  omega
theorem tmod_nat (A N : Nat) : (A : Int).tmod (N : Int) = ((A % N : Nat) : Int) := by
  rw [← Int.ofNat_tmod]

set_option maxRecDepth 100000 in
set_option maxHeartbeats 4000000 in
theorem fgs_1 (n : Int) (ea : Option Addr) (ne ec : Nat) (sa : Option Addr) (ns sc : Nat) (a b t : Int) (es : List (Int × Int)) (st : List Int) (w : World) (HN : Hid (ne = es.length)) (HS : Hid (ns = st.length)) (hns : ns * 8 ≤ 140737488355328) (hne : ne * 16 ≤ 140737488355328) (HE : Hid (EL w (.slice ea ne ec) es)) (HL : Hid (IL w (.slice sa ns sc) st)) (HA : Hid (∀ W, Below w.heap.size w W → Calls Tryz.prog 5 #[] W (retP (.bool true) W))) (h : n < 1) : Calls Tryz.prog 4 #[.int .i64 n, .slice ea ne ec, .slice sa ns sc, .int .i64 a, .int .i64 b, .int .i64 t] w (retP (.bool true) w) := by
  have hnm : (ns : Int) ≤ 9223372036854775807 := by omega
  have hnm2 : (ne : Int) ≤ 9223372036854775807 := by omega
  go_enter Tryz.func4, Tryz.ntmps4
  go_wp2_with (go_at_call 5; refine (HA.out _ (Below.refl _ _)).mono ?_; rintro e w1 ⟨rfl, hb1⟩; have HB1 := hid hb1; clear hb1)
  go_ret
  exact ⟨rfl, HB1.out⟩

set_option maxRecDepth 100000 in
set_option maxHeartbeats 4000000 in
theorem fgs_2 (n : Int) (ea : Option Addr) (ne ec : Nat) (sa : Option Addr) (ns sc : Nat) (a b t : Int) (es : List (Int × Int)) (st : List Int) (w : World) (HN : Hid (ne = es.length)) (HS : Hid (ns = st.length)) (hns : ns * 8 ≤ 140737488355328) (hne : ne * 16 ≤ 140737488355328) (HE : Hid (EL w (.slice ea ne ec) es)) (HL : Hid (IL w (.slice sa ns sc) st)) (HA : Hid (∀ W, Below w.heap.size w W → Calls Tryz.prog 5 #[] W (retP (.bool true) W))) (h0 : ¬ n < 1) (h : 60 < n) : Calls Tryz.prog 4 #[.int .i64 n, .slice ea ne ec, .slice sa ns sc, .int .i64 a, .int .i64 b, .int .i64 t] w (retP (.bool true) w) := by
  have hnm : (ns : Int) ≤ 9223372036854775807 := by omega
  have hnm2 : (ne : Int) ≤ 9223372036854775807 := by omega
  go_enter Tryz.func4, Tryz.ntmps4
  go_wp2_with (go_at_call 5; refine (HA.out _ (Below.refl _ _)).mono ?_; rintro e w1 ⟨rfl, hb1⟩; have HB1 := hid hb1; clear hb1)
  go_ret
  exact ⟨rfl, HB1.out⟩

set_option maxRecDepth 100000 in
set_option maxHeartbeats 4000000 in
theorem fgs_3 (n : Int) (ea : Option Addr) (ne ec : Nat) (sa : Option Addr) (ns sc : Nat) (a b t : Int) (es : List (Int × Int)) (st : List Int) (w : World) (HN : Hid (ne = es.length)) (HS : Hid (ns = st.length)) (hns : ns * 8 ≤ 140737488355328) (hne : ne * 16 ≤ 140737488355328) (HE : Hid (EL w (.slice ea ne ec) es)) (HL : Hid (IL w (.slice sa ns sc) st)) (HA : Hid (∀ W, Below w.heap.size w W → Calls Tryz.prog 5 #[] W (retP (.bool true) W))) (h0 : ¬ n < 1) (h1 : ¬ 60 < n) (h : 100 < (ne : Int)) : Calls Tryz.prog 4 #[.int .i64 n, .slice ea ne ec, .slice sa ns sc, .int .i64 a, .int .i64 b, .int .i64 t] w (retP (.bool true) w) := by
  have hnm : (ns : Int) ≤ 9223372036854775807 := by omega
  have hnm2 : (ne : Int) ≤ 9223372036854775807 := by omega
  go_enter Tryz.func4, Tryz.ntmps4
  go_wp2_with (go_at_call 5; refine (HA.out _ (Below.refl _ _)).mono ?_; rintro e w1 ⟨rfl, hb1⟩; have HB1 := hid hb1; clear hb1)
  go_ret
  exact ⟨rfl, HB1.out⟩

set_option maxRecDepth 100000 in
set_option maxHeartbeats 4000000 in
theorem fgs_4 (n : Int) (ea : Option Addr) (ne ec : Nat) (sa : Option Addr) (ns sc : Nat) (a b t : Int) (es : List (Int × Int)) (st : List Int) (w : World) (HN : Hid (ne = es.length)) (HS : Hid (ns = st.length)) (hns : ns * 8 ≤ 140737488355328) (hne : ne * 16 ≤ 140737488355328) (HE : Hid (EL w (.slice ea ne ec) es)) (HL : Hid (IL w (.slice sa ns sc) st)) (HA : Hid (∀ W, Below w.heap.size w W → Calls Tryz.prog 5 #[] W (retP (.bool true) W))) (h0 : ¬ n < 1) (h1 : ¬ 60 < n) (h2 : ¬ 100 < (ne : Int)) (h : ¬ (ns : Int) = n) : Calls Tryz.prog 4 #[.int .i64 n, .slice ea ne ec, .slice sa ns sc, .int .i64 a, .int .i64 b, .int .i64 t] w (retP (.bool true) w) := by
  have hnm : (ns : Int) ≤ 9223372036854775807 := by omega
  have hnm2 : (ne : Int) ≤ 9223372036854775807 := by omega
  have hq : ((ns : Int) != n) = true := by simpa using h
  go_enter Tryz.func4, Tryz.ntmps4
  go_wp2_with (go_at_call 5; refine (HA.out _ (Below.refl _ _)).mono ?_; rintro e w1 ⟨rfl, hb1⟩; have HB1 := hid hb1; clear hb1)
  go_ret
  exact ⟨rfl, HB1.out⟩

set_option maxRecDepth 100000 in
set_option maxHeartbeats 4000000 in
theorem fgs_5 (n : Int) (ea : Option Addr) (ne ec : Nat) (sa : Option Addr) (ns sc : Nat) (a b t : Int) (es : List (Int × Int)) (st : List Int) (w : World) (HN : Hid (ne = es.length)) (HS : Hid (ns = st.length)) (hns : ns * 8 ≤ 140737488355328) (hne : ne * 16 ≤ 140737488355328) (HE : Hid (EL w (.slice ea ne ec) es)) (HL : Hid (IL w (.slice sa ns sc) st)) (HA : Hid (∀ W, Below w.heap.size w W → Calls Tryz.prog 5 #[] W (retP (.bool true) W))) (h0 : ¬ n < 1) (h1 : ¬ 60 < n) (h2 : ¬ 100 < (ne : Int)) (h : (ns : Int) = n) (HK : Hid (okS n es st 1000000 = false)) : Calls Tryz.prog 4 #[.int .i64 n, .slice ea ne ec, .slice sa ns sc, .int .i64 a, .int .i64 b, .int .i64 t] w (retP (.bool true) w) := by
  have hnm : (ns : Int) ≤ 9223372036854775807 := by omega
  have hnm2 : (ne : Int) ≤ 9223372036854775807 := by omega
  have HSO : Hid (∀ W, Below w.heap.size w W → Calls Tryz.prog 6 #[.int .i64 n, .slice ea ne ec, .slice sa ns sc, .int .i64 1000000] W fun e w' => e = .returned (.tuple #[.slice none 0 0, .int .i64 1]) ∧ Below W.heap.size W w') := fun W hW =>
    (solve_any n 1000000 (HE.out.keep hW) (HL.out.keep hW) (by rw [← HN.out]; omega)).mono fun e w' h => ⟨h.2.1 HK.out, h.1⟩
  go_enter Tryz.func4, Tryz.ntmps4
  go_wp2_with (first | (go_at_call 5; refine (HA.out _ (Below.refl _ _)).mono ?_; rintro e w1 ⟨rfl, hb1⟩; have HB1 := hid hb1; clear hb1) | (go_at_call 6; refine (HSO.out _ HB1.out).mono ?_; rintro e w2 ⟨rfl, hb2⟩; have HB2 := hid (bel_trans HB1.out hb2); clear hb2))
  go_ret
  exact ⟨rfl, HB2.out⟩
/-- A row with one number turned. -/
def bump (st : List Int) (k : Nat) : List Int := if fS st k < 1000000 then st.set k (fS st k + 1) else st
theorem bump_len (st : List Int) (k : Nat) : (bump st k).length = st.length := by unfold bump; split <;> simp
theorem bump_get (st : List Int) (k i : Nat) (hi : i < st.length) : fS (bump st k) i = if i = k ∧ fS st k < 1000000 then fS st k + 1 else fS st i := by
  unfold bump
  by_cases h : fS st k < 1000000
  · rw [if_pos h]
    unfold fS
    rw [List.getD_eq_getElem?_getD, List.getElem?_set]
    by_cases e : i = k
    · subst e
      rw [if_pos rfl, if_pos hi, if_pos ⟨rfl, h⟩]
      rfl
    · rw [if_neg (Ne.symm e), if_neg (fun z => e z.1), List.getD_eq_getElem?_getD]
  · rw [if_neg h, if_neg (fun z => h z.2)]
theorem fS_get {st : List Int} {i : Nat} (h : i < st.length) : st[i]? = some (fS st i) := by
  unfold fS
  rw [List.getD_eq_getElem?_getD, List.getElem?_eq_getElem h]
  rfl
theorem ok_of {N : Nat} {es : List (Int × Int)} {st : List Int} (h : okS N es st 1000000 = true) : st.length = N ∧ (∀ i, i < N → 0 ≤ fS st i ∧ fS st i ≤ 1000000) ∧ (es.all fun e => inM ((N : Int) - 1) e.1 && inM ((N : Int) - 1) e.2) = true := by
  unfold okS at h
  simp only [Bool.and_eq_true, decide_eq_true_eq] at h
  obtain ⟨h1, h2, h3, h4, h5⟩ := h
  have hl : st.length = N := by omega
  refine ⟨hl, fun i hi => ?_, h5⟩
  rw [List.all_eq_true] at h4
  have := h4 (fS st i) (List.mem_of_getElem? (fS_get (by omega)))
  simpa [inM] using this
theorem ok_mk {N : Nat} {es : List (Int × Int)} {st : List Int} (hN : N ≤ 2000) (h1 : st.length = N) (h2 : ∀ i, i < N → 0 ≤ fS st i ∧ fS st i ≤ 1000000) (h3 : (es.all fun e => inM ((N : Int) - 1) e.1 && inM ((N : Int) - 1) e.2) = true) : okS N es st 1000000 = true := by
  unfold okS
  simp only [Bool.and_eq_true, decide_eq_true_eq]
  refine ⟨by simp [inM]; omega, by omega, by simp [inM], ?_, h3⟩
  rw [List.all_eq_true]
  intro x hx
  obtain ⟨i, hi, rfl⟩ := List.mem_iff_getElem.1 hx
  have := h2 i (by omega)
  have e := fS_get hi
  rw [List.getElem?_eq_getElem hi] at e
  injection e with e
  rw [e]
  simpa [inM] using this
theorem upE_inj {a b : List (Nat × Nat)} (h : upE a = upE b) : a = b := by
  unfold upE at h
  refine List.map_inj_right (fun x y hxy => ?_) |>.1 h
  obtain ⟨x1, x2⟩ := x
  obtain ⟨y1, y2⟩ := y
  simp only [Prod.mk.injEq] at hxy
  rw [Prod.mk.injEq]
  omega
/-- A call of Solve that is taken. -/
theorem solve_ok {w : World} {ev sv : Value} {es : List (Int × Int)} {es' : List (Nat × Nat)} {st : List Int} {N : Nat} (he : EL w ev es) (hs : IL w sv st) (h6 : es.length ≤ 1000000) (hk : okS N es st 1000000 = true) (hes : es = upE es') : Calls Tryz.prog 6 #[.int .i64 (N : Int), ev, sv, .int .i64 1000000] w (retO N es' st w) :=
  (solve_any (N : Int) 1000000 he hs h6).mono fun e W h => by
    obtain ⟨N', es2, LB, x, h1, h2, h3, h4, h5, h7, h8⟩ := h.2.2 hk
    have hN : N' = N := by omega
    subst hN
    have : es2 = es' := upE_inj (h2.symm.trans hes)
    subst this
    exact ⟨LB, x, h4, h5, h7, h.1, h8⟩
end Go.Proofs.YtiigfggebpmlnaaGreatDoor

