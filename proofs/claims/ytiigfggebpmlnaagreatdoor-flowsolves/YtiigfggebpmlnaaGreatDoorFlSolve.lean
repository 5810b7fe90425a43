/- Package flow: Solve. -/
import Derived.Test.YtiigfggebpmlnaaGreatDoorFlSolved
namespace Go.Proofs.YtiigfggebpmlnaaGreatDoor
open Go.ChangeShapes Go.WideShapes Go.ChangeAt Go.RowKit
set_option linter.unusedSimpArgs false
set_option linter.unusedVariables false

/-- What Solve takes. -/
def okS (n : Int) (es : List (Int × Int)) (st : List Int) (most : Int) : Bool := inM 2000 n && (decide ((st.length : Int) = n) && (inM 1000000 most && (st.all (inM most) && es.all fun e => inM (n - 1) e.1 && inM (n - 1) e.2)))
/-- Its answer. -/
def retS (n : Int) (es : List (Int × Int)) (st : List Int) (most : Int) (w : World) : Ending → World → Prop := fun e W => Below w.heap.size w W ∧
  (okS n es st most = false → e = .returned (.tuple #[.slice none 0 0, .int .i64 1])) ∧
  (okS n es st most = true → ∃ (N : Nat) (es' : List (Nat × Nat)) (LB : Nat) (x : Nat → Int), n = N ∧ es = upE es' ∧ (∀ e ∈ es', e.1 < N ∧ e.2 < N) ∧ e = .returned (.tuple #[.slice (some ⟨LB, 0, none⟩) N N, .int .i64 0]) ∧ LAt W LB N x ∧ Least N es' (fS st) x ∧ w.heap.size ≤ LB)
def dnE (es : List (Int × Int)) : List (Nat × Nat) := es.map fun e => (e.1.toNat, e.2.toNat)
theorem up_dn {n : Int} {es : List (Int × Int)} (h : (es.all fun e => inM (n - 1) e.1 && inM (n - 1) e.2) = true) : upE (dnE es) = es ∧ ∀ e ∈ dnE es, (e.1 : Int) < n ∧ (e.2 : Int) < n := by
  rw [List.all_eq_true] at h
  constructor
  · unfold upE dnE
    rw [List.map_map]
    conv => rhs; rw [← List.map_id es]
    apply List.map_congr_left
    intro e he
    have := h e he
    simp only [inM, Bool.and_eq_true, decide_eq_true_eq] at this
    obtain ⟨⟨a1, a2⟩, b1, b2⟩ := this
    simp only [Function.comp, id]
    rw [Int.toNat_of_nonneg a1, Int.toNat_of_nonneg b1]
  · intro e he
    unfold dnE at he
    obtain ⟨e', he', rfl⟩ := List.mem_map.1 he
    have := h e' he'
    simp only [inM, Bool.and_eq_true, decide_eq_true_eq] at this
    obtain ⟨⟨a1, a2⟩, b1, b2⟩ := this
    dsimp only
    rw [Int.toNat_of_nonneg a1, Int.toNat_of_nonneg b1]
    exact ⟨by omega, by omega⟩
theorem bad_any {n : Int} {es : List (Int × Int)} {st : List Int} {most : Int} {w W : World} (h : okS n es st most = false) (hb : Below w.heap.size w W) : retS n es st most w (.returned (.tuple #[.slice none 0 0, .int .i64 1])) W := ⟨hb, fun _ => rfl, fun h2 => by rw [h] at h2; cases h2⟩
set_option maxRecDepth 100000 in
set_option maxHeartbeats 4000000 in
theorem solve_a (n most : Int) (ea : Option Addr) (ne ec : Nat) (sa : Option Addr) (ns sc : Nat) (es : List (Int × Int)) (st : List Int) (w : World) (hne : ne ≤ 1000000) (hns : ns * 8 ≤ 140737488355328) (HN : Hid (ne = es.length)) (HS : Hid (ns = st.length)) (HE : Hid (EL w (.slice ea ne ec) es)) (HL : Hid (IL w (.slice sa ns sc) st)) (h1 : inM 2000 n = false) : Calls Tryz.prog 6 #[.int .i64 n, .slice ea ne ec, .slice sa ns sc, .int .i64 most] w (retS n es st most w) := by
  have hnm : (ns : Int) ≤ 9223372036854775807 := by omega
  have HW3 := hid (allWithin_any HL.out most)
  have HK : Hid (okS n es st most = false) := by
    show _ = _
    unfold okS
    rw [h1]; rfl
  go_enter Tryz.func6, Tryz.ntmps6
  go_wp2_with (first | (go_at_call 13; refine (fwithin_any _ _ _).mono ?_; rintro e w1 ⟨rfl, hw⟩; replace hw := hw.symm; subst hw; simp only [h1]) | (go_at_call 14; refine (HW3.out).mono ?_; rintro e w1 ⟨rfl, hw⟩; replace hw := hw.symm; subst hw; simp only [h1]))
  go_ret2
  exact bad_any HK.out (Below.refl _ _)
set_option maxRecDepth 100000 in
set_option maxHeartbeats 4000000 in
theorem solve_b (n most : Int) (ea : Option Addr) (ne ec : Nat) (sa : Option Addr) (ns sc : Nat) (es : List (Int × Int)) (st : List Int) (w : World) (hne : ne ≤ 1000000) (hns : ns * 8 ≤ 140737488355328) (HN : Hid (ne = es.length)) (HS : Hid (ns = st.length)) (HE : Hid (EL w (.slice ea ne ec) es)) (HL : Hid (IL w (.slice sa ns sc) st)) (h1 : inM 2000 n = true) (h2 : (ns : Int) ≠ n) : Calls Tryz.prog 6 #[.int .i64 n, .slice ea ne ec, .slice sa ns sc, .int .i64 most] w (retS n es st most w) := by
  have hnm : (ns : Int) ≤ 9223372036854775807 := by omega
  have HW3 := hid (allWithin_any HL.out most)
  have HK : Hid (okS n es st most = false) := by
    show _ = _
    unfold okS
    rw [decide_eq_false (by rw [← HS.out]; exact h2)]; simp
  go_enter Tryz.func6, Tryz.ntmps6
  go_wp2_with (first | (go_at_call 13; refine (fwithin_any _ _ _).mono ?_; rintro e w1 ⟨rfl, hw⟩; replace hw := hw.symm; subst hw; simp only [h1]) | (go_at_call 14; refine (HW3.out).mono ?_; rintro e w1 ⟨rfl, hw⟩; replace hw := hw.symm; subst hw; simp only [h1]))
  go_ret2
  exact bad_any HK.out (Below.refl _ _)
set_option maxRecDepth 100000 in
set_option maxHeartbeats 4000000 in
theorem solve_c (n most : Int) (ea : Option Addr) (ne ec : Nat) (sa : Option Addr) (ns sc : Nat) (es : List (Int × Int)) (st : List Int) (w : World) (hne : ne ≤ 1000000) (hns : ns * 8 ≤ 140737488355328) (HN : Hid (ne = es.length)) (HS : Hid (ns = st.length)) (HE : Hid (EL w (.slice ea ne ec) es)) (HL : Hid (IL w (.slice sa ns sc) st)) (h1 : inM 2000 n = true) (h2 : (ns : Int) = n) (h3 : inM 1000000 most = false) : Calls Tryz.prog 6 #[.int .i64 n, .slice ea ne ec, .slice sa ns sc, .int .i64 most] w (retS n es st most w) := by
  have hnm : (ns : Int) ≤ 9223372036854775807 := by omega
  have HW3 := hid (allWithin_any HL.out most)
  have HK : Hid (okS n es st most = false) := by
    show _ = _
    unfold okS
    rw [h3]; simp
  go_enter Tryz.func6, Tryz.ntmps6
  go_wp2_with (first | (go_at_call 13; refine (fwithin_any _ _ _).mono ?_; rintro e w1 ⟨rfl, hw⟩; replace hw := hw.symm; subst hw; simp only [h1, h3]) | (go_at_call 14; refine (HW3.out).mono ?_; rintro e w1 ⟨rfl, hw⟩; replace hw := hw.symm; subst hw; simp only [h1, h3]))
  go_ret2
  exact bad_any HK.out (Below.refl _ _)
set_option maxRecDepth 100000 in
set_option maxHeartbeats 4000000 in
theorem solve_d (n most : Int) (ea : Option Addr) (ne ec : Nat) (sa : Option Addr) (ns sc : Nat) (es : List (Int × Int)) (st : List Int) (w : World) (hne : ne ≤ 1000000) (hns : ns * 8 ≤ 140737488355328) (HN : Hid (ne = es.length)) (HS : Hid (ns = st.length)) (HE : Hid (EL w (.slice ea ne ec) es)) (HL : Hid (IL w (.slice sa ns sc) st)) (h1 : inM 2000 n = true) (h2 : (ns : Int) = n) (h3 : inM 1000000 most = true) (h4 : st.all (inM most) = false) : Calls Tryz.prog 6 #[.int .i64 n, .slice ea ne ec, .slice sa ns sc, .int .i64 most] w (retS n es st most w) := by
  have hnm : (ns : Int) ≤ 9223372036854775807 := by omega
  have HW3 := hid (allWithin_any HL.out most)
  have HK : Hid (okS n es st most = false) := by
    show _ = _
    unfold okS
    rw [h4]; simp
  go_enter Tryz.func6, Tryz.ntmps6
  go_wp2_with (first | (go_at_call 13; refine (fwithin_any _ _ _).mono ?_; rintro e w1 ⟨rfl, hw⟩; replace hw := hw.symm; subst hw; simp only [h1, h3, h4]) | (go_at_call 14; refine (HW3.out).mono ?_; rintro e w1 ⟨rfl, hw⟩; replace hw := hw.symm; subst hw; simp only [h1, h3, h4]))
  go_ret2
  exact bad_any HK.out (Below.refl _ _)
set_option maxRecDepth 100000 in
set_option maxHeartbeats 8000000 in
theorem solve_e (n most : Int) (ea : Option Addr) (ne ec : Nat) (sa : Option Addr) (ns sc : Nat) (es : List (Int × Int)) (st : List Int) (w : World) (hne : ne ≤ 1000000) (hns : ns * 8 ≤ 140737488355328) (HN : Hid (ne = es.length)) (HS : Hid (ns = st.length)) (HE : Hid (EL w (.slice ea ne ec) es)) (HL : Hid (IL w (.slice sa ns sc) st)) (h1 : inM 2000 n = true) (h2 : (ns : Int) = n) (h3 : inM 1000000 most = true) (h4 : st.all (inM most) = true) : Calls Tryz.prog 6 #[.int .i64 n, .slice ea ne ec, .slice sa ns sc, .int .i64 most] w (retS n es st most w) := by
  have hnm : (ns : Int) ≤ 9223372036854775807 := by omega
  have HW3 := hid (allWithin_any HL.out most)
  have HK : Hid (okS n es st most = es.all fun e => inM (n - 1) e.1 && inM (n - 1) e.2) := by
    show _ = _
    unfold okS
    rw [h1, h3, h4, decide_eq_true (by rw [← HS.out]; exact h2)]
    simp
  have hnb : 0 ≤ n ∧ n ≤ 2000 := by simpa [inM] using h1
  go_enter Tryz.func6, Tryz.ntmps6
  go_wp2_with (first | (go_at_call 13; refine (fwithin_any _ _ _).mono ?_; rintro e w1 ⟨rfl, hw⟩; replace hw := hw.symm; subst hw; simp only [h1, h3, h4]) | (go_at_call 14; refine (HW3.out).mono ?_; rintro e w1 ⟨rfl, hw⟩; replace hw := hw.symm; subst hw; simp only [h1, h3, h4]))
  go_loopw [34] (fun vv wz => ∃ i : Nat, i ≤ ne ∧ vv = .int .i64 i ∧ Hid (Below w.heap.size w wz ∧ ∀ (j : Nat) e, j < i → es[j]? = some e → (inM (n - 1) e.1 && inM (n - 1) e.2) = true)) (fun vv _ => ne - (intOf vv).toNat)
  case atStart => exact ⟨0, by omega, rfl, Below.refl _ _, fun j e hj => by omega⟩
  case round =>
    obtain ⟨i, hi, rfl, HR⟩ := hrel
    rename World => wz
    have HBW := hid HR.out.1
    have HAL := hid HR.out.2
    clear HR
    by_cases hin : i < ne
    · have j0 : (0 : Int) ≤ i := by omega
      have j1 : (i : Int) < ne := by omega
      have hget := List.getElem?_eq_getElem (l := es) (show i < es.length by rw [← HN.out]; exact hin)
      generalize es[i]'(by rw [← HN.out]; exact hin) = xy at hget
      obtain ⟨x, y⟩ := xy
      obtain ⟨a2, c2, hv2, _, _, h5⟩ := HE.out
      obtain ⟨eb, eo, rfl, hce⟩ := h5 (fun e => by rw [e] at hget; simp at hget)
      injection hv2 with q1 q2 q3
      subst q1
      have ce0 := keep_cell HBW.out (hce i _ hget).1
      have ce1 := keep_cell HBW.out (hce i _ hget).2
      dsimp only at ce0 ce1
      have HGET := hid hget
      have hwr : IntKind.i64.wrap (n - 1) = n - 1 := by simp [IntKind.wrap, IntKind.bits, IntKind.signed]; omega
      have HIL : Hid (IL (wz.alloc (.cells #[.int .i64 x, .int .i64 y] 28)) (.slice (some ⟨wz.heap.size, 0, none⟩) 2 2) [x, y]) := ⟨_, _, rfl, by simp, (fun e => by cases e), fun _ => ⟨wz.heap.size, 0, rfl, fun i z hz => by
        match i, hz with
        | 0, hz => cases hz; simp
        | 1, hz => cases hz; simp
        | i + 2, hz => simp at hz⟩⟩
      have HAW := hid (allWithin_any HIL.out (n - 1))
      have HB2 := hid (bel_alloc HBW.out (.cells #[.int .i64 x, .int .i64 y] 28))
      clear hget hce h5 q2 q3 HW3
      cases hq : ([x, y].all (inM (n - 1))) with
      | false =>
        rw [hq] at HAW
        have HK2 : Hid (okS n es st most = false) := by
          show _ = _
          rw [HK.out, Bool.eq_false_iff]
          intro ht
          rw [List.all_eq_true] at ht
          have := ht (x, y) (List.mem_of_getElem? HGET.out)
          have h6 : [x, y].all (inM (n - 1)) = true := by simpa using this
          rw [hq] at h6
          cases h6
        clear hq
        go_wp2_with (go_at_call 14; refine HAW.out.mono ?_; rintro e w1 ⟨rfl, hw⟩; subst hw)
        go_ret2
        exact bad_any HK2.out HB2.out
      | true =>
        rw [hq] at HAW
        have HA2 : Hid (∀ (j : Nat) e, j < i + 1 → es[j]? = some e → (inM (n - 1) e.1 && inM (n - 1) e.2) = true) := fun j e hj hx => by
          by_cases e2 : j = i
          · subst e2
            rw [HGET.out] at hx
            cases hx
            simpa using hq
          · exact HAL.out j e (by omega) hx
        clear hq
        go_wp2_with (go_at_call 14; refine HAW.out.mono ?_; rintro e w1 ⟨rfl, hw⟩; subst hw)
        go_roundw
        case rel => exact ⟨i + 1, by omega, by simp, HB2.out, HA2.out⟩
        case measure => simp [intOf]; omega
    · obtain rfl : ne = i := by omega
      have hall : (es.all fun e => inM (n - 1) e.1 && inM (n - 1) e.2) = true := by
        rw [List.all_eq_true]
        intro e he
        obtain ⟨j, hj, rfl⟩ := List.mem_iff_getElem.1 he
        exact HAL.out j _ (by rw [HN.out]; exact hj) (List.getElem?_eq_getElem hj)
      obtain ⟨hu1, hu2⟩ := up_dn hall
      have HU := hid hu1
      have HU2 : Hid (∀ e ∈ dnE es, e.1 < ns ∧ e.2 < ns) := fun e he => by
        have := hu2 e he
        rw [← h2] at this
        omega
      have HOK : Hid (okS n es st most = true) := HK.out.trans hall
      have hdl : (dnE es).length = ne := by unfold dnE; rw [List.length_map, ← HN.out]
      have HSV : Hid (Calls Tryz.prog 15 #[.slice ea ne ec, .slice sa ns sc] wz (retL ns (dnE es) st wz)) := by
        by_cases h0 : ns = 0
        · have hes : es = [] := by
            cases hes : es with
            | nil => rfl
            | cons e l =>
              have := HU2.out (e.1.toNat, e.2.toNat) (by rw [hes]; simp [dnE])
              omega
          have hn0 : ne = 0 := by rw [HN.out, hes]; rfl
          rw [h0, hn0, hes]
          exact solved_none ea ec sa sc st wz
        · obtain ⟨a2, c2, hv2, _, _, h5⟩ := HL.out
          obtain ⟨sb, so, rfl, hcs⟩ := h5 (fun e => by rw [e] at hv2; injection hv2 with _ q2 _; simp at q2; omega)
          injection hv2 with q1 q2 q3
          subst q1
          exact solved_walk ea ne ec sb so ns sc (dnE es) st wz (by omega) (by omega) hne (hid hdl.symm) (hid HS.out.symm) (hid (by rw [HU.out]; exact HE.out.keep HBW.out)) HU2 (hid (fun i x hx => keep_cell HBW.out (hcs i x hx)))
      clear hall hu1 hu2 hdl HW3
      go_wp2_with (go_at_call 15; refine HSV.out.mono ?_; rintro e w1 ⟨LB, x, rfl, hla, hle, hb, hlb⟩; have HF := hid (And.intro hla (And.intro hle (And.intro hb hlb))); clear hla hle hb hlb)
      go_ret2
      have hwz := HBW.out.size
      refine ⟨bel_trans HBW.out HF.out.2.2.1, (fun h => by rw [HOK.out] at h; cases h), fun _ => ⟨ns, dnE es, LB, x, h2.symm, HU.out.symm, HU2.out, rfl, HF.out.1, HF.out.2.1, Nat.le_trans hwz HF.out.2.2.2⟩⟩
theorem solve_any {w : World} {ev sv : Value} {es : List (Int × Int)} {st : List Int} (n most : Int) (he : EL w ev es) (hs : IL w sv st) (h6 : es.length ≤ 1000000) : Calls Tryz.prog 6 #[.int .i64 n, ev, sv, .int .i64 most] w (retS n es st most w) := by
  obtain ⟨ea, ec, rfl, h7, _⟩ := id he
  obtain ⟨sa, sc, rfl, h8⟩ := hs.parts
  cases h1 : inM 2000 n with
  | false => exact solve_a n most ea es.length ec sa st.length sc es st w h6 h8 rfl rfl he hs h1
  | true =>
    by_cases h2 : (st.length : Int) = n
    · cases h3 : inM 1000000 most with
      | false => exact solve_c n most ea es.length ec sa st.length sc es st w h6 h8 rfl rfl he hs h1 h2 h3
      | true =>
        cases h4 : st.all (inM most) with
        | false => exact solve_d n most ea es.length ec sa st.length sc es st w h6 h8 rfl rfl he hs h1 h2 h3 h4
        | true => exact solve_e n most ea es.length ec sa st.length sc es st w h6 h8 rfl rfl he hs h1 h2 h3 h4
    · exact solve_b n most ea es.length ec sa st.length sc es st w h6 h8 rfl rfl he hs h1 h2
end Go.Proofs.YtiigfggebpmlnaaGreatDoor

