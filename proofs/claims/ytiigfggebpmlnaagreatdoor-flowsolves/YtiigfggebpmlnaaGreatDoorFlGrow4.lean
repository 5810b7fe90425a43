/- FlowGrows: the walk where Solve takes what came in. -/
import Derived.Test.YtiigfggebpmlnaaGreatDoorFlGrow3
namespace Go.Proofs.YtiigfggebpmlnaaGreatDoor
open Go.ChangeShapes Go.WideShapes Go.ChangeAt Go.RowKit
set_option linter.unusedSimpArgs false
set_option linter.unusedVariables false

theorem LAt.keep {W W' : World} {LB n : Nat} {x : Nat → Int} (h : LAt W LB n x) (hb : Below W.heap.size W W') : LAt W' LB n x := h.of (fun hl => hb.block LB hl)
set_option maxRecDepth 100000 in
set_option maxHeartbeats 16000000 in
theorem fg_good (N : Nat) (ea : Option Addr) (ne ec : Nat) (sa : Option Addr) (sc : Nat) (a b t : Int) (es : List (Int × Int)) (st : List Int) (w : World) (HN : Hid (ne = es.length)) (HS : Hid (N = st.length)) (hns : N * 8 ≤ 140737488355328) (hne : ne * 16 ≤ 140737488355328) (HE : Hid (EL w (.slice ea ne ec) es)) (HL : Hid (IL w (.slice sa N sc) st)) (HA : Hid (∀ W, Below w.heap.size w W → Calls Tryz.prog 5 #[] W (retP (.bool true) W))) (hN1 : 1 ≤ N) (hN2 : N ≤ 60) (h2 : ne ≤ 100) (HK : Hid (okS N es st 1000000 = true)) : Calls Tryz.prog 4 #[.int .i64 (N : Int), .slice ea ne ec, .slice sa N sc, .int .i64 a, .int .i64 b, .int .i64 t] w (retP (.bool true) w) := by
  obtain ⟨i0, hi0, hz0, hz1, hz2⟩ : ∃ i0, Tryz.prog.info? 3 = some i0 ∧ i0.zero = some (.int .i64 0) ∧ i0.size = 1 ∧ i0.bytes = 8 := info_parts (by kernel_rfl)
  have HI := hid (And.intro hi0 (And.intro hz0 (And.intro hz1 hz2)))
  clear hi0 hz0 hz1 hz2
  obtain ⟨hsl, hsb, hea⟩ := ok_of HK.out
  obtain ⟨hu1, hu2⟩ := up_dn hea
  have HU := hid hu1
  have HUD : Hid (∀ e ∈ dnE es, e.1 < N ∧ e.2 < N) := fun e he => by have := hu2 e he; omega
  have HSL := hid hsl
  have HSB := hid hsb
  have HEA := hid hea
  clear hu1 hu2 hsl hsb hea
  obtain ⟨A, hA⟩ := and1023 a
  obtain ⟨B, hB⟩ := and1023 b
  obtain ⟨C, hC⟩ := and1023 t
  obtain ⟨p, hp⟩ : ∃ p, p = A % N := ⟨_, rfl⟩
  obtain ⟨q, hq⟩ : ∃ q, q = B % N := ⟨_, rfl⟩
  obtain ⟨k, hk⟩ : ∃ k, k = C % N := ⟨_, rfl⟩
  have hpN : p < N := by rw [hp]; exact Nat.mod_lt _ (by omega)
  have hqN : q < N := by rw [hq]; exact Nat.mod_lt _ (by omega)
  have hkN : k < N := by rw [hk]; exact Nat.mod_lt _ (by omega)
  have tp : (A : Int).tmod (N : Int) = (p : Int) := by rw [tmod_nat, hp]
  have tq : (B : Int).tmod (N : Int) = (q : Int) := by rw [tmod_nat, hq]
  have tk : (C : Int).tmod (N : Int) = (k : Int) := by rw [tmod_nat, hk]
  clear hp hq hk
  have hel : es.length ≤ 1000000 := by rw [← HN.out]; omega
  have HS1 : Hid (∀ W, Below w.heap.size w W → Calls Tryz.prog 6 #[.int .i64 (N : Int), .slice ea ne ec, .slice sa N sc, .int .i64 1000000] W (retO N (dnE es) st W)) := fun W hW => solve_ok (HE.out.keep hW) (HL.out.keep hW) hel HK.out HU.out.symm
  have HK2 : Hid (okS N (es ++ [((p : Int), (q : Int))]) st 1000000 = true) := ok_mk (by omega) HSL.out HSB.out (by
    rw [List.all_append, HEA.out]
    simp [inM]
    omega)
  have HU2 : Hid (es ++ [((p : Int), (q : Int))] = upE (dnE es ++ [(p, q)])) := by
    show _ = _
    unfold upE
    rw [List.map_append]
    have := HU.out
    unfold upE at this
    rw [this]
    rfl
  have HKB : Hid (okS N es (bump st k) 1000000 = true) := ok_mk (by omega) (by rw [bump_len]; exact HSL.out) (fun i hi => by
    rw [bump_get st k i (by rw [HSL.out]; exact hi)]
    have a1 := HSB.out i hi
    have a2 := HSB.out k hkN
    split
    · rename_i z; omega
    · exact a1) HEA.out
  have HS3 : Hid (∀ W {v : Value}, Below w.heap.size w W → IL W v (bump st k) → Calls Tryz.prog 6 #[.int .i64 (N : Int), .slice ea ne ec, v, .int .i64 1000000] W (retO N (dnE es) (bump st k) W)) := fun W v hW hi => solve_ok (HE.out.keep hW) hi hel HKB.out HU.out.symm
  have hnm : (N : Int) ≤ 9223372036854775807 := by omega
  have hnm2 : (ne : Int) ≤ 9223372036854775807 := by omega
  go_enter Tryz.func4, Tryz.ntmps4
  go_upto_region 8 with (first | (go_at_call 5; refine (HA.out _ (Below.refl _ _)).mono ?_; rintro e w1 ⟨rfl, hb1⟩; have HB1 := hid hb1; clear hb1) | (go_at_call 6; refine (HS1.out _ HB1.out).mono ?_; rintro e w2 ⟨LX, x, rfl, hx1, hx2, hx3, hx4⟩; have HX := hid (And.intro hx1 hx2); have HB2 := hid (bel_trans HB1.out hx3); clear hx1 hx2 hx3 hx4))
  refine fg_r8 N ne ec N sc ea sa a b A B p q es (dnE es ++ [(p, q)]) st _ _ _ _ _ _ _ _ _ _ _ _ _ _ _ _ _ _ _ _ _ _ _ _ _ _ _ _ _ _ _ _ _ _ _ _ _ _ _ _ _ _ _ _ _ _ _ _ _ _ _ _ _ _ _ _ _ _ _ _ _ _ _ _ _ _ _ _ _ _ _ _ _ _ _ _ _ _ _ _ _ _ _ _ _ _ _ _ _ _ _ _ _ _ _ _ _ _ _ _ _ _ _ _ _ _ _ _ _ _ _ _ _ _ _ _ _ _ _ _ _ _ _ _ _ _ _ _ _ _ _ _ _ _ _ _ _ _ _ _ _ _ _ _ _ _ w2 (fun c a dd v x h => by cases dd <;> exact h) hA hB (by omega) tp tq (hid ⟨HN.out, by omega⟩) (hid (fun W hW => by have h := (HE.out.keep (bel_trans HB2.out hW)).srow; rw [← HN.out] at h; exact h)) (hid (fun W v2 hW he => solve_ok he (HL.out.keep (bel_trans HB2.out hW)) (by rw [List.length_append, ← HN.out]; simp; omega) HK2.out HU2.out)) ?_
  intro y50 y51 y52 y53 y54 y55 y56 y57 y58 y59 y60 y61 y62 y63 y64 y65 y66 y67 y68 y69 LY y w3 hb3 hla3 hle3 hlb3
  have HB3 := hid (bel_trans HB2.out hb3)
  have HXL := hid (HX.out.1.keep hb3)
  have HY := hid hla3
  have HXY : Hid (∀ i, i < N → x i ≤ y i) := HX.out.2.mono hle3 (fun e he => List.mem_append.2 (.inl he)) (fun i _ => Int.le_refl _)
  have HXB : Hid (∀ i, i < N → 0 ≤ x i ∧ x i ≤ 1000000) := fun i hi => ⟨Int.le_trans (HSB.out i hi).1 (HX.out.2.ge i hi), HX.out.2.le (fun _ => 1000000) (fun i hi => (HSB.out i hi).2) (fun e _ => Int.le_refl _) i hi⟩
  have HXZ : Hid (∀ z, Least N (dnE es) (fS (bump st k)) z → ∀ i, i < N → x i ≤ z i ∧ (z i ≤ x i ∨ z i = fS (bump st k) k)) := fun z hz i hi => by
    have hle : ∀ i, i < N → fS st i ≤ fS (bump st k) i := fun i hi => by
      rw [bump_get st k i (by rw [HSL.out]; exact hi)]
      split
      · rename_i q; rw [q.1]; omega
      · exact Int.le_refl _
    exact ⟨HX.out.2.mono hz (fun _ h => h) hle i hi, HX.out.2.one hz (fun i hi hne => by rw [bump_get st k i (by rw [HSL.out]; exact hi), if_neg (fun q => hne q.1)]) hle HUD.out i hi⟩
  clear hb3 hla3 hle3 hlb3 HS1 HX
  have HSW := hid (HL.out.keep HB3.out)
  have HRS : Hid (Srow (w3.alloc (.cells #[] 3)) (.slice sa N sc) N (ints st)) := by
    obtain ⟨a', c', hv, _, _, h5⟩ := HSW.out
    obtain ⟨b', o', rfl, hc⟩ := h5 (fun e => by rw [e] at HSL; have := HSL.out; simp at this; omega)
    injection hv with q1 q2 q3
    subst q1
    refine .inl ⟨_, _, rfl, fun j u hj => ?_⟩
    simp only [ints, List.getElem?_map, Option.map_eq_some_iff] at hj
    obtain ⟨v, hv, rfl⟩ := hj
    rw [show (⟨b', o', none⟩ : Addr).add j = ⟨b', o' + j, none⟩ from Addr.add_mid _ _ _]
    exact keep_alloc (hc j v hv) _
  go_wp2_with (at_builtin; refine wpList_append_any _ (by rfl) _ _ 23 (by rfl) w3.heap.size 3 i0 (.int .i64 0) 1 8 Tryz.underlying23 HI.out.1 HI.out.2.1 HI.out.2.2.1 HI.out.2.2.2 rfl (by decide) _ 0 [] (by rfl) (World.ownsRow_made w3 #[] 0 (Nat.le_refl _) (by simp) rfl) (.slice sa N sc) N (ints st) (by rfl) (by rw [ints_length, Nat.mul_one]; exact HSL.out) HRS.out (by intro u hu; simp only [ints, List.mem_map] at hu; obtain ⟨v, _, rfl⟩ := hu; rfl) (by unfold maxLen; omega) (by omega) (by simp) _ rfl ?_)
  intro a4 c4 w4 ho hg _
  have hb34 : Below w3.heap.size w3 w4 := ((Below.refl w3.heap.size w3).alloc (Nat.le_refl _) _).grown hg (by simp) (fun k hk => by simp [Value.ownBlock] at hk; omega)
  obtain ⟨g, rfl, hgl, hgc⟩ : ∃ g, a4 = some ⟨g, 0, none⟩ ∧ w3.heap.size ≤ g ∧ ∃ cur, w4.heap[g]? = some (.cells cur 3 (0, 0)) := by
    rcases ho.2 with ⟨_, e⟩ | ⟨g, cap, cur, e, e2, e3, _⟩
    · omega
    · cases e; exact ⟨g, rfl, e2, cur, e3⟩
  have hcell : ∀ i, i < N → w4.cell? ⟨g, i, none⟩ = some (.int .i64 (fS st i)) := fun i hi => by
    have := ho.cells (g := g) rfl i (.int .i64 (fS st i)) (by simp only [ints, List.getElem?_map, fS_get (show i < st.length by rw [HSL.out]; exact hi), Option.map_some])
    rw [show (⟨g, 0, none⟩ : Addr).add i = ⟨g, 0 + i, none⟩ from Addr.add_mid _ _ _, Nat.zero_add] at this
    exact this
  have ck := hcell k hkN
  have zk : w4.frozen? ⟨g, k, none⟩ = false := by
    obtain ⟨cur, hcur⟩ := hgc
    unfold World.frozen?
    simp [hcur]
  have k0 : (0 : Int) ≤ k := by omega
  have k1 : (k : Int) < N := by omega
  have HB34 := hid hb34
  have HCELL := hid hcell
  clear ho hg hb34 hcell hgc HRS
  have bk := bump_get st k
  have hkl : k < st.length := by rw [HSL.out]; exact hkN
  by_cases hsk : fS st k < 1000000
  · have hwk : IntKind.i64.wrap (fS st k + 1) = fS st k + 1 := by have := (HSB.out k hkN).1; simp [IntKind.wrap, IntKind.bits, IntKind.signed]; omega
    have hg2 := Below.setCell HB34.out (p := ⟨g, k, none⟩) hgl (.int .i64 (fS st k + 1))
    have HB4 := hid (bel_trans HB3.out hg2)
    have HX2 := hid (HXL.out.keep hg2)
    have HY3 := hid (HY.out.keep hg2)
    have hbk : ∀ i, i < N → (w4.setCell ⟨g, k, none⟩ (.int .i64 (fS st k + 1))).cell? ⟨g, i, none⟩ = some (.int .i64 (fS (bump st k) i)) := fun i hi => by
      rw [bk i (by rw [HSL.out]; exact hi)]
      by_cases e : i = k
      · subst e
        rw [if_pos ⟨rfl, hsk⟩]
        exact World.cell?_setCell_same _ _ _ (HCELL.out i hi)
      · rw [if_neg (fun q => e q.1), World.cell?_setCell_other _ _ _ _ (fun e2 => e (by cases e2; rfl))]
        exact HCELL.out i hi
    have CS := hid (hbk k hkN)
    have HIS : Hid (IL (w4.setCell ⟨g, k, none⟩ (.int .i64 (fS st k + 1))) (.slice (some ⟨g, 0, none⟩) N c4) (bump st k)) := ⟨_, c4, by rw [bump_len, HSL.out], by rw [bump_len, HSL.out]; omega, (fun e => by cases e), fun _ => ⟨g, 0, rfl, fun i v hv => by
      have hi : i < (bump st k).length := (List.getElem?_eq_some_iff.1 hv).1
      rw [bump_len, HSL.out] at hi
      rw [fS_get (by rw [bump_len, HSL.out]; exact hi)] at hv
      cases hv
      rw [Nat.zero_add]
      exact hbk i hi⟩⟩
    clear hg2 hbk bk
    go_wp2_with (go_at_call 6; refine (HS3.out _ HB4.out HIS.out).mono ?_; rintro e w5 ⟨LZ, z, rfl, hz1, hz2, hz3, hz4⟩; have HZ := hid (And.intro hz1 hz2); have HB5 := hid hz3; clear hz1 hz2 hz3 hz4)
    go_loopw [21] (fun v21 wr => ∃ i : Nat, i ≤ N ∧ v21 = .int .i64 i ∧ Hid (Below w5.heap.size w5 wr)) (fun v21 _ => N - (intOf v21).toNat)
    case atStart => exact ⟨0, by omega, rfl, Below.refl _ _⟩
    case round =>
      obtain ⟨i, hi, rfl, HR⟩ := hrel
      rename World => wr
      by_cases hin : i < N
      · have i0 : (0 : Int) ≤ i := by omega
        have i1 : (i : Int) < N := by omega
        have cx := keep_cell HR.out (keep_cell HB5.out (HX2.out i hin).1)
        have cy := keep_cell HR.out (keep_cell HB5.out (HY3.out i hin).1)
        have cz := keep_cell HR.out (HZ.out.1 i hin).1
        have cs := keep_cell HR.out (keep_cell HB5.out CS.out)
        have HRD := hid (Below.drew HR.out)
        have m1 := HXY.out i hin
        have m2 := HXZ.out z HZ.out.2 i hin
        have m3 := HXB.out i hin
        have hw : IntKind.i64.wrap (x i + 1) = x i + 1 := by simp [IntKind.wrap, IntKind.bits, IntKind.signed]; omega
        have d1 : decide (y i < x i) = false := by simp; omega
        have d2 : decide (z i < x i) = false := by simp; omega
        go_upto_region 19 with fail
        by_cases hz : x i + 1 < z i
        · have hzs : z i = fS (bump st k) k := by omega
          rw [← hzs] at cs
          refine fg_r19t LX LY LZ g c4 N k i (x i) (y i) (z i) _ _ _ _ _ _ _ _ _ _ _ _ _ _ _ _ _ _ _ _ _ _ _ _ _ _ _ _ _ _ _ _ _ _ _ _ _ _ _ _ _ _ _ _ _ _ _ _ _ _ _ _ _ _ _ _ _ _ _ _ _ _ _ _ _ _ _ _ _ _ _ _ _ _ _ _ _ _ _ _ _ _ _ _ _ _ _ _ _ _ _ _ _ _ _ _ _ _ _ _ _ _ _ _ _ _ _ _ _ _ _ _ _ _ _ _ _ _ _ _ _ _ _ _ _ _ _ _ _ _ _ _ _ _ _ _ _ _ _ _ _ _ _ _ _ wr (fun c a dd v x h => by cases dd <;> exact h) cy cx cz cs i0 i1 (by omega) (by omega) hw d1 d2 (by simpa using hz) ?_
          intro y106 y107 y108 y109 y110 y111 y112 y113 y114 y115 y116 y117 y118 y119 y120 y121 y122 y123 y124 y125 y126 y127 y128 y129 y130 y131 y132 y133 y134 y135 y136 y137 y138 y139 y140 y141 y142 y143 y144 y145 y146 y147
          clear cx cy cz cs hw d1 d2
          go_wp2
          go_roundw
          case rel => exact ⟨i + 1, by omega, by simp, HRD.out⟩
          case measure => simp [intOf]; omega
        · refine fg_r19f LX LY LZ g c4 N k i (x i) (y i) (z i) _ _ _ _ _ _ _ _ _ _ _ _ _ _ _ _ _ _ _ _ _ _ _ _ _ _ _ _ _ _ _ _ _ _ _ _ _ _ _ _ _ _ _ _ _ _ _ _ _ _ _ _ _ _ _ _ _ _ _ _ _ _ _ _ _ _ _ _ _ _ _ _ _ _ _ _ _ _ _ _ _ _ _ _ _ _ _ _ _ _ _ _ _ _ _ _ _ _ _ _ _ _ _ _ _ _ _ _ _ _ _ _ _ _ _ _ _ _ _ _ _ _ _ _ _ _ _ _ _ _ _ _ _ _ _ _ _ _ _ _ _ _ _ _ _ _ wr (fun c a dd v x h => by cases dd <;> exact h) cy cx cz cs i0 i1 (by omega) (by omega) hw d1 d2 (by simpa using hz) ?_
          intro y106 y107 y108 y109 y110 y111 y112 y113 y114 y115 y116 y117 y118 y119 y120 y121 y122 y123 y124 y125 y126 y127 y128 y129 y130 y131 y132 y133 y134 y135 y136 y137 y138 y139 y140 y141 y142 y143 y144 y145 y146 y147
          clear cx cy cz cs hw d1 d2
          go_wp2
          go_roundw
          case rel => exact ⟨i + 1, by omega, by simp, HRD.out⟩
          case measure => simp [intOf]; omega
      · obtain rfl : N = i := by omega
        have HBE := hid (bel_trans (bel_trans HB4.out HB5.out) HR.out)
        go_wp2
        go_ret
        exact ⟨rfl, HBE.out⟩
  · have HB4 := hid (bel_trans HB3.out HB34.out)
    have HX2 := hid (HXL.out.keep HB34.out)
    have HY3 := hid (HY.out.keep HB34.out)
    have hbk : ∀ i, i < N → w4.cell? ⟨g, i, none⟩ = some (.int .i64 (fS (bump st k) i)) := fun i hi => by
      rw [bk i (by rw [HSL.out]; exact hi), if_neg (fun q => hsk q.2)]
      exact HCELL.out i hi
    have CS := hid (hbk k hkN)
    have HIS : Hid (IL w4 (.slice (some ⟨g, 0, none⟩) N c4) (bump st k)) := ⟨_, c4, by rw [bump_len, HSL.out], by rw [bump_len, HSL.out]; omega, (fun e => by cases e), fun _ => ⟨g, 0, rfl, fun i v hv => by
      have hi : i < (bump st k).length := (List.getElem?_eq_some_iff.1 hv).1
      rw [bump_len, HSL.out] at hi
      rw [fS_get (by rw [bump_len, HSL.out]; exact hi)] at hv
      cases hv
      rw [Nat.zero_add]
      exact hbk i hi⟩⟩
    clear hbk bk
    go_wp2_with (go_at_call 6; refine (HS3.out _ HB4.out HIS.out).mono ?_; rintro e w5 ⟨LZ, z, rfl, hz1, hz2, hz3, hz4⟩; have HZ := hid (And.intro hz1 hz2); have HB5 := hid hz3; clear hz1 hz2 hz3 hz4)
    go_loopw [21] (fun v21 wr => ∃ i : Nat, i ≤ N ∧ v21 = .int .i64 i ∧ Hid (Below w5.heap.size w5 wr)) (fun v21 _ => N - (intOf v21).toNat)
    case atStart => exact ⟨0, by omega, rfl, Below.refl _ _⟩
    case round =>
      obtain ⟨i, hi, rfl, HR⟩ := hrel
      rename World => wr
      by_cases hin : i < N
      · have i0 : (0 : Int) ≤ i := by omega
        have i1 : (i : Int) < N := by omega
        have cx := keep_cell HR.out (keep_cell HB5.out (HX2.out i hin).1)
        have cy := keep_cell HR.out (keep_cell HB5.out (HY3.out i hin).1)
        have cz := keep_cell HR.out (HZ.out.1 i hin).1
        have cs := keep_cell HR.out (keep_cell HB5.out CS.out)
        have HRD := hid (Below.drew HR.out)
        have m1 := HXY.out i hin
        have m2 := HXZ.out z HZ.out.2 i hin
        have m3 := HXB.out i hin
        have hw : IntKind.i64.wrap (x i + 1) = x i + 1 := by simp [IntKind.wrap, IntKind.bits, IntKind.signed]; omega
        have d1 : decide (y i < x i) = false := by simp; omega
        have d2 : decide (z i < x i) = false := by simp; omega
        go_upto_region 19 with fail
        by_cases hz : x i + 1 < z i
        · have hzs : z i = fS (bump st k) k := by omega
          rw [← hzs] at cs
          refine fg_r19t LX LY LZ g c4 N k i (x i) (y i) (z i) _ _ _ _ _ _ _ _ _ _ _ _ _ _ _ _ _ _ _ _ _ _ _ _ _ _ _ _ _ _ _ _ _ _ _ _ _ _ _ _ _ _ _ _ _ _ _ _ _ _ _ _ _ _ _ _ _ _ _ _ _ _ _ _ _ _ _ _ _ _ _ _ _ _ _ _ _ _ _ _ _ _ _ _ _ _ _ _ _ _ _ _ _ _ _ _ _ _ _ _ _ _ _ _ _ _ _ _ _ _ _ _ _ _ _ _ _ _ _ _ _ _ _ _ _ _ _ _ _ _ _ _ _ _ _ _ _ _ _ _ _ _ _ _ _ wr (fun c a dd v x h => by cases dd <;> exact h) cy cx cz cs i0 i1 (by omega) (by omega) hw d1 d2 (by simpa using hz) ?_
          intro y106 y107 y108 y109 y110 y111 y112 y113 y114 y115 y116 y117 y118 y119 y120 y121 y122 y123 y124 y125 y126 y127 y128 y129 y130 y131 y132 y133 y134 y135 y136 y137 y138 y139 y140 y141 y142 y143 y144 y145 y146 y147
          clear cx cy cz cs hw d1 d2
          go_wp2
          go_roundw
          case rel => exact ⟨i + 1, by omega, by simp, HRD.out⟩
          case measure => simp [intOf]; omega
        · refine fg_r19f LX LY LZ g c4 N k i (x i) (y i) (z i) _ _ _ _ _ _ _ _ _ _ _ _ _ _ _ _ _ _ _ _ _ _ _ _ _ _ _ _ _ _ _ _ _ _ _ _ _ _ _ _ _ _ _ _ _ _ _ _ _ _ _ _ _ _ _ _ _ _ _ _ _ _ _ _ _ _ _ _ _ _ _ _ _ _ _ _ _ _ _ _ _ _ _ _ _ _ _ _ _ _ _ _ _ _ _ _ _ _ _ _ _ _ _ _ _ _ _ _ _ _ _ _ _ _ _ _ _ _ _ _ _ _ _ _ _ _ _ _ _ _ _ _ _ _ _ _ _ _ _ _ _ _ _ _ _ _ wr (fun c a dd v x h => by cases dd <;> exact h) cy cx cz cs i0 i1 (by omega) (by omega) hw d1 d2 (by simpa using hz) ?_
          intro y106 y107 y108 y109 y110 y111 y112 y113 y114 y115 y116 y117 y118 y119 y120 y121 y122 y123 y124 y125 y126 y127 y128 y129 y130 y131 y132 y133 y134 y135 y136 y137 y138 y139 y140 y141 y142 y143 y144 y145 y146 y147
          clear cx cy cz cs hw d1 d2
          go_wp2
          go_roundw
          case rel => exact ⟨i + 1, by omega, by simp, HRD.out⟩
          case measure => simp [intOf]; omega
      · obtain rfl : N = i := by omega
        have HBE := hid (bel_trans (bel_trans HB4.out HB5.out) HR.out)
        go_wp2
        go_ret
        exact ⟨rfl, HBE.out⟩
theorem flowGrows_walk (v1 v2 : Value) (n a b t : Int) (es : List (Int × Int)) (st : List Int) (w : World) (he : EL w v1 es) (hs : IL w v2 st) (ha : ∀ W, Below w.heap.size w W → Calls Tryz.prog 5 #[] W (retP (.bool true) W)) :
    Calls Tryz.prog 4 #[.int .i64 n, v1, v2, .int .i64 a, .int .i64 b, .int .i64 t] w (retP (.bool true) w) := by
  obtain ⟨ea, ec, rfl, h7, _⟩ := id he
  obtain ⟨sa, sc, rfl, h8⟩ := hs.parts
  by_cases h1 : n < 1
  · exact fgs_1 n ea es.length ec sa st.length sc a b t es st w rfl rfl h8 h7 he hs ha h1
  by_cases h2 : 60 < n
  · exact fgs_2 n ea es.length ec sa st.length sc a b t es st w rfl rfl h8 h7 he hs ha h1 h2
  by_cases h3 : 100 < (es.length : Int)
  · exact fgs_3 n ea es.length ec sa st.length sc a b t es st w rfl rfl h8 h7 he hs ha h1 h2 h3
  by_cases h4 : (st.length : Int) = n
  · cases hk : okS n es st 1000000 with
    | false => exact fgs_5 n ea es.length ec sa st.length sc a b t es st w rfl rfl h8 h7 he hs ha h1 h2 h3 h4 hk
    | true =>
      subst h4
      exact fg_good st.length ea es.length ec sa sc a b t es st w rfl rfl h8 h7 he hs ha (by omega) (by omega) (by omega) hk
  · exact fgs_4 n ea es.length ec sa st.length sc a b t es st w rfl rfl h8 h7 he hs ha h1 h2 h3 h4
end Go.Proofs.YtiigfggebpmlnaaGreatDoor

