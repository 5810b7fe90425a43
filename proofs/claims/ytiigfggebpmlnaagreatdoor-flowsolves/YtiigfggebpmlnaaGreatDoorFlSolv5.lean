/- FlowSolves: the walk where Solve takes what came in. -/
import Derived.Test.YtiigfggebpmlnaaGreatDoorFlSolv4
namespace Go.Proofs.YtiigfggebpmlnaaGreatDoor
open Go.ChangeShapes Go.WideShapes Go.ChangeAt Go.RowKit
set_option linter.unusedSimpArgs false
set_option linter.unusedVariables false

theorem ok_of2 {N : Nat} {es : List (Int × Int)} {st : List Int} {most : Int} (hN : N ≤ 100) (h : okS N es st most = true) : st.length = N ∧ (∀ i, i < N → 0 ≤ fS st i ∧ fS st i ≤ most) ∧ (0 ≤ most ∧ most ≤ 1000000) ∧ st.all (inM most) = true ∧ es.all (edB N) = true ∧ (es.all fun e => inM ((N : Int) - 1) e.1 && inM ((N : Int) - 1) e.2) = true := by
  have h' := h
  rw [okS_ed _ es st most (by omega)] at h'
  unfold okS at h
  simp only [Bool.and_eq_true, decide_eq_true_eq] at h h'
  obtain ⟨_, h2, h3, h4, h5⟩ := h
  have hl : st.length = N := by omega
  refine ⟨hl, fun i hi => ?_, by simpa [inM] using h3, h4, h'.2.2.2.2, h5⟩
  rw [List.all_eq_true] at h4
  have := h4 (fS st i) (List.mem_of_getElem? (fS_get (by omega)))
  simpa [inM] using this
set_option maxRecDepth 100000 in
set_option maxHeartbeats 16000000 in
theorem fs_good (N : Nat) (ea : Option Addr) (ne ec : Nat) (sa : Option Addr) (sc : Nat) (most : Int) (es : List (Int × Int)) (st : List Int) (w : World) (HN : Hid (ne = es.length)) (HS : Hid (N = st.length)) (hns : N * 8 ≤ 140737488355328) (hne : ne * 16 ≤ 140737488355328) (HE : Hid (EL w (.slice ea ne ec) es)) (HL : Hid (IL w (.slice sa N sc) st)) (HA : Hid (∀ W, Below w.heap.size w W → Calls Tryz.prog 5 #[] W (retP (.bool true) W))) (h0 : N ≤ 100) (h1 : ne ≤ 300) (HK : Hid (okS N es st most = true)) : Calls Tryz.prog 3 #[.int .i64 (N : Int), .slice ea ne ec, .slice sa N sc, .int .i64 most] w (retP (.bool true) w) := by
  obtain ⟨i0, hi0, hz0, hz1, hz2⟩ : ∃ i0, Tryz.prog.info? 3 = some i0 ∧ i0.zero = some (.int .i64 0) ∧ i0.size = 1 ∧ i0.bytes = 8 := info_parts (by kernel_rfl)
  have HI := hid (And.intro hi0 (And.intro hz0 (And.intro hz1 hz2)))
  clear hi0 hz0 hz1 hz2
  obtain ⟨hsl, hsb, hmo, hst, hed, hea⟩ := ok_of2 h0 HK.out
  obtain ⟨hu1, hu2⟩ := up_dn hea
  obtain ⟨m0, m1⟩ := hmo
  have HU := hid hu1
  have HUD : Hid (∀ e ∈ dnE es, e.1 < N ∧ e.2 < N) := fun e he => by have := hu2 e he; omega
  have HSL := hid hsl
  have HSB := hid hsb
  have HST := hid hst
  have HED := hid hed
  have HDL : Hid (ne = (dnE es).length) := hid (by unfold dnE; rw [List.length_map]; exact HN.out)
  clear hu1 hu2 hsl hsb hst hed hea
  have HSO : Hid (∀ W, Below w.heap.size w W → Calls Tryz.prog 6 #[.int .i64 (N : Int), .slice ea ne ec, .slice sa N sc, .int .i64 most] W (retO N (dnE es) st W)) := fun W hW =>
    (solve_any (N : Int) most (HE.out.keep hW) (HL.out.keep hW) (by rw [← HN.out]; omega)).mono fun e W' h => by
      obtain ⟨N', es2, LB, x, k1, k2, k3, k4, k5, k7, k8⟩ := h.2.2 HK.out
      have hN : N' = N := by omega
      subst hN
      have : es2 = dnE es := upE_inj (k2.symm.trans HU.out.symm)
      subst this
      exact ⟨LB, x, k4, k5, k7, h.1, k8⟩
  have hnm : (N : Int) ≤ 9223372036854775807 := by omega
  have hnm2 : (ne : Int) ≤ 9223372036854775807 := by omega
  have t1 : ¬ (100 : Int) < N := by omega
  have t2 : ¬ (300 : Int) < ne := by omega
  go_enter Tryz.func3, Tryz.ntmps3
  go_wp2_with (first | (go_at_call 5; refine (HA.out _ (Below.refl _ _)).mono ?_; rintro e w1 ⟨rfl, hb1⟩; have HB1 := hid hb1; clear hb1) | (go_at_call 6; refine (HSO.out _ HB1.out).mono ?_; rintro e w2 ⟨LX, x, rfl, hx1, hx2, hx3, hx4⟩; have HX := hid (And.intro hx1 hx2); have HB2 := hid (bel_trans HB1.out hx3); clear hx1 hx2 hx3 hx4))
  refine fs_loop1 sa N sc most st _ _ _ _ _ _ _ _ _ _ _ _ _ _ _ _ _ _ _ _ _ _ _ _ _ _ _ _ _ _ _ _ _ _ _ _ _ _ _ _ _ _ _ _ _ _ _ _ _ _ _ _ _ _ _ _ _ _ _ _ _ _ _ _ _ _ _ _ _ _ _ _ _ _ _ _ _ _ _ _ _ _ _ _ _ _ _ _ _ _ _ _ _ _ _ _ _ _ _ _ _ _ _ _ _ _ _ _ _ _ _ _ _ _ _ _ _ _ _ _ _ _ _ _ _ _ _ _ _ _ _ _ _ _ _ _ _ _ _ _ _ _ _ _ _ _ _ _ _ _ _ _ _ _ _ _ _ _ _ _ _ _ _ _ _ _ _ _ _ _ _ _ _ _ _ _ _ _ _ _ _ _ _ _ _ _ _ _ _ w2 HS hns (HL.out.keep HB2.out) true HST ?_
  intro v12 v56 v57 v58 v59 v60 v61 v62 v63 v64 v65 v66 v67 v68 v69 v70 v71 v72 v73 v74 v75 v76 v77
  go_wp2
  refine fs_loop2 ea ne ec N es _ _ _ _ _ _ _ _ _ _ _ _ _ _ _ _ _ _ _ _ _ _ _ _ _ _ _ _ _ _ _ _ _ _ _ _ _ _ _ _ _ _ _ _ _ _ _ _ _ _ _ _ _ _ _ _ _ _ _ _ _ _ _ _ _ _ _ _ _ _ _ _ _ _ _ _ _ _ _ _ _ _ _ _ _ _ _ _ _ _ _ _ _ _ _ _ _ _ _ _ _ _ _ _ _ _ _ _ _ _ _ _ _ _ _ _ _ _ _ _ _ _ _ _ _ _ _ _ _ _ _ _ _ _ _ _ _ _ _ _ _ _ _ _ _ _ _ _ _ _ _ _ _ _ _ _ _ _ _ _ _ _ _ _ _ _ _ _ _ _ _ _ _ _ _ _ _ _ _ _ _ _ _ _ _ _ _ _ _ w2 HN hne (HE.out.keep HB2.out) true HED ?_
  intro q13 q78 q79 q80 q81 q82 q83 q84 q85 q86 q87 q88 q89 q90 q91 q92 q93 q94 q95 q96 q97 q98 q99 q100 q101 q102 q103 q104 q105 q106 q107 q108 q109 q110 q111 q112 q113 q114 q115 q116 q117 q118
  have HSW := hid (HL.out.keep HB2.out)
  have HRS : Hid (Srow (w2.alloc (.cells #[] 3)) (.slice sa N sc) N (ints st)) := by
    obtain ⟨a', c', hv, _, h00, h5⟩ := HSW.out
    injection hv with q1 q2 q3
    subst q1
    by_cases hst0 : st = []
    · cases sa with
      | none =>
        obtain ⟨_, rfl⟩ := h00 rfl
        refine .inr ⟨?_, by rw [q2, hst0]; rfl⟩
        rw [q2, q3, hst0]; rfl
      | some ad =>
        refine .inl ⟨ad, sc, rfl, fun j u hj => ?_⟩
        rw [hst0] at hj
        simp [ints] at hj
    · obtain ⟨b', o', rfl, hc⟩ := h5 hst0
      refine .inl ⟨_, _, rfl, fun j u hj => ?_⟩
      simp only [ints, List.getElem?_map, Option.map_eq_some_iff] at hj
      obtain ⟨v, hv, rfl⟩ := hj
      rw [show (⟨b', o', none⟩ : Addr).add j = ⟨b', o' + j, none⟩ from Addr.add_mid _ _ _]
      exact keep_alloc (hc j v hv) _
  go_wp2_with (at_builtin; refine wpList_append_any _ (by rfl) _ _ 23 (by rfl) w2.heap.size 3 i0 (.int .i64 0) 1 8 Tryz.underlying23 HI.out.1 HI.out.2.1 HI.out.2.2.1 HI.out.2.2.2 rfl (by decide) _ 0 [] (by rfl) (World.ownsRow_made w2 #[] 0 (Nat.le_refl _) (by simp) rfl) (.slice sa N sc) N (ints st) (by rfl) (by rw [ints_length, Nat.mul_one]; exact HSL.out) HRS.out (by intro u hu; simp only [ints, List.mem_map] at hu; obtain ⟨v, _, rfl⟩ := hu; rfl) (by unfold maxLen; omega) (by omega) (by simp) _ rfl ?_)
  intro a4 c4 w4 ho hg _
  have hb34 : Below w2.heap.size w2 w4 := ((Below.refl w2.heap.size w2).alloc (Nat.le_refl _) _).grown hg (by simp) (fun k hk => by simp [Value.ownBlock] at hk; omega)
  obtain ⟨g, c5, hv4, hgl, hla4⟩ : ∃ g c5, (Value.slice a4 N c4 = .slice (some ⟨g, 0, none⟩) N c5 ∨ N = 0) ∧ w2.heap.size ≤ g ∧ LAt w4 g N (fS st) := by
    rcases ho.2 with ⟨_, e⟩ | ⟨g, cap, cur, e, e2, e3, _⟩
    · exact ⟨w2.heap.size, 0, .inr e, Nat.le_refl _, fun i hi => by omega⟩
    · refine ⟨g, cap, .inl e, e2, fun i hi => ⟨?_, ?_⟩⟩
      · have := ho.cells (g := g) (by rw [e]; rfl) i (.int .i64 (fS st i)) (by simp only [ints, List.getElem?_map, fS_get (show i < st.length by rw [HSL.out]; exact hi), Option.map_some])
        rw [show (⟨g, 0, none⟩ : Addr).add i = ⟨g, 0 + i, none⟩ from Addr.add_mid _ _ _, Nat.zero_add] at this
        exact this
      · unfold World.frozen?
        simp [e3]
  have HB4 := hid (bel_trans HB2.out hb34)
  have HXL := hid (HX.out.1.keep hb34)
  have HLA4 := hid hla4
  have HLX : Hid (LX < w2.heap.size ∨ N = 0) := by
    by_cases hN0 : N = 0
    · exact .inr hN0
    · exact .inl (block_lt_of_cell (HX.out.1 0 (by omega)).1)
  clear ho hg hb34 hla4 HRS
  by_cases hN0 : N = 0
  · subst hN0
    have hes : es = [] := by
      cases hes : es with
      | nil => rfl
      | cons e l =>
        have := (HUD.out (e.1.toNat, e.2.toNat) (by rw [hes]; simp [dnE])).1
        omega
    have hn0 : ne = 0 := by rw [HN.out, hes]; rfl
    subst hn0
    clear hes hv4
    go_wp2
    go_loopw [15] (fun v15 wr => ∃ ag : Bool, v15 = .bool ag ∧ Hid (Below w4.heap.size w4 wr)) (fun v15 _ => b01 v15)
    case atStart => exact ⟨true, rfl, Below.refl _ _⟩
    case round =>
      obtain ⟨ag, rfl, HR⟩ := hrel
      rename World => wr
      cases ag with
      | true =>
        go_wp2
        go_loopw [15, 16] (fun v15 v16 wq => v15 = .bool false ∧ v16 = .int .i64 0 ∧ Hid (Below w4.heap.size w4 wq)) (fun _ _ _ => 0)
        case atStart => exact ⟨rfl, rfl, HR.out⟩
        case round =>
          obtain ⟨rfl, rfl, HR2⟩ := hrel
          rename World => wq
          go_wp2
          go_roundw
          case rel => exact ⟨false, rfl, HR2.out⟩
          case measure => simp [b01]
      | false =>
        go_wp2
        go_loopw [17] (fun v17 wq => v17 = .int .i64 0 ∧ Hid (Below w4.heap.size w4 wq)) (fun _ _ => 0)
        case atStart => exact ⟨rfl, HR.out⟩
        case round =>
          obtain ⟨rfl, HR2⟩ := hrel
          rename World => wq
          have HBE := hid (bel_trans HB4.out HR2.out)
          go_wp2
          go_ret
          exact ⟨rfl, HBE.out⟩
  · have hv5 : Value.slice a4 N c4 = .slice (some ⟨g, 0, none⟩) N c5 := hv4.resolve_right hN0
    injection hv5 with e1 _ e3
    subst e1 e3
    have hw4 := HB4.out.size
    have hw2 := HB2.out.size
    have HGG : Hid (∀ b off n c, (Value.slice ea ne ec) = .slice (some ⟨b, off, none⟩) n c → b ≠ g ∨ ne = 0) := fun b off n' c' e => by
      obtain ⟨a', c2', hv, _, _, h5⟩ := HE.out
      by_cases hes : es = []
      · exact .inr (by rw [HN.out, hes]; rfl)
      · obtain ⟨b', o', rfl, hc⟩ := h5 hes
        injection hv with q1 _ _
        rw [q1] at e
        obtain ⟨e0, l0, hel⟩ := List.exists_cons_of_ne_nil hes
        have hlt : b' < w.heap.size := block_lt_of_cell (hc 0 e0 (by rw [hel]; rfl)).1
        cases e
        exact .inl (by omega)
    go_wp2
    refine fs_loop3 ea ne ec g c4 N (dnE es) (fS st) (fS st) _ _ _ _ _ _ _ _ _ _ _ _ _ _ _ _ _ _ _ _ _ _ _ _ _ _ _ _ _ _ _ _ _ _ _ _ _ _ _ _ _ _ _ _ _ _ _ _ _ _ _ _ _ _ _ _ _ _ _ _ _ _ _ _ _ _ _ _ _ _ _ _ _ _ _ _ _ _ _ _ _ _ _ _ _ _ _ _ _ _ _ _ _ _ _ _ _ _ _ _ _ _ _ _ _ _ _ _ _ _ _ _ _ _ _ _ _ _ _ _ _ _ _ _ _ _ _ _ _ _ _ _ _ _ _ _ _ _ _ _ _ _ _ _ _ _ _ _ _ _ _ _ _ _ _ _ _ _ _ _ _ _ _ _ _ _ _ _ _ _ _ _ _ _ _ _ _ _ _ _ _ _ _ _ _ _ _ _ _  _ w4 (fun c a dd v x h => by cases dd <;> exact h) HDL (by omega) (by rw [HU.out]; exact HE.out.keep HB4.out) HUD HGG HLA4 ⟨fun i hi => Int.le_refl _, fun z h1 h2 i hi => h1 i hi⟩ (fun i hi => by have := (HSB.out i hi).2; omega) ?_
    intro p16 p131 p132 p133 p134 p135 p136 p137 p138 p139 p140 p141 p142 p143 p144 p145 p146 p147 p148 p149 p150 p151 p152 p153 p154 p155 p156 p157 p158 p159 p160 p161 p162 p163 p164 p165 p166 p167 p168 p169 W5 y hmv hla hle
    have HXY : Hid (∀ i, i < N → x i = y i) := HX.out.2.unique hle
    have HMV := hid hmv
    have HYA := hid hla
    have hlx : LX < w2.heap.size := HLX.out.resolve_right hN0
    have HXA : Hid (LAt W5 LX N x) := HXL.out.of (fun h => hmv.block LX h (by omega))
    have HB5 : Hid (Below w.heap.size w W5) := hid ⟨hmv.os.trans HB4.out.os, hmv.tape.trans HB4.out.tape, hmv.output.trans HB4.out.output, Nat.le_trans HB4.out.size hmv.size, fun k hk => (hmv.block k (by omega) (by omega)).trans (HB4.out.block k hk)⟩
    clear hmv hla hle
    go_wp2
    go_loopw [17] (fun v17 wr => ∃ i : Nat, i ≤ N ∧ v17 = .int .i64 i ∧ Hid (Below W5.heap.size W5 wr)) (fun v17 _ => N - (intOf v17).toNat)
    case atStart => exact ⟨0, by omega, rfl, Below.refl _ _⟩
    case round =>
      obtain ⟨i, hi, rfl, HR⟩ := hrel
      rename World => wr
      by_cases hin : i < N
      · have i0 : (0 : Int) ≤ i := by omega
        have i1 : (i : Int) < N := by omega
        have cx := keep_cell HR.out (HXA.out i hin).1
        have cw := keep_cell HR.out (HYA.out i hin).1
        rw [← HXY.out i hin] at cw
        have HRD := hid (Below.drew HR.out)
        go_upto_region 32 with fail
        refine fs_r32 LX g c4 N i (x i) _ _ _ _ _ _ _ _ _ _ _ _ _ _ _ _ _ _ _ _ _ _ _ _ _ _ _ _ _ _ _ _ _ _ _ _ _ _ _ _ _ _ _ _ _ _ _ _ _ _ _ _ _ _ _ _ _ _ _ _ _ _ _ _ _ _ _ _ _ _ _ _ _ _ _ _ _ _ _ _ _ _ _ _ _ _ _ _ _ _ _ _ _ _ _ _ _ _ _ _ _ _ _ _ _ _ _ _ _ _ _ _ _ _ _ _ _ _ _ _ _ _ _ _ _ _ _ _ _ _ _ _ _ _ _ _ _ _ _ _ _ _ _ _ _ _ _ _ _ _ _ _ _ _ _ _ _ _ _ _ _ _ _ _ _ _ _ _ _ _ _ _ _ _ _ _ _ _ _ _ _ _ _ _ _ _ _ _ _  _ _ wr (fun c a dd v x h => by cases dd <;> exact h) cx cw i0 i1 ?_
        intro y183 y184 y185 y186 y187 y188 y189 y190
        clear cx cw
        go_wp2
        go_roundw
        case rel => exact ⟨i + 1, by omega, by simp, HRD.out⟩
        case measure => simp [intOf]; omega
      · obtain rfl : N = i := by omega
        have HBE := hid (bel_trans HB5.out HR.out)
        go_wp2
        go_ret
        exact ⟨rfl, HBE.out⟩
theorem flowSolves_walk (v1 v2 : Value) (n most : Int) (es : List (Int × Int)) (st : List Int) (w : World) (he : EL w v1 es) (hs : IL w v2 st) (ha : ∀ W, Below w.heap.size w W → Calls Tryz.prog 5 #[] W (retP (.bool true) W)) :
    Calls Tryz.prog 3 #[.int .i64 n, v1, v2, .int .i64 most] w (retP (.bool true) w) := by
  obtain ⟨ea, ec, rfl, h7, _⟩ := id he
  obtain ⟨sa, sc, rfl, h8⟩ := hs.parts
  by_cases h1 : 100 < n
  · exact fss_1 n ea es.length ec sa st.length sc most es st w rfl rfl h8 h7 he hs ha h1
  by_cases h2 : 300 < (es.length : Int)
  · exact fss_2 n ea es.length ec sa st.length sc most es st w rfl rfl h8 h7 he hs ha h1 h2
  by_cases h3 : 100 < (st.length : Int)
  · exact fss_3 n ea es.length ec sa st.length sc most es st w rfl rfl h8 h7 he hs ha h1 h2 h3
  cases hk : okS n es st most with
  | false => exact fs_bad n ea es.length ec sa st.length sc most es st w rfl rfl h8 h7 he hs ha h1 h2 h3 hk
  | true =>
    have hn : (st.length : Int) = n := by
      unfold okS at hk
      simp only [Bool.and_eq_true, decide_eq_true_eq] at hk
      exact hk.2.1
    subst hn
    exact fs_good st.length ea es.length ec sa sc most es st w rfl rfl h8 h7 he hs ha (by omega) (by omega) hk
end Go.Proofs.YtiigfggebpmlnaaGreatDoor

