/- Package asm: is a program well formed? The rest. -/
import Derived.Test.YtofnnpchobgapaaGreatDoorAsG
namespace Go.Proofs.YtofnnpchobgapaaGreatDoor
open Go.ChangeShapes Go.WideShapes Go.ChangeAt Go.RowKit
set_option linter.unusedSimpArgs false
set_option linter.unusedVariables false

theorem lbA_le (code : List AIns) : ∀ n, lbA code n ≤ n
  | 0 => Nat.le_refl _
  | n + 1 => by
    have := lbA_le code n
    simp only [lbA]
    split
    · split <;> omega
    · omega
set_option maxRecDepth 100000 in
set_option maxHeartbeats 8000000 in
theorem agoals_walk (ca : Option Addr) (n cap cb co : Nat) (code : List AIns) (r : Bool) (w : World) (hn : n * 56 ≤ 140737488355328) (HN : Hid (n = code.length)) (HA : Hid (0 < n → ca = some ⟨cb, co, none⟩)) (HC : Hid (∀ (i : Nat) x, code[i]? = some x → AInsAt w cb (co + i * 7) x)) (HL : Hid (LbOk code)) (HE : Hid (r = goalsA code)) :
    Calls Tryz.prog 40 #[.slice ca n cap] w (retP (.bool r) w) := by
  have hnm : (n : Int) ≤ 9223372036854775807 := by omega
  obtain ⟨st, hst⟩ : ∃ st, plA code n = st := ⟨_, rfl⟩
  have hpl := aplaces_walk ca n cap cb co code w hn HN HA HC HL
  rw [hst] at hpl
  have HPL := hid hpl
  have HST : Hid (plA code n = st) := hst
  have HB : Hid (∀ (i : Nat) x, code[i]? = some x → jumpA x = true → (st.g x.l).isSome = false → r = false) := fun i x h1 h2 h3 => by
    rw [HE.out, goalsA, aall_bad h1 (by rw [h2, ← HN.out, HST.out, h3]; rfl)]; rfl
  clear hst hpl
  go_enter Tryz.func40, Tryz.ntmps40
  go_wp2_with (go_at_call 63; refine HPL.out.mono ?_; rintro e w1 ⟨rfl, hm1, hb1⟩; have HB1 := hid hb1; have HM1 := hid hm1; clear hb1 hm1)
  go_loopw [3, 12] (fun v3 vv wz => ∃ i : Nat, i ≤ n ∧ vv = .int .i64 i ∧ v3 = .int .i64 (lbA code i : Nat) ∧ Hid (∀ (j : Nat) y, j < i → code[j]? = some y → (!jumpA y || (st.g y.l).isSome) = true) ∧ wz = w1) (fun v3 vv _ => n - (intOf vv).toNat)
  case atStart => exact ⟨0, by omega, rfl, rfl, fun j y hj => by omega, rfl⟩
  case round =>
    obtain ⟨i, hi, rfl, rfl, HI, rfl⟩ := hrel
    rename World => w1
    have hlb := lbA_le code i
    by_cases hin : i < n
    · obtain rfl := HA.out (by omega)
      have j0 : (0 : Int) ≤ i := by omega
      have j1 : (i : Int) < n := by omega
      have hget := List.getElem?_eq_getElem (l := code) (show i < code.length by rw [← HN.out]; exact hin)
      generalize code[i]'(by rw [← HN.out]; exact hin) = y at hget
      have HG := hid hget
      obtain ⟨cx, _, _, _, _, cl, _⟩ := (HC.out i y hget).keep HB1.out
      have HJ : Hid (Calls Tryz.prog 64 #[.pointer (some ⟨cb, co + i * 7, none⟩)] w1 fun e w' => e = .returned (.bool (jumpA y)) ∧ w' = w1) := ajumps_any cb (co + i * 7) y.op w1 cx
      have HLS := hid (lbA_step hget)
      clear hget
      cases hq : (y.op == 20) with
      | true =>
        have hop : y.op = 20 := by simpa using hq
        have hj : jumpA y = false := by simp [jumpA, hop]
        rw [hj] at HJ
        have HI2 := hid (aall_step (f := fun y : AIns => !jumpA y || (st.g y.l).isSome) HG.out (by rw [hj]; rfl) HI.out)
        have HL2 : Hid (lbA code (i + 1) = lbA code i + 1) := by show _ = _; rw [HLS.out, if_pos hop]
        generalize lbA code i = L at *
        have k1 : (L : Int) + 1 ≤ 9223372036854775807 := by omega
        clear hop hj HLS
        go_wp2_with (go_at_call 64; refine HJ.out.mono ?_; rintro e w3 ⟨rfl, hw⟩; replace hw := hw.symm; subst hw)
        go_roundw
        case rel => exact ⟨i + 1, by omega, by simp, by rw [HL2.out]; simp, HI2, trivial⟩
        case measure => simp [intOf]; omega
      | false =>
        have hop : ¬ y.op = 20 := by simpa using hq
        have HL2 : Hid (lbA code (i + 1) = lbA code i) := by show _ = _; rw [HLS.out, if_neg hop]
        generalize lbA code i = L at *
        clear hop HLS
        cases hj : jumpA y with
        | false =>
          rw [hj] at HJ
          have HI2 := hid (aall_step (f := fun y : AIns => !jumpA y || (st.g y.l).isSome) HG.out (by rw [hj]; rfl) HI.out)
          go_wp2_with (go_at_call 64; refine HJ.out.mono ?_; rintro e w3 ⟨rfl, hw⟩; replace hw := hw.symm; subst hw)
          go_roundw
          case rel => exact ⟨i + 1, by omega, by simp, by rw [HL2.out], HI2, trivial⟩
          case measure => simp [intOf]; omega
        | true =>
          rw [hj] at HJ
          have hr := HL.out y (List.mem_of_getElem? HG.out) (by simp only [jumpA, Bool.or_eq_true, beq_iff_eq] at hj; omega)
          have lk := HM1.out.look (k := y.l) (by omega) (by omega)
          clear hr
          cases hs : (st.g y.l).isSome with
          | false =>
            rw [hs] at lk
            have er := HB.out i y HG.out hj hs
            subst er
            go_wp2_with (go_at_call 64; refine HJ.out.mono ?_; rintro e w3 ⟨rfl, hw⟩; replace hw := hw.symm; subst hw)
            go_ret
            exact ⟨rfl, HB1.out⟩
          | true =>
            rw [hs] at lk
            have HI2 := hid (aall_step (f := fun y : AIns => !jumpA y || (st.g y.l).isSome) HG.out (by rw [hs]; simp) HI.out)
            go_wp2_with (go_at_call 64; refine HJ.out.mono ?_; rintro e w3 ⟨rfl, hw⟩; replace hw := hw.symm; subst hw)
            go_roundw
            case rel => exact ⟨i + 1, by omega, by simp, by rw [HL2.out], HI2, trivial⟩
            case measure => simp [intOf]; omega
    · obtain rfl : n = i := by omega
      have hl := HM1.out.len
      have er : r = ((lbA code n : Int) == (st.s : Int)) := by
        rw [HE.out, goalsA, ← HN.out, HST.out, aall_good HN.out HI.out, Bool.true_and, Bool.eq_iff_iff, beq_iff_eq, beq_iff_eq]; omega
      subst er
      go_wp2
      go_ret
      exact ⟨rfl, HB1.out⟩

end Go.Proofs.YtofnnpchobgapaaGreatDoor
