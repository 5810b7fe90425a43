/- The document's own lexer: contracts of letter, hex, Key. -/
import Derived.Test.YtkbihcicnffjdaaDoorLBackM
namespace Go.Proofs.YtkbihcicnffjdaaDoor
open Go.ChangeShapes Go.WideShapes Go.ChangeAt Go.RowKit
set_option linter.unusedSimpArgs false
set_option linter.unusedVariables false

theorem letter_cases (b : Int) : b < 65 ∨ (65 ≤ b ∧ b ≤ 90) ∨ b = 95 ∨ (91 ≤ b ∧ b ≤ 96 ∧ b ≠ 95) ∨ (97 ≤ b ∧ b ≤ 122) ∨ 122 < b := by omega
set_option maxHeartbeats 2000000 in
theorem rletter_any (b : Int) (w : World) : Calls Tryd.prog 15 #[.int .u8 b] w fun e w' => e = .returned (.bool (letterB b)) ∧ w' = w := by
  rcases letter_cases b with h | h | h | h | h | h
  · have e : letterB b = false := by unfold letterB; simp; omega
    rw [e]
    have q0 : decide (97 ≤ b) = false := by simp; omega
    have q1 : decide (b ≤ 122) = true := by simp; omega
    have q2 : decide (65 ≤ b) = false := by simp; omega
    have q3 : decide (b ≤ 90) = true := by simp; omega
    have q5 : (b == 95) = false := by simp; omega
    clear e h
    go_enter Tryd.func15, Tryd.ntmps15
    go_wp2
    go_ret
    exact ⟨rfl, rfl⟩
  · have e : letterB b = true := by unfold letterB; simp; omega
    rw [e]
    have q0 : decide (97 ≤ b) = false := by simp; omega
    have q1 : decide (b ≤ 122) = true := by simp; omega
    have q2 : decide (65 ≤ b) = true := by simp; omega
    have q3 : decide (b ≤ 90) = true := by simp; omega
    clear e h
    go_enter Tryd.func15, Tryd.ntmps15
    go_wp2
    go_ret
    exact ⟨rfl, rfl⟩
  · have e : letterB b = true := by unfold letterB; simp; omega
    rw [e]
    have q0 : decide (97 ≤ b) = false := by simp; omega
    have q1 : decide (b ≤ 122) = true := by simp; omega
    have q2 : decide (65 ≤ b) = true := by simp; omega
    have q3 : decide (b ≤ 90) = false := by simp; omega
    have q5 : (b == 95) = true := by simp; omega
    clear e h
    go_enter Tryd.func15, Tryd.ntmps15
    go_wp2
    go_ret
    exact ⟨rfl, rfl⟩
  · have e : letterB b = false := by unfold letterB; simp; omega
    rw [e]
    have q0 : decide (97 ≤ b) = false := by simp; omega
    have q1 : decide (b ≤ 122) = true := by simp; omega
    have q2 : decide (65 ≤ b) = true := by simp; omega
    have q3 : decide (b ≤ 90) = false := by simp; omega
    have q5 : (b == 95) = false := by simp; omega
    clear e h
    go_enter Tryd.func15, Tryd.ntmps15
    go_wp2
    go_ret
    exact ⟨rfl, rfl⟩
  · have e : letterB b = true := by unfold letterB; simp; omega
    rw [e]
    have q0 : decide (97 ≤ b) = true := by simp; omega
    have q1 : decide (b ≤ 122) = true := by simp; omega
    have q2 : decide (65 ≤ b) = true := by simp; omega
    have q3 : decide (b ≤ 90) = false := by simp; omega
    clear e h
    go_enter Tryd.func15, Tryd.ntmps15
    go_wp2
    go_ret
    exact ⟨rfl, rfl⟩
  · have e : letterB b = false := by unfold letterB; simp; omega
    rw [e]
    have q0 : decide (97 ≤ b) = true := by simp; omega
    have q1 : decide (b ≤ 122) = false := by simp; omega
    have q2 : decide (65 ≤ b) = true := by simp; omega
    have q3 : decide (b ≤ 90) = false := by simp; omega
    have q5 : (b == 95) = false := by simp; omega
    clear e h
    go_enter Tryd.func15, Tryd.ntmps15
    go_wp2
    go_ret
    exact ⟨rfl, rfl⟩
/-- A digit's value as the document tells it. -/
def hexI (b : Int) : Int := if digitB b = true then b - 48 else if 97 ≤ b ∧ b ≤ 102 then b - 87 else if 65 ≤ b ∧ b ≤ 70 then b - 55 else -1
theorem hexI_fin : ∀ b : Fin 256, hexI ((b.val : Nat) : Int) = ((hexD ((b.val : Nat) : Int)).map (fun d => (d : Int))).getD (-1) := by decide +kernel
theorem hexI_is (b : Int) (h0 : 0 ≤ b) (h1 : b ≤ 255) : hexI b = ((hexD b).map (fun d => (d : Int))).getD (-1) := by
  have := hexI_fin ⟨b.toNat, by omega⟩
  simpa [Int.toNat_of_nonneg h0] using this
set_option maxHeartbeats 2000000 in
theorem hex_any (b : Int) (h0 : 0 ≤ b) (h1 : b ≤ 255) (w : World) : Calls Tryd.prog 25 #[.int .u8 b] w fun e w' => e = .returned (.int .i64 (hexI b)) ∧ w' = w := by
  have HD : Hid (∀ w, Calls Tryd.prog 16 #[.int .u8 b] w fun e w' => e = .returned (.bool (digitB b)) ∧ w' = w) := fun w => rdigit_any b w
  by_cases hd : digitB b = true
  · have e : hexI b = b - 48 := by rw [hexI, if_pos hd]
    have hb : 48 ≤ b ∧ b ≤ 57 := by unfold digitB at hd; simpa using hd
    have w1 : IntKind.u8.wrap (b - 48) = b - 48 := by rw [IntKind.wrap_u8]; omega
    rw [e]
    rw [hd] at HD
    clear e hd
    go_enter Tryd.func25, Tryd.ntmps25
    go_wp2_with (go_at_call 16; refine (HD.out _).mono ?_; rintro e w' ⟨rfl, rfl⟩)
    go_ret
    exact ⟨by first | rfl | (simp; omega), rfl⟩
  · have hd' : digitB b = false := by simpa using hd
    rw [hd'] at HD
    by_cases ha : 97 ≤ b ∧ b ≤ 102
    · have e : hexI b = b - 97 + 10 := by rw [hexI, if_neg hd, if_pos ha]; omega
      have q1 : decide (97 ≤ b) = true := by simp; omega
      have q2 : decide (b ≤ 102) = true := by simp; omega
      have w1 : IntKind.u8.wrap (b - 97) = b - 97 := by rw [IntKind.wrap_u8]; omega
      have w2 : IntKind.i64.wrap (b - 97) = b - 97 := by rw [IntKind.wrap_i64]; omega
      have w3 : IntKind.i64.wrap (b - 97 + 10) = b - 97 + 10 := by rw [IntKind.wrap_i64]; omega
      rw [e]
      clear e hd hd' ha
      go_enter Tryd.func25, Tryd.ntmps25
      go_wp2_with (go_at_call 16; refine (HD.out _).mono ?_; rintro e w' ⟨rfl, rfl⟩)
      go_ret
      exact ⟨by first | rfl | (simp; omega), rfl⟩
    · by_cases hc : 65 ≤ b ∧ b ≤ 70
      · have e : hexI b = b - 65 + 10 := by rw [hexI, if_neg hd, if_neg ha, if_pos hc]; omega
        have q1 : decide (97 ≤ b) = false := by simp; omega
        have q3 : decide (65 ≤ b) = true := by simp; omega
        have q4 : decide (b ≤ 70) = true := by simp; omega
        have w1 : IntKind.u8.wrap (b - 65) = b - 65 := by rw [IntKind.wrap_u8]; omega
        have w2 : IntKind.i64.wrap (b - 65) = b - 65 := by rw [IntKind.wrap_i64]; omega
        have w3 : IntKind.i64.wrap (b - 65 + 10) = b - 65 + 10 := by rw [IntKind.wrap_i64]; omega
        rw [e]
        clear e hd hd' ha hc
        go_enter Tryd.func25, Tryd.ntmps25
        go_wp2_with (go_at_call 16; refine (HD.out _).mono ?_; rintro e w' ⟨rfl, rfl⟩)
        go_ret
        exact ⟨by first | rfl | (simp; omega), rfl⟩
      · have e : hexI b = -1 := by rw [hexI, if_neg hd, if_neg ha, if_neg hc]
        rw [e]
        have q1 : (decide (97 ≤ b) && decide (b ≤ 102)) = false := by simp; omega
        have q2 : (decide (65 ≤ b) && decide (b ≤ 70)) = false := by simp; omega
        clear e hd hd'
        by_cases a1 : 97 ≤ b
        · have r1 : decide (97 ≤ b) = true := by simp; omega
          have r2 : decide (b ≤ 102) = false := by simp; omega
          have r3 : decide (65 ≤ b) = true := by simp; omega
          have r4 : decide (b ≤ 70) = false := by simp; omega
          clear q1 q2 ha hc
          go_enter Tryd.func25, Tryd.ntmps25
          go_wp2_with (go_at_call 16; refine (HD.out _).mono ?_; rintro e w' ⟨rfl, rfl⟩)
          go_ret
          exact ⟨rfl, rfl⟩
        · have r1 : decide (97 ≤ b) = false := by simp; omega
          by_cases a3 : 65 ≤ b
          · have r3 : decide (65 ≤ b) = true := by simp; omega
            have r4 : decide (b ≤ 70) = false := by simp; omega
            clear q1 q2 ha hc
            go_enter Tryd.func25, Tryd.ntmps25
            go_wp2_with (go_at_call 16; refine (HD.out _).mono ?_; rintro e w' ⟨rfl, rfl⟩)
            go_ret
            exact ⟨rfl, rfl⟩
          · have r3 : decide (65 ≤ b) = false := by simp; omega
            clear q1 q2 ha hc
            go_enter Tryd.func25, Tryd.ntmps25
            go_wp2_with (go_at_call 16; refine (HD.out _).mono ?_; rintro e w' ⟨rfl, rfl⟩)
            go_ret
            exact ⟨rfl, rfl⟩
set_option maxHeartbeats 2000000 in
theorem key_any (s : ByteArray) (w : World) : Calls Tryd.prog 18 #[.string s] w (retP (.bool (isKw s)) w) := by
  have hg : ∀ (i : Nat) (hi : i < kwList.length), (w.alloc (.cells #[.string ⟨#[99, 104, 97, 114]⟩, .string ⟨#[105, 110, 116]⟩, .string ⟨#[108, 111, 110, 103]⟩, .string ⟨#[118, 111, 105, 100]⟩, .string ⟨#[115, 116, 114, 117, 99, 116]⟩, .string ⟨#[112, 117, 98, 108, 105, 99]⟩, .string ⟨#[105, 102]⟩, .string ⟨#[101, 108, 115, 101]⟩, .string ⟨#[119, 104, 105, 108, 101]⟩, .string ⟨#[98, 114, 101, 97, 107]⟩, .string ⟨#[99, 111, 110, 116, 105, 110, 117, 101]⟩, .string ⟨#[114, 101, 116, 117, 114, 110]⟩, .string ⟨#[115, 105, 122, 101, 111, 102]⟩, .string ⟨#[105, 110]⟩, .string ⟨#[111, 117, 116]⟩] 9)).cell? ⟨w.heap.size, i, none⟩ = some (.string kwList[i]) := fun i hi => by
    refine heap_cell (World.alloc_heap_new w (.cells #[.string ⟨#[99, 104, 97, 114]⟩, .string ⟨#[105, 110, 116]⟩, .string ⟨#[108, 111, 110, 103]⟩, .string ⟨#[118, 111, 105, 100]⟩, .string ⟨#[115, 116, 114, 117, 99, 116]⟩, .string ⟨#[112, 117, 98, 108, 105, 99]⟩, .string ⟨#[105, 102]⟩, .string ⟨#[101, 108, 115, 101]⟩, .string ⟨#[119, 104, 105, 108, 101]⟩, .string ⟨#[98, 114, 101, 97, 107]⟩, .string ⟨#[99, 111, 110, 116, 105, 110, 117, 101]⟩, .string ⟨#[114, 101, 116, 117, 114, 110]⟩, .string ⟨#[115, 105, 122, 101, 111, 102]⟩, .string ⟨#[105, 110]⟩, .string ⟨#[111, 117, 116]⟩] 9)) ?_
    have e : (#[.string ⟨#[0]⟩] : Array Value).size = 1 := rfl
    have hk : kwList.map Value.string = [.string ⟨#[99, 104, 97, 114]⟩, .string ⟨#[105, 110, 116]⟩, .string ⟨#[108, 111, 110, 103]⟩, .string ⟨#[118, 111, 105, 100]⟩, .string ⟨#[115, 116, 114, 117, 99, 116]⟩, .string ⟨#[112, 117, 98, 108, 105, 99]⟩, .string ⟨#[105, 102]⟩, .string ⟨#[101, 108, 115, 101]⟩, .string ⟨#[119, 104, 105, 108, 101]⟩, .string ⟨#[98, 114, 101, 97, 107]⟩, .string ⟨#[99, 111, 110, 116, 105, 110, 117, 101]⟩, .string ⟨#[114, 101, 116, 117, 114, 110]⟩, .string ⟨#[115, 105, 122, 101, 111, 102]⟩, .string ⟨#[105, 110]⟩, .string ⟨#[111, 117, 116]⟩] := rfl
    have := congrArg (fun l => l[i]?) hk
    simp only [List.getElem?_map, List.getElem?_eq_getElem hi, Option.map_some] at this
    rw [List.getElem?_toArray]
    exact this.symm
  have HG : Hid (∀ (i : Nat) (hi : i < kwList.length), (w.alloc (.cells #[.string ⟨#[99, 104, 97, 114]⟩, .string ⟨#[105, 110, 116]⟩, .string ⟨#[108, 111, 110, 103]⟩, .string ⟨#[118, 111, 105, 100]⟩, .string ⟨#[115, 116, 114, 117, 99, 116]⟩, .string ⟨#[112, 117, 98, 108, 105, 99]⟩, .string ⟨#[105, 102]⟩, .string ⟨#[101, 108, 115, 101]⟩, .string ⟨#[119, 104, 105, 108, 101]⟩, .string ⟨#[98, 114, 101, 97, 107]⟩, .string ⟨#[99, 111, 110, 116, 105, 110, 117, 101]⟩, .string ⟨#[114, 101, 116, 117, 114, 110]⟩, .string ⟨#[115, 105, 122, 101, 111, 102]⟩, .string ⟨#[105, 110]⟩, .string ⟨#[111, 117, 116]⟩] 9)).cell? ⟨w.heap.size, i, none⟩ = some (.string kwList[i])) := hg
  have HB : Hid (Below w.heap.size w (w.alloc (.cells #[.string ⟨#[99, 104, 97, 114]⟩, .string ⟨#[105, 110, 116]⟩, .string ⟨#[108, 111, 110, 103]⟩, .string ⟨#[118, 111, 105, 100]⟩, .string ⟨#[115, 116, 114, 117, 99, 116]⟩, .string ⟨#[112, 117, 98, 108, 105, 99]⟩, .string ⟨#[105, 102]⟩, .string ⟨#[101, 108, 115, 101]⟩, .string ⟨#[119, 104, 105, 108, 101]⟩, .string ⟨#[98, 114, 101, 97, 107]⟩, .string ⟨#[99, 111, 110, 116, 105, 110, 117, 101]⟩, .string ⟨#[114, 101, 116, 117, 114, 110]⟩, .string ⟨#[115, 105, 122, 101, 111, 102]⟩, .string ⟨#[105, 110]⟩, .string ⟨#[111, 117, 116]⟩] 9))) := (Below.refl _ _).alloc (Nat.le_refl _) _
  clear hg
  go_enter Tryd.func18, Tryd.ntmps18
  go_wp2
  obtain ⟨W0, hW0⟩ : ∃ W0, w.alloc (.cells #[.string ⟨#[99, 104, 97, 114]⟩, .string ⟨#[105, 110, 116]⟩, .string ⟨#[108, 111, 110, 103]⟩, .string ⟨#[118, 111, 105, 100]⟩, .string ⟨#[115, 116, 114, 117, 99, 116]⟩, .string ⟨#[112, 117, 98, 108, 105, 99]⟩, .string ⟨#[105, 102]⟩, .string ⟨#[101, 108, 115, 101]⟩, .string ⟨#[119, 104, 105, 108, 101]⟩, .string ⟨#[98, 114, 101, 97, 107]⟩, .string ⟨#[99, 111, 110, 116, 105, 110, 117, 101]⟩, .string ⟨#[114, 101, 116, 117, 114, 110]⟩, .string ⟨#[115, 105, 122, 101, 111, 102]⟩, .string ⟨#[105, 110]⟩, .string ⟨#[111, 117, 116]⟩] 9) = W0 := ⟨_, rfl⟩
  rw [hW0] at HG HB ⊢
  clear hW0
  go_loopw [4] (fun v wr => ∃ i : Nat, i ≤ 15 ∧ v = .int .i64 i ∧ Hid (∀ (j : Nat) (hj : j < kwList.length), j < i → (kwList[j].toList == s.toList) = false) ∧ wr = W0) (fun v _ => 15 - (intOf v).toNat)
  case atStart => exact ⟨0, by omega, rfl, fun j hj h => absurd h (by omega), rfl⟩
  case round =>
    obtain ⟨i, hi, rfl, HK, rfl⟩ := hrel
    by_cases hin : i < 15
    · have i0 : (0 : Int) ≤ i := by omega
      have i1 : (i : Int) < 15 := by omega
      obtain ⟨kk, hkk⟩ : ∃ kk, kwList[i]'hin = kk := ⟨_, rfl⟩
      have ix := HG.out i hin
      rw [hkk] at ix
      have HKK : Hid (kwList[i]'hin = kk) := hkk
      clear hkk
      by_cases he : (kk.toList == s.toList) = true
      · have HE : Hid (isKw s = true) := by
          show isKw s = true
          unfold isKw
          rw [List.any_eq_true]
          exact ⟨kk, by rw [← HKK.out]; exact List.getElem_mem _, he⟩
        go_wp2
        go_ret
        exact ⟨by rw [HE.out]; rfl, HB.out⟩
      · have he' : (kk.toList == s.toList) = false := by simpa using he
        have HN : Hid (∀ (j : Nat) (hj : j < kwList.length), j < i + 1 → (kwList[j].toList == s.toList) = false) := fun j hj h => by
          by_cases e : j = i
          · subst e
            rw [show kwList[j] = kk from HKK.out]
            exact he'
          · exact HK.out j hj (by omega)
        clear he
        go_wp2
        go_roundw
        case rel => exact ⟨i + 1, by omega, by simp, HN, by first | rfl | trivial⟩
        case measure => simp [intOf]; omega
    · have hie : i = 15 := by omega
      subst hie
      have HE : Hid (isKw s = false) := by
        show isKw s = false
        unfold isKw
        rw [List.any_eq_false]
        intro k hk
        obtain ⟨j, hj, rfl⟩ := List.getElem_of_mem hk
        have := HK.out j hj hj
        simpa using this
      go_wp2
      go_ret
      exact ⟨by rw [HE.out]; rfl, HB.out⟩
end Go.Proofs.YtkbihcicnffjdaaDoor
