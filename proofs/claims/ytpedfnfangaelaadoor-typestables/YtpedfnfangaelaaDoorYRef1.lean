/- The document's own answer for types: contracts of Named, Pointer, find. -/
import Derived.Test.YtpedfnfangaelaaDoorYMath
namespace Go.Proofs.YtpedfnfangaelaaDoor
open Go.ChangeShapes Go.WideShapes Go.ChangeAt Go.RowKit
set_option linter.unusedSimpArgs false
set_option linter.unusedVariables false

/-- May this byte stand at that place of a name? -/
def okAt (i : Nat) (b : Int) : Bool := letterB b || (decide (0 < (i : Int)) && digitB b)
theorem nameS_ok (s : ByteArray) : nameS s = (decide (∀ i, i < s.size → okAt i (byteAt s i) = true) && (decide ((1 : Int) ≤ s.size) && decide ((s.size : Int) ≤ 40))) := by
  rw [Bool.eq_iff_iff]
  simp only [nameS, Bool.and_eq_true, decide_eq_true_eq, all_byteAt nbB s, Bool.not_eq_true', beq_eq_false_iff_ne]
  constructor
  · rintro ⟨h0, h1, h2, h3⟩
    refine ⟨fun i hi => ?_, by omega, by omega⟩
    have h4 := h3 i hi
    unfold nbB at h4
    unfold okAt
    cases hd : digitB (byteAt s i)
    · rw [hd] at h4; simpa using h4
    · have hi0 : i ≠ 0 := fun e => by rw [e, h2] at hd; cases hd
      have : decide (0 < (i : Int)) = true := by simp; omega
      rw [this]; simp
  · rintro ⟨h0, h1, h2⟩
    have hz := h0 0 (by omega)
    have hd0 : digitB (byteAt s 0) = false := by
      unfold okAt at hz
      simp only [Int.natCast_zero, Int.lt_irrefl, decide_false, Bool.false_and, Bool.or_false] at hz
      unfold letterB at hz
      unfold digitB
      simp at hz ⊢
      omega
    refine ⟨by omega, by omega, hd0, fun i hi => ?_⟩
    have := h0 i hi
    unfold okAt at this
    unfold nbB
    simp only [Bool.or_eq_true, Bool.and_eq_true] at this ⊢
    rcases this with h | h
    · exact .inr h
    · exact .inl h.2
theorem byte_cases (b : Int) : b < 48 ∨ (48 ≤ b ∧ b ≤ 57) ∨ (58 ≤ b ∧ b ≤ 64) ∨ (65 ≤ b ∧ b ≤ 90) ∨ b = 95 ∨ (91 ≤ b ∧ b ≤ 96 ∧ b ≠ 95) ∨ (97 ≤ b ∧ b ≤ 122) ∨ 122 < b := by omega

set_option maxHeartbeats 8000000 in
theorem rNamed_any (s : ByteArray) (ht : (s.size : Int) ≤ 4611686018427387904) (w : World) : Calls Tryd.prog 34 #[.string s] w fun e w' => e = .returned (.bool (nameS s)) ∧ w' = w := by
  obtain ⟨r, hr⟩ : ∃ r, nameS s = r := ⟨_, rfl⟩
  have HE : Hid (r = (decide (∀ i, i < s.size → okAt i (byteAt s i) = true) && (decide ((1 : Int) ≤ s.size) && decide ((s.size : Int) ≤ 40)))) := hr ▸ nameS_ok s
  rw [hr]
  clear hr
  go_enter Tryd.func34, Tryd.ntmps34
  go_wp2
  go_loopw [3] (fun v wr => ∃ i : Nat, i ≤ s.size ∧ v = .int .i64 i ∧ Hid (∀ j, j < i → okAt j (byteAt s j) = true) ∧ wr = w) (fun v _ => s.size - (intOf v).toNat)
  case atStart => exact ⟨0, by omega, rfl, fun j hj => by omega, rfl⟩
  case round =>
    obtain ⟨i, hi, rfl, HA, rfl⟩ := hrel
    by_cases hin : i < s.size
    · have i0 : (0 : Int) ≤ i := by omega
      have i1 : (i : Int) < s.size := by omega
      have ix := index_byte s i hin
      have HA2 : Hid (okAt i (byteAt s i) = true → Hid (∀ j, j < i + 1 → okAt j (byteAt s j) = true)) := fun hb j hj => by
        by_cases e : j = i
        · rw [e]; exact hb
        · exact HA.out j (by omega)
      have HBAD : Hid (okAt i (byteAt s i) = false → r = false) := fun hb => by
        rw [HE.out, Bool.and_eq_false_iff]
        left
        rw [decide_eq_false_iff_not]
        intro h
        rw [h i hin] at hb
        cases hb
      generalize byteAt s i = b at *
      rcases byte_cases b with h | h | h | h | h | h | h | h
      · have q0 : decide (97 ≤ b) = false := by simp; omega
        have q1 : decide (b ≤ 122) = true := by simp; omega
        have q2 : decide (65 ≤ b) = false := by simp; omega
        have q3 : decide (b ≤ 90) = true := by simp; omega
        have q4 : decide (48 ≤ b) = false := by simp; omega
        have q5 : decide (b ≤ 57) = true := by simp; omega
        have q6 : (b == 95) = false := by simp; omega
        by_cases hi0 : (0 : Int) < (i : Int)
        · have q7 : decide ((0 : Int) < (i : Int)) = true := by simpa using hi0
          have q7n : decide (0 < i) = true := by simp; omega
          have hok : okAt i b = false := by simp only [okAt, letterB, digitB, q0, q1, q2, q3, q4, q5, q6, q7]; rfl
          clear h hi0
          have hr : r = false := HBAD.out hok
          subst hr
          go_wp2
          go_ret
          exact ⟨rfl, rfl⟩
        · have q7 : decide ((0 : Int) < (i : Int)) = false := by simpa using hi0
          have q7n : decide (0 < i) = false := by simp; omega
          have hok : okAt i b = false := by simp only [okAt, letterB, digitB, q0, q1, q2, q3, q4, q5, q6, q7]; rfl
          clear h hi0
          have hr : r = false := HBAD.out hok
          subst hr
          go_wp2
          go_ret
          exact ⟨rfl, rfl⟩
      · have q0 : decide (97 ≤ b) = false := by simp; omega
        have q1 : decide (b ≤ 122) = true := by simp; omega
        have q2 : decide (65 ≤ b) = false := by simp; omega
        have q3 : decide (b ≤ 90) = true := by simp; omega
        have q4 : decide (48 ≤ b) = true := by simp; omega
        have q5 : decide (b ≤ 57) = true := by simp; omega
        have q6 : (b == 95) = false := by simp; omega
        by_cases hi0 : (0 : Int) < (i : Int)
        · have q7 : decide ((0 : Int) < (i : Int)) = true := by simpa using hi0
          have q7n : decide (0 < i) = true := by simp; omega
          have hok : okAt i b = true := by simp only [okAt, letterB, digitB, q0, q1, q2, q3, q4, q5, q6, q7]; rfl
          clear h hi0
          go_wp2
          go_roundw
          case rel => exact ⟨i + 1, by omega, by simp, HA2.out hok, trivial⟩
          case measure => simp [intOf]; omega
        · have q7 : decide ((0 : Int) < (i : Int)) = false := by simpa using hi0
          have q7n : decide (0 < i) = false := by simp; omega
          have hok : okAt i b = false := by simp only [okAt, letterB, digitB, q0, q1, q2, q3, q4, q5, q6, q7]; rfl
          clear h hi0
          have hr : r = false := HBAD.out hok
          subst hr
          go_wp2
          go_ret
          exact ⟨rfl, rfl⟩
      · have q0 : decide (97 ≤ b) = false := by simp; omega
        have q1 : decide (b ≤ 122) = true := by simp; omega
        have q2 : decide (65 ≤ b) = false := by simp; omega
        have q3 : decide (b ≤ 90) = true := by simp; omega
        have q4 : decide (48 ≤ b) = true := by simp; omega
        have q5 : decide (b ≤ 57) = false := by simp; omega
        have q6 : (b == 95) = false := by simp; omega
        by_cases hi0 : (0 : Int) < (i : Int)
        · have q7 : decide ((0 : Int) < (i : Int)) = true := by simpa using hi0
          have q7n : decide (0 < i) = true := by simp; omega
          have hok : okAt i b = false := by simp only [okAt, letterB, digitB, q0, q1, q2, q3, q4, q5, q6, q7]; rfl
          clear h hi0
          have hr : r = false := HBAD.out hok
          subst hr
          go_wp2
          go_ret
          exact ⟨rfl, rfl⟩
        · have q7 : decide ((0 : Int) < (i : Int)) = false := by simpa using hi0
          have q7n : decide (0 < i) = false := by simp; omega
          have hok : okAt i b = false := by simp only [okAt, letterB, digitB, q0, q1, q2, q3, q4, q5, q6, q7]; rfl
          clear h hi0
          have hr : r = false := HBAD.out hok
          subst hr
          go_wp2
          go_ret
          exact ⟨rfl, rfl⟩
      · have q0 : decide (97 ≤ b) = false := by simp; omega
        have q1 : decide (b ≤ 122) = true := by simp; omega
        have q2 : decide (65 ≤ b) = true := by simp; omega
        have q3 : decide (b ≤ 90) = true := by simp; omega
        have q4 : decide (48 ≤ b) = true := by simp; omega
        have q5 : decide (b ≤ 57) = false := by simp; omega
        have q6 : (b == 95) = false := by simp; omega
        by_cases hi0 : (0 : Int) < (i : Int)
        · have q7 : decide ((0 : Int) < (i : Int)) = true := by simpa using hi0
          have q7n : decide (0 < i) = true := by simp; omega
          have hok : okAt i b = true := by simp only [okAt, letterB, digitB, q0, q1, q2, q3, q4, q5, q6, q7]; rfl
          clear h hi0
          go_wp2
          go_roundw
          case rel => exact ⟨i + 1, by omega, by simp, HA2.out hok, trivial⟩
          case measure => simp [intOf]; omega
        · have q7 : decide ((0 : Int) < (i : Int)) = false := by simpa using hi0
          have q7n : decide (0 < i) = false := by simp; omega
          have hok : okAt i b = true := by simp only [okAt, letterB, digitB, q0, q1, q2, q3, q4, q5, q6, q7]; rfl
          clear h hi0
          go_wp2
          go_roundw
          case rel => exact ⟨i + 1, by omega, by simp, HA2.out hok, trivial⟩
          case measure => simp [intOf]; omega
      · have q0 : decide (97 ≤ b) = false := by simp; omega
        have q1 : decide (b ≤ 122) = true := by simp; omega
        have q2 : decide (65 ≤ b) = true := by simp; omega
        have q3 : decide (b ≤ 90) = false := by simp; omega
        have q4 : decide (48 ≤ b) = true := by simp; omega
        have q5 : decide (b ≤ 57) = false := by simp; omega
        have q6 : (b == 95) = true := by simp; omega
        by_cases hi0 : (0 : Int) < (i : Int)
        · have q7 : decide ((0 : Int) < (i : Int)) = true := by simpa using hi0
          have q7n : decide (0 < i) = true := by simp; omega
          have hok : okAt i b = true := by simp only [okAt, letterB, digitB, q0, q1, q2, q3, q4, q5, q6, q7]; rfl
          clear h hi0
          go_wp2
          go_roundw
          case rel => exact ⟨i + 1, by omega, by simp, HA2.out hok, trivial⟩
          case measure => simp [intOf]; omega
        · have q7 : decide ((0 : Int) < (i : Int)) = false := by simpa using hi0
          have q7n : decide (0 < i) = false := by simp; omega
          have hok : okAt i b = true := by simp only [okAt, letterB, digitB, q0, q1, q2, q3, q4, q5, q6, q7]; rfl
          clear h hi0
          go_wp2
          go_roundw
          case rel => exact ⟨i + 1, by omega, by simp, HA2.out hok, trivial⟩
          case measure => simp [intOf]; omega
      · have q0 : decide (97 ≤ b) = false := by simp; omega
        have q1 : decide (b ≤ 122) = true := by simp; omega
        have q2 : decide (65 ≤ b) = true := by simp; omega
        have q3 : decide (b ≤ 90) = false := by simp; omega
        have q4 : decide (48 ≤ b) = true := by simp; omega
        have q5 : decide (b ≤ 57) = false := by simp; omega
        have q6 : (b == 95) = false := by simp; omega
        by_cases hi0 : (0 : Int) < (i : Int)
        · have q7 : decide ((0 : Int) < (i : Int)) = true := by simpa using hi0
          have q7n : decide (0 < i) = true := by simp; omega
          have hok : okAt i b = false := by simp only [okAt, letterB, digitB, q0, q1, q2, q3, q4, q5, q6, q7]; rfl
          clear h hi0
          have hr : r = false := HBAD.out hok
          subst hr
          go_wp2
          go_ret
          exact ⟨rfl, rfl⟩
        · have q7 : decide ((0 : Int) < (i : Int)) = false := by simpa using hi0
          have q7n : decide (0 < i) = false := by simp; omega
          have hok : okAt i b = false := by simp only [okAt, letterB, digitB, q0, q1, q2, q3, q4, q5, q6, q7]; rfl
          clear h hi0
          have hr : r = false := HBAD.out hok
          subst hr
          go_wp2
          go_ret
          exact ⟨rfl, rfl⟩
      · have q0 : decide (97 ≤ b) = true := by simp; omega
        have q1 : decide (b ≤ 122) = true := by simp; omega
        have q2 : decide (65 ≤ b) = true := by simp; omega
        have q3 : decide (b ≤ 90) = false := by simp; omega
        have q4 : decide (48 ≤ b) = true := by simp; omega
        have q5 : decide (b ≤ 57) = false := by simp; omega
        have q6 : (b == 95) = false := by simp; omega
        by_cases hi0 : (0 : Int) < (i : Int)
        · have q7 : decide ((0 : Int) < (i : Int)) = true := by simpa using hi0
          have q7n : decide (0 < i) = true := by simp; omega
          have hok : okAt i b = true := by simp only [okAt, letterB, digitB, q0, q1, q2, q3, q4, q5, q6, q7]; rfl
          clear h hi0
          go_wp2
          go_roundw
          case rel => exact ⟨i + 1, by omega, by simp, HA2.out hok, trivial⟩
          case measure => simp [intOf]; omega
        · have q7 : decide ((0 : Int) < (i : Int)) = false := by simpa using hi0
          have q7n : decide (0 < i) = false := by simp; omega
          have hok : okAt i b = true := by simp only [okAt, letterB, digitB, q0, q1, q2, q3, q4, q5, q6, q7]; rfl
          clear h hi0
          go_wp2
          go_roundw
          case rel => exact ⟨i + 1, by omega, by simp, HA2.out hok, trivial⟩
          case measure => simp [intOf]; omega
      · have q0 : decide (97 ≤ b) = true := by simp; omega
        have q1 : decide (b ≤ 122) = false := by simp; omega
        have q2 : decide (65 ≤ b) = true := by simp; omega
        have q3 : decide (b ≤ 90) = false := by simp; omega
        have q4 : decide (48 ≤ b) = true := by simp; omega
        have q5 : decide (b ≤ 57) = false := by simp; omega
        have q6 : (b == 95) = false := by simp; omega
        by_cases hi0 : (0 : Int) < (i : Int)
        · have q7 : decide ((0 : Int) < (i : Int)) = true := by simpa using hi0
          have q7n : decide (0 < i) = true := by simp; omega
          have hok : okAt i b = false := by simp only [okAt, letterB, digitB, q0, q1, q2, q3, q4, q5, q6, q7]; rfl
          clear h hi0
          have hr : r = false := HBAD.out hok
          subst hr
          go_wp2
          go_ret
          exact ⟨rfl, rfl⟩
        · have q7 : decide ((0 : Int) < (i : Int)) = false := by simpa using hi0
          have q7n : decide (0 < i) = false := by simp; omega
          have hok : okAt i b = false := by simp only [okAt, letterB, digitB, q0, q1, q2, q3, q4, q5, q6, q7]; rfl
          clear h hi0
          have hr : r = false := HBAD.out hok
          subst hr
          go_wp2
          go_ret
          exact ⟨rfl, rfl⟩
    · have hie : i = s.size := by omega
      subst hie
      have HR : Hid (r = (decide ((1 : Int) ≤ s.size) && decide ((s.size : Int) ≤ 40))) := by
        show _ = _
        rw [HE.out, decide_eq_true HA.out, Bool.true_and]
      clear HE
      by_cases h1 : (1 : Int) ≤ s.size
      · have q1 : decide ((1 : Int) ≤ s.size) = true := by simpa using h1
        have hr : r = decide ((s.size : Int) ≤ 40) := by rw [HR.out, q1, Bool.true_and]
        subst hr
        go_wp2
        go_ret
        exact ⟨rfl, rfl⟩
      · have q1 : decide ((1 : Int) ≤ s.size) = false := by simpa using h1
        have hr : r = false := by rw [HR.out, q1, Bool.false_and]
        subst hr
        go_wp2
        go_ret
        exact ⟨rfl, rfl⟩
/-- Does a text end with a star? -/
def starS (t : ByteArray) : Bool := decide (0 < (t.size : Int)) && byteAt t (t.size - 1) == 42
set_option maxHeartbeats 1000000 in
theorem rPointer_any (t : ByteArray) (ht : (t.size : Int) ≤ 4611686018427387904) (w : World) : Calls Tryd.prog 21 #[.string t] w fun e w' => e = .returned (.bool (starS t)) ∧ w' = w := by
  unfold starS
  by_cases h0 : 0 < (t.size : Int)
  · have q0 : decide (0 < (t.size : Int)) = true := by simpa using h0
    have q0n : 0 < t.size := by omega
    rw [q0, Bool.true_and]
    obtain ⟨k, hk⟩ : ∃ k, t.size = k + 1 := ⟨t.size - 1, by omega⟩
    have ix : ∀ w, (Instr.index 9 (.string t) (.int .i64 ((t.size : Int) - 1))).run Tryd.prog w = .ok (.int .u8 (byteAt t k)) w := fun w => by
      have := index_byte t k (by omega) w
      rw [show ((k : Nat) : Int) = (t.size : Int) - 1 by omega] at this
      exact this
    have e : t.size - 1 = k := by omega
    rw [e]
    clear hk e h0
    go_enter Tryd.func21, Tryd.ntmps21
    go_wp2
    go_ret
    exact ⟨rfl, rfl⟩
  · have q0 : decide (0 < (t.size : Int)) = false := by simpa using h0
    rw [q0, Bool.false_and]
    go_enter Tryd.func21, Tryd.ntmps21
    go_wp2
    go_ret
    exact ⟨rfl, rfl⟩
/-- The document's structs in memory. -/
def RFdAt (w : World) (v : Value) (l : List Fd) : Prop := ∃ (a : Option Addr) (cap : Nat), v = .slice a l.length cap ∧ (l.length : Int) ≤ 4611686018427387904 ∧ (l ≠ [] → ∃ b off : Nat, a = some ⟨b, off, none⟩ ∧ ∀ (i : Nat) (x : Fd), l[i]? = some x → w.cell? ⟨b, off + i * 3, none⟩ = some (.string x.typ) ∧ w.cell? ⟨b, off + i * 3 + 1, none⟩ = some (.string x.name) ∧ w.cell? ⟨b, off + i * 3 + 2, none⟩ = some (.bool false))
def RStAt (w : World) (v : Value) (l : List St) : Prop := ∃ (a : Option Addr) (cap : Nat), v = .slice a l.length cap ∧ (l.length : Int) ≤ 4611686018427387904 ∧ (l ≠ [] → ∃ b off : Nat, a = some ⟨b, off, none⟩ ∧ ∀ (i : Nat) (x : St), l[i]? = some x → w.cell? ⟨b, off + i * 2, none⟩ = some (.string x.name) ∧ ∃ fv, w.cell? ⟨b, off + i * 2 + 1, none⟩ = some fv ∧ RFdAt w fv x.fields)
theorem RFdAt.keep {w w' : World} {v : Value} {l : List Fd} (h : RFdAt w v l) (hb : Below w.heap.size w w') : RFdAt w' v l := by
  obtain ⟨a, cap, hv, h1, h2⟩ := h
  refine ⟨a, cap, hv, h1, fun hl => ?_⟩
  obtain ⟨b, off, e, hc⟩ := h2 hl
  exact ⟨b, off, e, fun i x hx => ⟨keep_cell hb (hc i x hx).1, keep_cell hb (hc i x hx).2.1, keep_cell hb (hc i x hx).2.2⟩⟩
theorem RStAt.keep {w w' : World} {v : Value} {l : List St} (h : RStAt w v l) (hb : Below w.heap.size w w') : RStAt w' v l := by
  obtain ⟨a, cap, hv, h1, h2⟩ := h
  refine ⟨a, cap, hv, h1, fun hl => ?_⟩
  obtain ⟨b, off, e, hc⟩ := h2 hl
  refine ⟨b, off, e, fun i x hx => ?_⟩
  obtain ⟨c1, fv, c2, c3⟩ := hc i x hx
  exact ⟨keep_cell hb c1, fv, keep_cell hb c2, c3.keep hb⟩
def ixI (o : Option Nat) : Int := match o with
  | none => -1
  | some j => (j : Int)
theorem ixOf_take {l : List ByteArray} {s : ByteArray} {i : Nat} {x : ByteArray} (hx : l[i]? = some x) (h : ∀ j y, j < i → l[j]? = some y → y ≠ s) (e : x = s) : ixOf l s = some i := by
  unfold ixOf
  rw [List.findIdx?_eq_some_iff_getElem]
  obtain ⟨hi, rfl⟩ := List.getElem?_eq_some_iff.1 hx
  refine ⟨hi, by simpa using e, fun j hj => ?_⟩
  have := h j _ hj (List.getElem?_eq_getElem (by omega))
  simpa using this
set_option maxHeartbeats 2000000 in
theorem rFind_any (v : Value) (l : List St) (s : ByteArray) (w : World) (h : RStAt w v l) : Calls Tryd.prog 35 #[v, .string s] w fun e w' => e = .returned (.int .i64 (ixI (ixOf (namesOf l) s))) ∧ w' = w := by
  obtain ⟨a, cap, rfl, hll, hlc⟩ := h
  have HF : Hid (l ≠ [] → ∃ b off : Nat, a = some ⟨b, off, none⟩ ∧ ∀ (i : Nat) (x : St), l[i]? = some x → w.cell? ⟨b, off + i * 2, none⟩ = some (.string x.name) ∧ ∃ fv, w.cell? ⟨b, off + i * 2 + 1, none⟩ = some fv ∧ RFdAt w fv x.fields) := hlc
  clear hlc
  obtain ⟨n, hn⟩ : ∃ n, l.length = n := ⟨_, rfl⟩
  have HNL : Hid (l.length = n) := hn
  rw [hn] at hll ⊢
  clear hn
  obtain ⟨r, hr⟩ : ∃ r, ixI (ixOf (namesOf l) s) = r := ⟨_, rfl⟩
  have HR : Hid (ixI (ixOf (namesOf l) s) = r) := hr
  rw [hr]
  clear hr
  go_enter Tryd.func35, Tryd.ntmps35
  go_wp2
  go_loopw [5] (fun v wr => ∃ i : Nat, i ≤ n ∧ v = .int .i64 i ∧ Hid (∀ j y, j < i → (namesOf l)[j]? = some y → y ≠ s) ∧ wr = w) (fun v _ => n - (intOf v).toNat)
  case atStart => exact ⟨0, by omega, rfl, fun j y hj => by omega, rfl⟩
  case round =>
    obtain ⟨i, hi, rfl, HA, rfl⟩ := hrel
    by_cases hin : i < n
    · have i0 : (0 : Int) ≤ i := by omega
      have i1 : (i : Int) < n := by omega
      have hfg := List.getElem?_eq_getElem (l := l) (i := i) (by rw [HNL.out]; exact hin)
      obtain ⟨f, hfe⟩ : ∃ f, l[i]'(by rw [HNL.out]; exact hin) = f := ⟨_, rfl⟩
      rw [hfe] at hfg
      clear hfe
      obtain ⟨b, off, rfl, hc⟩ := HF.out (fun e => by rw [e] at hfg; simp at hfg)
      have c0 := (hc i f hfg).1
      have HFG : Hid ((namesOf l)[i]? = some f.name) := by
        show _ = _
        unfold namesOf
        rw [List.getElem?_map, hfg]
        rfl
      clear hc hfg
      by_cases he : (f.name.toList == s.toList) = true
      · have hs : f.name = s := by
          rw [beq_iff_eq, ByteArray.toList_eq, ByteArray.toList_eq] at he
          exact ba_ext he
        have hr : (i : Int) = r := by
          rw [← HR.out, ixOf_take HFG.out HA.out hs]
          rfl
        subst hr
        clear HR hs
        go_wp2
        go_ret
        exact ⟨rfl, rfl⟩
      · have he' : (f.name.toList == s.toList) = false := by simpa using he
        have HA2 : Hid (∀ j y, j < i + 1 → (namesOf l)[j]? = some y → y ≠ s) := fun j y hj hy => by
          by_cases e : j = i
          · subst e
            rw [HFG.out] at hy
            cases hy
            rintro rfl
            exact he (by simp)
          · exact HA.out j y (by omega) hy
        clear he
        go_wp2
        go_roundw
        case rel => exact ⟨i + 1, by omega, by simp, HA2, trivial⟩
        case measure => simp [intOf]; omega
    · have hie : i = n := by omega
      subst hie
      have hr : (-1 : Int) = r := by
        rw [← HR.out]
        have : ixOf (namesOf l) s = none := by
          unfold ixOf
          rw [List.findIdx?_eq_none_iff]
          intro x hx
          obtain ⟨j, hj⟩ := List.mem_iff_getElem?.1 hx
          have hjl : j < i := by
            have := (List.getElem?_eq_some_iff.1 hj).1
            unfold namesOf at this
            rw [List.length_map, HNL.out] at this
            exact this
          simpa using HA.out j x hjl hj
        rw [this]
        rfl
      subst hr
      clear HR
      go_wp2
      go_ret
      exact ⟨rfl, rfl⟩
end Go.Proofs.YtpedfnfangaelaaDoor

