import Derived.Test.YtlonbaefdffbeaaGreatDoorLGaps
namespace Go.Proofs.YtlonbaefdffbeaaGreatDoor
open Go.ChangeShapes Go.WideShapes Go.ChangeAt Go.RowKit Go.Proofs.Tryz
set_option linter.unusedSimpArgs false
set_option linter.unusedVariables false
set_option maxRecDepth 100000
set_option maxHeartbeats 4000000

theorem nameRun_drop (l : List UInt8) : ∀ k, k ≤ l.length → (∀ j, j < k → ∃ b, l[j]? = some b ∧ nameB (b.toNat : Int) = true) → nameRun l = k + nameRun (l.drop k) := by
 induction l with
 | nil => intro k hk _; simp at hk; subst hk; simp
 | cons a l ih =>
  intro k hk h
  cases k with
  | zero => simp
  | succ k =>
   obtain ⟨b, hb, hn⟩ := h 0 (by omega);simp at hb;subst hb;have := ih k (by simpa using hk) (fun j hj => by have := h (j + 1) (by omega); simpa using this);simp only [nameRun, hn, if_true, List.drop_succ_cons]
   omega
theorem nameBytes_any (t : ByteArray) (w : World) (ht : (t.size : Int) ≤ 4611686018427387904) : Calls prog 85 #[.string t] w fun e w' => e = .returned (.int .i64 (nameRun t.data.toList)) ∧ w' = w := by
 have HT : Hid ((t.size : Int) ≤ 4611686018427387904) := ht;clear ht
 go_enter func85, ntmps85
 go_wp2
 go_loopw [3] (fun v wr => ∃ k : Nat, v = .int .i64 k ∧ Hid (k ≤ t.size ∧ ∀ j, j < k → ∃ b, t.data.toList[j]? = some b ∧ nameB (b.toNat : Int) = true) ∧ wr = w) (fun v _ => t.size - (intOf v).toNat)
 case atStart => exact ⟨0, rfl, ⟨Nat.zero_le _, fun j hj => absurd hj (by omega)⟩, rfl⟩
 case round =>
  obtain ⟨k, rfl, HK, rfl⟩ := hrel;have hkm : (k : Int) ≤ 4611686018427387904 := by have := HK.out.1; have := HT.out; omega
  by_cases hk : k < t.size
  ·have ix := index_byte t k hk
   have k0 : (0 : Int) ≤ (k : Int) := by omega
   have k1 : (k : Int) < (t.size : Int) := by omega
   have HKS : Hid (k < t.size) := hk
   have HG : Hid (∃ b, t.data.toList[k]? = some b ∧ byteAt t k = (b.toNat : Int)) := by
    have hl : k < t.data.toList.length := hk;refine ⟨_, List.getElem?_eq_getElem hl, ?_⟩;unfold byteAt;rw [List.getElem?_eq_getElem hl]
    rfl
   clear hk
   by_cases hn : nameB (byteAt t k) = true
   ·have HN : Hid (nameB (byteAt t k) = true) := hn
    have HC : Hid (∀ w, Calls prog 83 #[.int .u8 (byteAt t k)] w fun e w' => e = .returned (.bool true) ∧ w' = w) := fun w => by have := isName_any (byteAt t k) w; rw [hn] at this; exact this
    clear hn
    go_wp2_with (go_at_call 83; refine (HC.out _).mono ?_; rintro e w' ⟨rfl, hw'⟩; replace hw' := hw'.symm; subst hw')
    go_roundw
    case rel =>
     refine ⟨k + 1, by simp, ⟨HKS.out, fun j hj => ?_⟩, by first | rfl | trivial⟩
     by_cases e : j = k
     ·subst e
      obtain ⟨b, hb1, hb2⟩ := HG.out;exact ⟨b, hb1, by rw [← hb2]; exact HN.out⟩
     ·exact HK.out.2 j (by omega)
    case measure => (have := HKS.out; simp [intOf]; omega)
   ·have hn' : nameB (byteAt t k) = false := by simpa using hn
    have HR : Hid (nameRun t.data.toList = k) := by
     have hl : k < t.data.toList.length := HKS.out;have h1 := nameRun_drop t.data.toList k (by omega) HK.out.2;obtain ⟨b, hb1, hb2⟩ := HG.out;rw [List.drop_eq_getElem_cons hl] at h1;have hb3 : t.data.toList[k] = b := by rw [List.getElem?_eq_getElem hl] at hb1; cases hb1; rfl
     rw [hb3, nameRun, ← hb2, hn'] at h1;have hr : nameRun t.data.toList = k := by simpa using h1
     exact hr
    have HC : Hid (∀ w, Calls prog 83 #[.int .u8 (byteAt t k)] w fun e w' => e = .returned (.bool false) ∧ w' = w) := fun w => by have := isName_any (byteAt t k) w; rw [hn'] at this; exact this
    clear hn hn'
    go_wp2_with (go_at_call 83; refine (HC.out _).mono ?_; rintro e w' ⟨rfl, hw'⟩; replace hw' := hw'.symm; subst hw')
    go_ret;exact ⟨by rw [HR.out]; rfl, rfl⟩
  ·have hke : k = t.size := by have := HK.out.1; omega
   have HR : Hid (nameRun t.data.toList = k) := by
    have h1 := nameRun_drop t.data.toList k (by rw [hke]; exact Nat.le_refl _) HK.out.2;rw [List.drop_eq_nil_of_le (by rw [hke]; exact Nat.le_refl _)] at h1;have hr : nameRun t.data.toList = k := by simpa [nameRun] using h1
    exact hr
   have k1 : ¬ (k : Int) < (t.size : Int) := by omega
   clear hk hke;go_wp2;go_ret;exact ⟨by rw [HR.out]; rfl, rfl⟩

def kwList : List ByteArray := [⟨#[99, 104, 97, 114]⟩, ⟨#[105, 110, 116]⟩, ⟨#[108, 111, 110, 103]⟩, ⟨#[118, 111, 105, 100]⟩, ⟨#[115, 116, 114, 117, 99, 116]⟩, ⟨#[112, 117, 98, 108, 105, 99]⟩, ⟨#[105, 102]⟩, ⟨#[101, 108, 115, 101]⟩, ⟨#[119, 104, 105, 108, 101]⟩, ⟨#[98, 114, 101, 97, 107]⟩, ⟨#[99, 111, 110, 116, 105, 110, 117, 101]⟩, ⟨#[114, 101, 116, 117, 114, 110]⟩, ⟨#[115, 105, 122, 101, 111, 102]⟩, ⟨#[105, 110]⟩, ⟨#[111, 117, 116]⟩]
def mkList : List ByteArray := [⟨#[45, 62]⟩, ⟨#[61, 61]⟩, ⟨#[33, 61]⟩, ⟨#[60, 61]⟩, ⟨#[62, 61]⟩, ⟨#[60, 60]⟩, ⟨#[62, 62]⟩, ⟨#[38, 38]⟩, ⟨#[124, 124]⟩, ⟨#[40]⟩, ⟨#[41]⟩, ⟨#[123]⟩, ⟨#[125]⟩, ⟨#[91]⟩, ⟨#[93]⟩, ⟨#[59]⟩, ⟨#[44]⟩, ⟨#[46]⟩, ⟨#[61]⟩, ⟨#[60]⟩, ⟨#[62]⟩, ⟨#[43]⟩, ⟨#[45]⟩, ⟨#[42]⟩, ⟨#[47]⟩, ⟨#[37]⟩, ⟨#[38]⟩, ⟨#[124]⟩, ⟨#[94]⟩, ⟨#[126]⟩, ⟨#[33]⟩]

structure LexTab (w : World) : Prop where
 kw : ∀ j, j < 15 → w.cell? ⟨3, j, none⟩ = (kwList[j]?).map Value.string
 ms : ∀ j, j < 31 → w.cell? ⟨1, j, none⟩ = (mkList[j]?).map Value.string
theorem LexTab.keep {w w' : World} (h : LexTab w) (hb : Below w.heap.size w w') : LexTab w' := by
 refine ⟨fun j hj => ?_, fun j hj => ?_⟩
 ·have hl : j < kwList.length := hj
  have := h.kw j hj;rw [List.getElem?_eq_getElem hl] at this ⊢;exact keep_cell hb this
 ·have hl : j < mkList.length := hj
  have := h.ms j hj;rw [List.getElem?_eq_getElem hl] at this ⊢;exact keep_cell hb this
theorem kw_index (i : Nat) (hi : i < 15) (w : World) : (Instr.index 153 (.agg #[.string ⟨#[99, 104, 97, 114]⟩, .string ⟨#[105, 110, 116]⟩, .string ⟨#[108, 111, 110, 103]⟩, .string ⟨#[118, 111, 105, 100]⟩, .string ⟨#[115, 116, 114, 117, 99, 116]⟩, .string ⟨#[112, 117, 98, 108, 105, 99]⟩, .string ⟨#[105, 102]⟩, .string ⟨#[101, 108, 115, 101]⟩, .string ⟨#[119, 104, 105, 108, 101]⟩, .string ⟨#[98, 114, 101, 97, 107]⟩, .string ⟨#[99, 111, 110, 116, 105, 110, 117, 101]⟩, .string ⟨#[114, 101, 116, 117, 114, 110]⟩, .string ⟨#[115, 105, 122, 101, 111, 102]⟩, .string ⟨#[105, 110]⟩, .string ⟨#[111, 117, 116]⟩]) (.int .i64 (i : Int))).run prog w = .ok (.string (kwList[i]'hi)) w := by
 have all : ∀ (i : Fin 15), (Instr.index 153 (.agg #[.string ⟨#[99, 104, 97, 114]⟩, .string ⟨#[105, 110, 116]⟩, .string ⟨#[108, 111, 110, 103]⟩, .string ⟨#[118, 111, 105, 100]⟩, .string ⟨#[115, 116, 114, 117, 99, 116]⟩, .string ⟨#[112, 117, 98, 108, 105, 99]⟩, .string ⟨#[105, 102]⟩, .string ⟨#[101, 108, 115, 101]⟩, .string ⟨#[119, 104, 105, 108, 101]⟩, .string ⟨#[98, 114, 101, 97, 107]⟩, .string ⟨#[99, 111, 110, 116, 105, 110, 117, 101]⟩, .string ⟨#[114, 101, 116, 117, 114, 110]⟩, .string ⟨#[115, 105, 122, 101, 111, 102]⟩, .string ⟨#[105, 110]⟩, .string ⟨#[111, 117, 116]⟩]) (.int .i64 ((i.val : Nat) : Int))).run prog w = .ok (.string (kwList[i.val]'i.isLt)) w := by
  intro i
  rcases i with ⟨i, hi⟩
  rcases i with _ | i
  ·kernel_rfl
  rcases i with _ | i
  ·kernel_rfl
  rcases i with _ | i
  ·kernel_rfl
  rcases i with _ | i
  ·kernel_rfl
  rcases i with _ | i
  ·kernel_rfl
  rcases i with _ | i
  ·kernel_rfl
  rcases i with _ | i
  ·kernel_rfl
  rcases i with _ | i
  ·kernel_rfl
  rcases i with _ | i
  ·kernel_rfl
  rcases i with _ | i
  ·kernel_rfl
  rcases i with _ | i
  ·kernel_rfl
  rcases i with _ | i
  ·kernel_rfl
  rcases i with _ | i
  ·kernel_rfl
  rcases i with _ | i
  ·kernel_rfl
  rcases i with _ | i
  ·kernel_rfl
  ·omega
 exact all ⟨i, hi⟩

theorem mk_index (i : Nat) (hi : i < 31) (w : World) : (Instr.index 143 (.agg #[.string ⟨#[45, 62]⟩, .string ⟨#[61, 61]⟩, .string ⟨#[33, 61]⟩, .string ⟨#[60, 61]⟩, .string ⟨#[62, 61]⟩, .string ⟨#[60, 60]⟩, .string ⟨#[62, 62]⟩, .string ⟨#[38, 38]⟩, .string ⟨#[124, 124]⟩, .string ⟨#[40]⟩, .string ⟨#[41]⟩, .string ⟨#[123]⟩, .string ⟨#[125]⟩, .string ⟨#[91]⟩, .string ⟨#[93]⟩, .string ⟨#[59]⟩, .string ⟨#[44]⟩, .string ⟨#[46]⟩, .string ⟨#[61]⟩, .string ⟨#[60]⟩, .string ⟨#[62]⟩, .string ⟨#[43]⟩, .string ⟨#[45]⟩, .string ⟨#[42]⟩, .string ⟨#[47]⟩, .string ⟨#[37]⟩, .string ⟨#[38]⟩, .string ⟨#[124]⟩, .string ⟨#[94]⟩, .string ⟨#[126]⟩, .string ⟨#[33]⟩]) (.int .i64 (i : Int))).run prog w = .ok (.string (mkList[i]'hi)) w := by
 have all : ∀ (i : Fin 31), (Instr.index 143 (.agg #[.string ⟨#[45, 62]⟩, .string ⟨#[61, 61]⟩, .string ⟨#[33, 61]⟩, .string ⟨#[60, 61]⟩, .string ⟨#[62, 61]⟩, .string ⟨#[60, 60]⟩, .string ⟨#[62, 62]⟩, .string ⟨#[38, 38]⟩, .string ⟨#[124, 124]⟩, .string ⟨#[40]⟩, .string ⟨#[41]⟩, .string ⟨#[123]⟩, .string ⟨#[125]⟩, .string ⟨#[91]⟩, .string ⟨#[93]⟩, .string ⟨#[59]⟩, .string ⟨#[44]⟩, .string ⟨#[46]⟩, .string ⟨#[61]⟩, .string ⟨#[60]⟩, .string ⟨#[62]⟩, .string ⟨#[43]⟩, .string ⟨#[45]⟩, .string ⟨#[42]⟩, .string ⟨#[47]⟩, .string ⟨#[37]⟩, .string ⟨#[38]⟩, .string ⟨#[124]⟩, .string ⟨#[94]⟩, .string ⟨#[126]⟩, .string ⟨#[33]⟩]) (.int .i64 ((i.val : Nat) : Int))).run prog w = .ok (.string (mkList[i.val]'i.isLt)) w := by
  intro i
  rcases i with ⟨i, hi⟩
  rcases i with _ | i
  ·kernel_rfl
  rcases i with _ | i
  ·kernel_rfl
  rcases i with _ | i
  ·kernel_rfl
  rcases i with _ | i
  ·kernel_rfl
  rcases i with _ | i
  ·kernel_rfl
  rcases i with _ | i
  ·kernel_rfl
  rcases i with _ | i
  ·kernel_rfl
  rcases i with _ | i
  ·kernel_rfl
  rcases i with _ | i
  ·kernel_rfl
  rcases i with _ | i
  ·kernel_rfl
  rcases i with _ | i
  ·kernel_rfl
  rcases i with _ | i
  ·kernel_rfl
  rcases i with _ | i
  ·kernel_rfl
  rcases i with _ | i
  ·kernel_rfl
  rcases i with _ | i
  ·kernel_rfl
  rcases i with _ | i
  ·kernel_rfl
  rcases i with _ | i
  ·kernel_rfl
  rcases i with _ | i
  ·kernel_rfl
  rcases i with _ | i
  ·kernel_rfl
  rcases i with _ | i
  ·kernel_rfl
  rcases i with _ | i
  ·kernel_rfl
  rcases i with _ | i
  ·kernel_rfl
  rcases i with _ | i
  ·kernel_rfl
  rcases i with _ | i
  ·kernel_rfl
  rcases i with _ | i
  ·kernel_rfl
  rcases i with _ | i
  ·kernel_rfl
  rcases i with _ | i
  ·kernel_rfl
  rcases i with _ | i
  ·kernel_rfl
  rcases i with _ | i
  ·kernel_rfl
  rcases i with _ | i
  ·kernel_rfl
  rcases i with _ | i
  ·kernel_rfl
  ·omega
 exact all ⟨i, hi⟩

theorem any_none {l : List ByteArray} {f : ByteArray → Bool} {i : Nat} (h : ∀ (j : Nat) (hj : j < l.length), j < i → f l[j] = false) (hi : l.length ≤ i) : l.any f = false := by
 rw [List.any_eq_false];intro x hx;obtain ⟨j, hj, rfl⟩ := List.getElem_of_mem hx;rw [h j hj (by omega)];simp
theorem isKeyword_any (n : ByteArray) (w : World) (h : LexTab w) : Calls prog 117 #[.string n] w fun e w' => e = .returned (.bool (kwList.any (fun k => k.toList == n.toList))) ∧ w' = w := by
 have m0 : w.cell? ⟨3, 0, none⟩ = some (.string ⟨#[99, 104, 97, 114]⟩) := h.kw 0 (by omega);have m1 : w.cell? ⟨3, 1, none⟩ = some (.string ⟨#[105, 110, 116]⟩) := h.kw 1 (by omega);have m2 : w.cell? ⟨3, 2, none⟩ = some (.string ⟨#[108, 111, 110, 103]⟩) := h.kw 2 (by omega);have m3 : w.cell? ⟨3, 3, none⟩ = some (.string ⟨#[118, 111, 105, 100]⟩) := h.kw 3 (by omega);have m4 : w.cell? ⟨3, 4, none⟩ = some (.string ⟨#[115, 116, 114, 117, 99, 116]⟩) := h.kw 4 (by omega);have m5 : w.cell? ⟨3, 5, none⟩ = some (.string ⟨#[112, 117, 98, 108, 105, 99]⟩) := h.kw 5 (by omega);have m6 : w.cell? ⟨3, 6, none⟩ = some (.string ⟨#[105, 102]⟩) := h.kw 6 (by omega);have m7 : w.cell? ⟨3, 7, none⟩ = some (.string ⟨#[101, 108, 115, 101]⟩) := h.kw 7 (by omega);have m8 : w.cell? ⟨3, 8, none⟩ = some (.string ⟨#[119, 104, 105, 108, 101]⟩) := h.kw 8 (by omega);have m9 : w.cell? ⟨3, 9, none⟩ = some (.string ⟨#[98, 114, 101, 97, 107]⟩) := h.kw 9 (by omega);have m10 : w.cell? ⟨3, 10, none⟩ = some (.string ⟨#[99, 111, 110, 116, 105, 110, 117, 101]⟩) := h.kw 10 (by omega);have m11 : w.cell? ⟨3, 11, none⟩ = some (.string ⟨#[114, 101, 116, 117, 114, 110]⟩) := h.kw 11 (by omega);have m12 : w.cell? ⟨3, 12, none⟩ = some (.string ⟨#[115, 105, 122, 101, 111, 102]⟩) := h.kw 12 (by omega);have m13 : w.cell? ⟨3, 13, none⟩ = some (.string ⟨#[105, 110]⟩) := h.kw 13 (by omega);have m14 : w.cell? ⟨3, 14, none⟩ = some (.string ⟨#[111, 117, 116]⟩) := h.kw 14 (by omega);clear h
 go_enter func117, ntmps117
 go_wp2;clear m0 m1 m2 m3 m4 m5 m6 m7 m8 m9 m10 m11 m12 m13 m14
 go_loopw [6] (fun v wr => ∃ i : Nat, i ≤ 15 ∧ v = .int .i64 i ∧ Hid (∀ (j : Nat) (hj : j < kwList.length), j < i → (kwList[j].toList == n.toList) = false) ∧ wr = w) (fun v _ => 15 - (intOf v).toNat)
 case atStart => exact ⟨0, by omega, rfl, fun j hj h => absurd h (by omega), rfl⟩
 case round =>
  obtain ⟨i, hi, rfl, HK, rfl⟩ := hrel
  by_cases hin : i < 15
  ·have ix := kw_index i hin
   have i0 : (0 : Int) ≤ i := by omega
   have i1 : (i : Int) < 15 := by omega
   obtain ⟨kk, hkk⟩ : ∃ kk, kwList[i]'hin = kk := ⟨_, rfl⟩;rw [hkk] at ix;have HKK : Hid (kwList[i]'hin = kk) := hkk;clear hkk
   by_cases he : (kk.toList == n.toList) = true
   ·have HE : Hid (kwList.any (fun k => k.toList == n.toList) = true) := by
     have h : kwList.any (fun k => k.toList == n.toList) = true := by
      rw [List.any_eq_true];exact ⟨kk, by rw [← HKK.out]; exact List.getElem_mem _, he⟩
     exact h
    go_wp2;go_ret;exact ⟨by rw [HE.out]; rfl, rfl⟩
   ·have he' : (kk.toList == n.toList) = false := by simpa using he
    have HN : Hid (∀ (j : Nat) (hj : j < kwList.length), j < i + 1 → (kwList[j].toList == n.toList) = false) := fun j hj h => by
     by_cases e : j = i
     ·subst e
      rw [show kwList[j] = kk from HKK.out];exact he'
     ·exact HK.out j hj (by omega)
    clear he;go_wp2
    go_roundw
    case rel => exact ⟨i + 1, by omega, by simp, HN, by first | rfl | trivial⟩
    case measure => simp [intOf]; omega
  ·have hie : i = 15 := by omega
   subst hie;have HE : Hid (kwList.any (fun k => k.toList == n.toList) = false) := any_none HK.out (Nat.le_refl _);go_wp2;go_ret;exact ⟨by rw [HE.out]; rfl, rfl⟩

end Go.Proofs.YtlonbaefdffbeaaGreatDoor
