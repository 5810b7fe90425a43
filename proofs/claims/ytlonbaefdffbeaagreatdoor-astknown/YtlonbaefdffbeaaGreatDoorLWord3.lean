import Derived.Test.YtlonbaefdffbeaaGreatDoorLNum3
namespace Go.Proofs.YtlonbaefdffbeaaGreatDoor
open Go.ChangeShapes Go.WideShapes Go.ChangeAt Go.RowKit Go.Proofs.Tryz
set_option linter.unusedSimpArgs false
set_option linter.unusedVariables false
set_option maxHeartbeats 1000000

def runOf (t : ByteArray) : ByteArray := t.extract 0 (nameRun t.data.toList)
def wordW (t : ByteArray) : WW × Bool :=
 if nameB (byteAt t 0) = true then (if digitB (byteAt t 0) = true then numW (runOf t) else nameW (runOf t)) else markW t
theorem nameRun_le : ∀ l : List UInt8, nameRun l ≤ l.length
 | [] => Nat.le_refl _
 | b :: l => by
  rw [nameRun]
  split
  ·have := nameRun_le l; simp; omega
  ·exact Nat.zero_le _
theorem nameRun_all : ∀ (l : List UInt8), ∀ b ∈ l.take (nameRun l), nameB (b.toNat : Int) = true
 | [], b, h => by simp at h
 | a :: l, b, h => by
  rw [nameRun] at h
  split at h
  ·rename_i ha
   rw [List.take_succ_cons] at h
   rcases List.mem_cons.1 h with rfl | h
   ·exact ha
   ·exact nameRun_all l b h
  ·simp at h
theorem nameRun_pos (t : ByteArray) (h : nameB (byteAt t 0) = true) : 0 < nameRun t.data.toList := by
 unfold byteAt at h
 cases e : t.data.toList with
 | nil => rw [e] at h; revert h; decide
 | cons b l =>
  rw [e] at h;have h2 : nameB (b.toNat : Int) = true := h;rw [nameRun, if_pos h2]
  omega
theorem runOf_data (t : ByteArray) : (runOf t).data.toList = t.data.toList.take (nameRun t.data.toList) := by
 unfold runOf;rw [Lib.extract_data, List.drop_zero, Nat.sub_zero]
theorem runOf_size (t : ByteArray) : (runOf t).size = nameRun t.data.toList := by
 rw [Lib.size_eq, runOf_data, List.length_take];have := nameRun_le t.data.toList
 omega
theorem word_mark (t : ByteArray) (w : World) (b0 : Int) (k n : Int) (s : ByteArray) (ok : Bool) (ix : ∀ W, (Instr.index 9 (.string t) (.int .i64 0)).run prog W = .ok (.int .u8 b0) W)
  (HN : Hid (∀ W, Calls prog 83 #[.int .u8 b0] W fun e w' => e = .returned (.bool false) ∧ w' = W))
  (HM : Hid (∀ W, Below w.heap.size w W → Calls prog 84 #[.string t] W fun e w' => e = .returned (.tuple #[.agg #[.int .i64 k, .string s, .int .i64 n, .int .i64 0, .int .i64 0], .bool ok]) ∧ Below W.heap.size W w')) :
  Calls prog 54 #[.string t] w (retW ⟨k, s, n⟩ ok w) := by
 go_enter func54, ntmps54
 go_wp2_with (first | (go_at_call 83; refine (HN.out _).mono ?_; rintro e w' ⟨rfl, hw'⟩; replace hw' := hw'.symm; subst hw') | (go_at_call 84; refine (HM.out _ (by repeat (first | with_reducible exact Below.refl _ _ | with_reducible refine bel_alloc ?_ _ | with_reducible refine bel_set ?_ (by first | exact Nat.le_refl _ | (simp; done) | (simp; omega)) _ | with_reducible refine Below.drew ?_ | refine bel_trans ?_ (by assumption)))).mono ?_; rintro e w1 ⟨rfl, hb1⟩; have c0 := keep_cell hb1 (p := ⟨w.heap.size, 0, none⟩) (v := .int .i64 0) (by go_simp); have f0 := keep_frozen hb1 (p := ⟨w.heap.size, 0, none⟩) (v := .int .i64 0) (by go_simp) (by go_simp); have c1 := keep_cell hb1 (p := ⟨w.heap.size, 1, none⟩) (v := .string ⟨#[]⟩) (by go_simp); have f1 := keep_frozen hb1 (p := ⟨w.heap.size, 1, none⟩) (v := .string ⟨#[]⟩) (by go_simp) (by go_simp); have c2 := keep_cell hb1 (p := ⟨w.heap.size, 2, none⟩) (v := .int .i64 0) (by go_simp); have f2 := keep_frozen hb1 (p := ⟨w.heap.size, 2, none⟩) (v := .int .i64 0) (by go_simp) (by go_simp); have c3 := keep_cell hb1 (p := ⟨w.heap.size, 3, none⟩) (v := .int .i64 0) (by go_simp); have f3 := keep_frozen hb1 (p := ⟨w.heap.size, 3, none⟩) (v := .int .i64 0) (by go_simp) (by go_simp); have c4 := keep_cell hb1 (p := ⟨w.heap.size, 4, none⟩) (v := .int .i64 0) (by go_simp); have f4 := keep_frozen hb1 (p := ⟨w.heap.size, 4, none⟩) (v := .int .i64 0) (by go_simp) (by go_simp)))
 exact end_W (by simp [results, results54, go_sem, c0, c1, c2, c3, c4]) rfl (by repeat (first | with_reducible exact Below.refl _ _ | with_reducible refine bel_alloc ?_ _ | with_reducible refine bel_set ?_ (by first | exact Nat.le_refl _ | (simp; done) | (simp; omega)) _ | with_reducible refine Below.drew ?_ | refine bel_trans ?_ (by assumption)))


theorem word_number (t r : ByteArray) (w : World) (b0 : Int) (m : Int) (k n : Int) (s : ByteArray) (ok : Bool) (ix : ∀ W, (Instr.index 9 (.string t) (.int .i64 0)).run prog W = .ok (.int .u8 b0) W)
  (sx : ∀ W, (Instr.slice 9 (.string t) none (some (.int .i64 m)) none).run prog W = .ok (.string r) W)
  (HN : Hid (∀ W, Calls prog 83 #[.int .u8 b0] W fun e w' => e = .returned (.bool true) ∧ w' = W))
  (HD : Hid (∀ W, Calls prog 86 #[.int .u8 b0] W fun e w' => e = .returned (.bool true) ∧ w' = W))
  (HB : Hid (∀ W, Calls prog 85 #[.string t] W fun e w' => e = .returned (.int .i64 m) ∧ w' = W))
  (HM : Hid (∀ W, Below w.heap.size w W → Calls prog 87 #[.string r] W fun e w' => e = .returned (.tuple #[.agg #[.int .i64 k, .string s, .int .i64 n, .int .i64 0, .int .i64 0], .bool ok]) ∧ Below W.heap.size W w')) :
  Calls prog 54 #[.string t] w (retW ⟨k, s, n⟩ ok w) := by
 go_enter func54, ntmps54
 go_wp2_with (first | (go_at_call 83; refine (HN.out _).mono ?_; rintro e w' ⟨rfl, hw'⟩; replace hw' := hw'.symm; subst hw') | (go_at_call 86; refine (HD.out _).mono ?_; rintro e w' ⟨rfl, hw'⟩; replace hw' := hw'.symm; subst hw') | (go_at_call 85; refine (HB.out _).mono ?_; rintro e w' ⟨rfl, hw'⟩; replace hw' := hw'.symm; subst hw') | (go_at_call 87; refine (HM.out _ (by repeat (first | with_reducible exact Below.refl _ _ | with_reducible refine bel_alloc ?_ _ | with_reducible refine bel_set ?_ (by first | exact Nat.le_refl _ | (simp; done) | (simp; omega)) _ | with_reducible refine Below.drew ?_ | refine bel_trans ?_ (by assumption)))).mono ?_; rintro e w1 ⟨rfl, hb1⟩; have c0 := keep_cell hb1 (p := ⟨w.heap.size, 0, none⟩) (v := .int .i64 0) (by go_simp); have f0 := keep_frozen hb1 (p := ⟨w.heap.size, 0, none⟩) (v := .int .i64 0) (by go_simp) (by go_simp); have c1 := keep_cell hb1 (p := ⟨w.heap.size, 1, none⟩) (v := .string ⟨#[]⟩) (by go_simp); have f1 := keep_frozen hb1 (p := ⟨w.heap.size, 1, none⟩) (v := .string ⟨#[]⟩) (by go_simp) (by go_simp); have c2 := keep_cell hb1 (p := ⟨w.heap.size, 2, none⟩) (v := .int .i64 0) (by go_simp); have f2 := keep_frozen hb1 (p := ⟨w.heap.size, 2, none⟩) (v := .int .i64 0) (by go_simp) (by go_simp); have c3 := keep_cell hb1 (p := ⟨w.heap.size, 3, none⟩) (v := .int .i64 0) (by go_simp); have f3 := keep_frozen hb1 (p := ⟨w.heap.size, 3, none⟩) (v := .int .i64 0) (by go_simp) (by go_simp); have c4 := keep_cell hb1 (p := ⟨w.heap.size, 4, none⟩) (v := .int .i64 0) (by go_simp); have f4 := keep_frozen hb1 (p := ⟨w.heap.size, 4, none⟩) (v := .int .i64 0) (by go_simp) (by go_simp)))
 exact end_W (by simp [results, results54, go_sem, c0, c1, c2, c3, c4]) rfl (by repeat (first | with_reducible exact Below.refl _ _ | with_reducible refine bel_alloc ?_ _ | with_reducible refine bel_set ?_ (by first | exact Nat.le_refl _ | (simp; done) | (simp; omega)) _ | with_reducible refine Below.drew ?_ | refine bel_trans ?_ (by assumption)))


theorem word_name (t r : ByteArray) (w : World) (b0 : Int) (m : Int) (k n : Int) (s : ByteArray) (ok : Bool) (ix : ∀ W, (Instr.index 9 (.string t) (.int .i64 0)).run prog W = .ok (.int .u8 b0) W)
  (sx : ∀ W, (Instr.slice 9 (.string t) none (some (.int .i64 m)) none).run prog W = .ok (.string r) W)
  (HN : Hid (∀ W, Calls prog 83 #[.int .u8 b0] W fun e w' => e = .returned (.bool true) ∧ w' = W))
  (HD : Hid (∀ W, Calls prog 86 #[.int .u8 b0] W fun e w' => e = .returned (.bool false) ∧ w' = W))
  (HB : Hid (∀ W, Calls prog 85 #[.string t] W fun e w' => e = .returned (.int .i64 m) ∧ w' = W))
  (HM : Hid (∀ W, Below w.heap.size w W → Calls prog 88 #[.string r] W fun e w' => e = .returned (.tuple #[.agg #[.int .i64 k, .string s, .int .i64 n, .int .i64 0, .int .i64 0], .bool ok]) ∧ Below W.heap.size W w')) :
  Calls prog 54 #[.string t] w (retW ⟨k, s, n⟩ ok w) := by
 go_enter func54, ntmps54
 go_wp2_with (first | (go_at_call 83; refine (HN.out _).mono ?_; rintro e w' ⟨rfl, hw'⟩; replace hw' := hw'.symm; subst hw') | (go_at_call 86; refine (HD.out _).mono ?_; rintro e w' ⟨rfl, hw'⟩; replace hw' := hw'.symm; subst hw') | (go_at_call 85; refine (HB.out _).mono ?_; rintro e w' ⟨rfl, hw'⟩; replace hw' := hw'.symm; subst hw') | (go_at_call 88; refine (HM.out _ (by repeat (first | with_reducible exact Below.refl _ _ | with_reducible refine bel_alloc ?_ _ | with_reducible refine bel_set ?_ (by first | exact Nat.le_refl _ | (simp; done) | (simp; omega)) _ | with_reducible refine Below.drew ?_ | refine bel_trans ?_ (by assumption)))).mono ?_; rintro e w1 ⟨rfl, hb1⟩; have c0 := keep_cell hb1 (p := ⟨w.heap.size, 0, none⟩) (v := .int .i64 0) (by go_simp); have f0 := keep_frozen hb1 (p := ⟨w.heap.size, 0, none⟩) (v := .int .i64 0) (by go_simp) (by go_simp); have c1 := keep_cell hb1 (p := ⟨w.heap.size, 1, none⟩) (v := .string ⟨#[]⟩) (by go_simp); have f1 := keep_frozen hb1 (p := ⟨w.heap.size, 1, none⟩) (v := .string ⟨#[]⟩) (by go_simp) (by go_simp); have c2 := keep_cell hb1 (p := ⟨w.heap.size, 2, none⟩) (v := .int .i64 0) (by go_simp); have f2 := keep_frozen hb1 (p := ⟨w.heap.size, 2, none⟩) (v := .int .i64 0) (by go_simp) (by go_simp); have c3 := keep_cell hb1 (p := ⟨w.heap.size, 3, none⟩) (v := .int .i64 0) (by go_simp); have f3 := keep_frozen hb1 (p := ⟨w.heap.size, 3, none⟩) (v := .int .i64 0) (by go_simp) (by go_simp); have c4 := keep_cell hb1 (p := ⟨w.heap.size, 4, none⟩) (v := .int .i64 0) (by go_simp); have f4 := keep_frozen hb1 (p := ⟨w.heap.size, 4, none⟩) (v := .int .i64 0) (by go_simp) (by go_simp)))
 exact end_W (by simp [results, results54, go_sem, c0, c1, c2, c3, c4]) rfl (by repeat (first | with_reducible exact Below.refl _ _ | with_reducible refine bel_alloc ?_ _ | with_reducible refine bel_set ?_ (by first | exact Nat.le_refl _ | (simp; done) | (simp; omega)) _ | with_reducible refine Below.drew ?_ | refine bel_trans ?_ (by assumption)))


theorem lword_any (t : ByteArray) (w : World) (hl : LexTab w) (he : ErrTab w) (hne : t.size ≠ 0) (hlim : t.size ≤ 281474976710656) :
  Calls prog 54 #[.string t] w (retW (wordW t).1 (wordW t).2 w) := by
 have ix : ∀ W, (Instr.index 9 (.string t) (.int .i64 0)).run prog W = .ok (.int .u8 (byteAt t 0)) W := fun W => index_byte t 0 (by omega) W;have hrl : nameRun t.data.toList ≤ t.size := by rw [Lib.size_eq]; exact nameRun_le _
 have sx : ∀ W, (Instr.slice 9 (.string t) none (some (.int .i64 (nameRun t.data.toList : Int))) none).run prog W = .ok (.string (runOf t)) W := fun W => by
  rw [run_slice_string_to_if W 9 t .i64 _ underlying9, if_pos ⟨by omega, by omega⟩]
  rfl
 have HN : ∀ W, Calls prog 83 #[.int .u8 (byteAt t 0)] W fun e w' => e = .returned (.bool (nameB (byteAt t 0))) ∧ w' = W := fun W => isName_any _ W;have HD : ∀ W, Calls prog 86 #[.int .u8 (byteAt t 0)] W fun e w' => e = .returned (.bool (digitB (byteAt t 0))) ∧ w' = W := fun W => isDigit_any _ W;have HB : ∀ W, Calls prog 85 #[.string t] W fun e w' => e = .returned (.int .i64 (nameRun t.data.toList)) ∧ w' = W := fun W => nameBytes_any t W (by omega);unfold wordW
 cases hn : nameB (byteAt t 0) with
 | false =>
  rw [hn] at HN;rw [if_neg (by decide)];exact word_mark t w _ _ _ _ _ ix HN (fun W hW => markWord_any t W (hl.keep hW))
 | true =>
  have hp := nameRun_pos t hn;rw [hn] at HN;rw [if_pos rfl]
  cases hd : digitB (byteAt t 0) with
  | true =>
   rw [hd] at HD;rw [if_pos rfl];refine word_number t (runOf t) w _ _ _ _ _ _ ix sx HN HD HB (fun W hW => numberWord_any _ W (he.keep hW) (by rw [runOf_size]; omega) (by rw [runOf_size]; omega) ?_);rw [runOf_data];exact nameRun_all _
  | false =>
   rw [hd] at HD;rw [if_neg (by decide)];exact word_name t (runOf t) w _ _ _ _ _ _ ix sx HN HD HB (fun W hW => nameWord_any _ W (hl.keep hW))
end Go.Proofs.YtlonbaefdffbeaaGreatDoor

