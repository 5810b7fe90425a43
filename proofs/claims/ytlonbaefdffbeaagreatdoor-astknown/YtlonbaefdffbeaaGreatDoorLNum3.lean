import Derived.Test.YtlonbaefdffbeaaGreatDoorLNum2
namespace Go.Proofs.YtlonbaefdffbeaaGreatDoor
open Go.ChangeShapes Go.WideShapes Go.ChangeAt Go.RowKit Go.Proofs.Tryz
set_option linter.unusedSimpArgs false
set_option linter.unusedVariables false
set_option maxHeartbeats 1000000

def hexP : List UInt8 := [48, 120]
def digitsOf (run : ByteArray) : ByteArray := ⟨(Lib.trimPrefix run.data.toList hexP).toArray⟩
def isHexW (run : ByteArray) : Bool := Lib.hasPrefix run.data.toList hexP
def numOr (run : ByteArray) : Option Int → WW × Bool
 | some n => (⟨2, run, n⟩, true)
 | none => (noWW, false)
def numW (run : ByteArray) : WW × Bool :=
 if isHexW run = true then (if 16 < (digitsOf run).size then (noWW, false) else numOr run (num16 (digitsOf run).data.toList))
 else if 19 < run.size ∨ (byteAt run 0 = 48 ∧ 1 < run.size) then (noWW, false) else numOr run (num10 run.data.toList)
theorem digitsOf_mem (run : ByteArray) (b : UInt8) (h : b ∈ (digitsOf run).data.toList) : b ∈ run.data.toList := by
 unfold digitsOf Lib.trimPrefix at h
 split at h
 ·exact List.mem_of_mem_drop h
 ·exact h
theorem digitsOf_not (run : ByteArray) (h : isHexW run = false) : digitsOf run = run := by
 unfold digitsOf Lib.trimPrefix;unfold isHexW at h;rw [if_neg (by rw [h]; decide)]
theorem first_name (run : ByteArray) (hn : ∀ b ∈ run.data.toList, nameB (b.toNat : Int) = true) : byteAt (digitsOf run) 0 ≠ 43 ∧ byteAt (digitsOf run) 0 ≠ 45 := by
 unfold byteAt
 cases h : (digitsOf run).data.toList with
 | nil => exact ⟨by decide, by decide⟩
 | cons b l =>
  have hb := hn b (digitsOf_mem run b (by rw [h]; exact List.mem_cons_self ..));have e : ((b :: l)[0]?.map (fun b => (b.toNat : Int))).getD 0 = (b.toNat : Int) := rfl;rw [e];refine ⟨fun h => ?_, fun h => ?_⟩ <;> (rw [h] at hb; revert hb; decide)


theorem number_hex (run d : ByteArray) (w : World) (HC : Hid (∀ W, Calls prog 93 #[.string run, .string ⟨#[48, 120]⟩] W fun e w' => e = .returned (.tuple #[.string d, .bool true]) ∧ w' = W)) (HD : Hid (∀ W, Calls prog 116 #[.string run] W (retP (.string run) W)))
  (d1 : (d.size : Int) ≤ 16) (HP : Hid (∀ W, Below w.heap.size w W → Calls prog 115 #[.string d, .int .i64 16, .int .i64 64] W (retN (num16 d.data.toList) W))) :
  Calls prog 87 #[.string run] w (retW (numOr run (num16 d.data.toList)).1 (numOr run (num16 d.data.toList)).2 w) := by
 cases hr : num16 d.data.toList with
 | none =>
  rw [hr] at HP
  have HP : Hid (∀ W, Below w.heap.size w W → Calls prog 115 #[.string d, .int .i64 16, .int .i64 64] W fun e w' => (∃ v t p, e = .returned (.tuple #[.int .i64 v, .iface t p])) ∧ Below W.heap.size W w') := fun W hW => by
   refine (HP.out W hW).mono ?_;rintro e w' ⟨⟨v, er, rfl, h | ⟨_, t, p, rfl⟩⟩, hb⟩
   ·cases h.1
   ·exact ⟨⟨v, t, p, rfl⟩, hb⟩
  clear hr
  go_enter func87, ntmps87
  go_wp2_with (first | (go_at_call 93; refine (HC.out _).mono ?_; rintro e w' ⟨rfl, hw'⟩; replace hw' := hw'.symm; subst hw') | (go_at_call 115; refine (HP.out _ (by repeat (first | with_reducible exact Below.refl _ _ | with_reducible refine bel_alloc ?_ _ | with_reducible refine bel_set ?_ (by first | exact Nat.le_refl _ | (simp; done) | (simp; omega)) _ | with_reducible refine Below.drew ?_ | refine bel_trans ?_ (by assumption)))).mono ?_; rintro e w1 ⟨⟨v, te, pe, rfl⟩, hb1⟩; have c0 := keep_cell hb1 (p := ⟨w.heap.size, 0, none⟩) (v := .int .i64 0) (by go_simp); have f0 := keep_frozen hb1 (p := ⟨w.heap.size, 0, none⟩) (v := .int .i64 0) (by go_simp) (by go_simp); have c1 := keep_cell hb1 (p := ⟨w.heap.size, 1, none⟩) (v := .string ⟨#[]⟩) (by go_simp); have f1 := keep_frozen hb1 (p := ⟨w.heap.size, 1, none⟩) (v := .string ⟨#[]⟩) (by go_simp) (by go_simp); have c2 := keep_cell hb1 (p := ⟨w.heap.size, 2, none⟩) (v := .int .i64 0) (by go_simp); have f2 := keep_frozen hb1 (p := ⟨w.heap.size, 2, none⟩) (v := .int .i64 0) (by go_simp) (by go_simp); have c3 := keep_cell hb1 (p := ⟨w.heap.size, 3, none⟩) (v := .int .i64 0) (by go_simp); have f3 := keep_frozen hb1 (p := ⟨w.heap.size, 3, none⟩) (v := .int .i64 0) (by go_simp) (by go_simp); have c4 := keep_cell hb1 (p := ⟨w.heap.size, 4, none⟩) (v := .int .i64 0) (by go_simp); have f4 := keep_frozen hb1 (p := ⟨w.heap.size, 4, none⟩) (v := .int .i64 0) (by go_simp) (by go_simp)))
  exact end_W (by simp [results, results87, go_sem, noWW, numOr, c0, c1, c2, c3, c4]) rfl (by repeat (first | with_reducible exact Below.refl _ _ | with_reducible refine bel_alloc ?_ _ | with_reducible refine bel_set ?_ (by first | exact Nat.le_refl _ | (simp; done) | (simp; omega)) _ | with_reducible refine Below.drew ?_ | refine bel_trans ?_ (by assumption)))
 | some n =>
  rw [hr] at HP
  have HP : Hid (∀ W, Below w.heap.size w W → Calls prog 115 #[.string d, .int .i64 16, .int .i64 64] W fun e w' => e = .returned (.tuple #[.int .i64 n, .nilIface]) ∧ Below W.heap.size W w') := fun W hW => by
   refine (HP.out W hW).mono ?_;rintro e w' ⟨⟨v, er, rfl, ⟨h, rfl⟩ | h⟩, hb⟩
   ·cases h; exact ⟨rfl, hb⟩
   ·cases h.1
  clear hr
  go_enter func87, ntmps87
  go_wp2_with (first | (go_at_call 93; refine (HC.out _).mono ?_; rintro e w' ⟨rfl, hw'⟩; replace hw' := hw'.symm; subst hw') | (go_at_call 115; refine (HP.out _ (by repeat (first | with_reducible exact Below.refl _ _ | with_reducible refine bel_alloc ?_ _ | with_reducible refine bel_set ?_ (by first | exact Nat.le_refl _ | (simp; done) | (simp; omega)) _ | with_reducible refine Below.drew ?_ | refine bel_trans ?_ (by assumption)))).mono ?_; rintro e w1 ⟨rfl, hb1⟩; have c0 := keep_cell hb1 (p := ⟨w.heap.size, 0, none⟩) (v := .int .i64 0) (by go_simp); have f0 := keep_frozen hb1 (p := ⟨w.heap.size, 0, none⟩) (v := .int .i64 0) (by go_simp) (by go_simp); have c1 := keep_cell hb1 (p := ⟨w.heap.size, 1, none⟩) (v := .string ⟨#[]⟩) (by go_simp); have f1 := keep_frozen hb1 (p := ⟨w.heap.size, 1, none⟩) (v := .string ⟨#[]⟩) (by go_simp) (by go_simp); have c2 := keep_cell hb1 (p := ⟨w.heap.size, 2, none⟩) (v := .int .i64 0) (by go_simp); have f2 := keep_frozen hb1 (p := ⟨w.heap.size, 2, none⟩) (v := .int .i64 0) (by go_simp) (by go_simp); have c3 := keep_cell hb1 (p := ⟨w.heap.size, 3, none⟩) (v := .int .i64 0) (by go_simp); have f3 := keep_frozen hb1 (p := ⟨w.heap.size, 3, none⟩) (v := .int .i64 0) (by go_simp) (by go_simp); have c4 := keep_cell hb1 (p := ⟨w.heap.size, 4, none⟩) (v := .int .i64 0) (by go_simp); have f4 := keep_frozen hb1 (p := ⟨w.heap.size, 4, none⟩) (v := .int .i64 0) (by go_simp) (by go_simp)) | (go_at_call 116; refine (HD.out _).mono ?_; rintro e w2 ⟨rfl, hb2⟩; replace f0 := keep_frozen hb2 c0 f0; replace c0 := keep_cell hb2 c0; replace f1 := keep_frozen hb2 c1 f1; replace c1 := keep_cell hb2 c1; replace f2 := keep_frozen hb2 c2 f2; replace c2 := keep_cell hb2 c2; replace f3 := keep_frozen hb2 c3 f3; replace c3 := keep_cell hb2 c3; replace f4 := keep_frozen hb2 c4 f4; replace c4 := keep_cell hb2 c4))
  exact end_W (by simp [results, results87, go_sem, noWW, numOr, c0, c1, c2, c3, c4]) rfl (by repeat (first | with_reducible exact Below.refl _ _ | with_reducible refine bel_alloc ?_ _ | with_reducible refine bel_set ?_ (by first | exact Nat.le_refl _ | (simp; done) | (simp; omega)) _ | with_reducible refine Below.drew ?_ | refine bel_trans ?_ (by assumption)))
theorem number_hexlong (run d : ByteArray) (w : World) (HC : Hid (∀ W, Calls prog 93 #[.string run, .string ⟨#[48, 120]⟩] W fun e w' => e = .returned (.tuple #[.string d, .bool true]) ∧ w' = W)) (d1 : (16 : Int) < d.size) :
  Calls prog 87 #[.string run] w (retW noWW false w) := by
 go_enter func87, ntmps87
 go_wp2_with (go_at_call 93; refine (HC.out _).mono ?_; rintro e w' ⟨rfl, hw'⟩; replace hw' := hw'.symm; subst hw')
 exact end_W (by simp [results, results87, go_sem, noWW]) rfl (by repeat (first | with_reducible exact Below.refl _ _ | with_reducible refine bel_alloc ?_ _ | with_reducible refine bel_set ?_ (by first | exact Nat.le_refl _ | (simp; done) | (simp; omega)) _ | with_reducible refine Below.drew ?_ | refine bel_trans ?_ (by assumption)))
theorem number_declong (run : ByteArray) (w : World) (HC : Hid (∀ W, Calls prog 93 #[.string run, .string ⟨#[48, 120]⟩] W fun e w' => e = .returned (.tuple #[.string run, .bool false]) ∧ w' = W)) (d1 : (19 : Int) < run.size) :
  Calls prog 87 #[.string run] w (retW noWW false w) := by
 go_enter func87, ntmps87
 go_wp2_with (go_at_call 93; refine (HC.out _).mono ?_; rintro e w' ⟨rfl, hw'⟩; replace hw' := hw'.symm; subst hw')
 exact end_W (by simp [results, results87, go_sem, noWW]) rfl (by repeat (first | with_reducible exact Below.refl _ _ | with_reducible refine bel_alloc ?_ _ | with_reducible refine bel_set ?_ (by first | exact Nat.le_refl _ | (simp; done) | (simp; omega)) _ | with_reducible refine Below.drew ?_ | refine bel_trans ?_ (by assumption)))
theorem number_deczero (run : ByteArray) (w : World) (HC : Hid (∀ W, Calls prog 93 #[.string run, .string ⟨#[48, 120]⟩] W fun e w' => e = .returned (.tuple #[.string run, .bool false]) ∧ w' = W)) (d1 : (run.size : Int) ≤ 19) (d0 : 1 < (run.size : Int)) (ix : ∀ W, (Instr.index 9 (.string run) (.int .i64 0)).run prog W = .ok (.int .u8 48) W) :
  Calls prog 87 #[.string run] w (retW noWW false w) := by
 go_enter func87, ntmps87
 go_wp2_with (go_at_call 93; refine (HC.out _).mono ?_; rintro e w' ⟨rfl, hw'⟩; replace hw' := hw'.symm; subst hw')
 exact end_W (by simp [results, results87, go_sem, noWW]) rfl (by repeat (first | with_reducible exact Below.refl _ _ | with_reducible refine bel_alloc ?_ _ | with_reducible refine bel_set ?_ (by first | exact Nat.le_refl _ | (simp; done) | (simp; omega)) _ | with_reducible refine Below.drew ?_ | refine bel_trans ?_ (by assumption)))
theorem number_dec (d : ByteArray) (w : World) (b0 : Int) (HC : Hid (∀ W, Calls prog 93 #[.string d, .string ⟨#[48, 120]⟩] W fun e w' => e = .returned (.tuple #[.string d, .bool false]) ∧ w' = W)) (HD : Hid (∀ W, Calls prog 116 #[.string d] W (retP (.string d) W)))
  (d1 : (d.size : Int) ≤ 19) (ix : ∀ W, (Instr.index 9 (.string d) (.int .i64 0)).run prog W = .ok (.int .u8 b0) W) (q48 : (b0 == 48) = false) (HP : Hid (∀ W, Below w.heap.size w W → Calls prog 115 #[.string d, .int .i64 10, .int .i64 64] W (retN (num10 d.data.toList) W))) :
  Calls prog 87 #[.string d] w (retW (numOr d (num10 d.data.toList)).1 (numOr d (num10 d.data.toList)).2 w) := by
 cases hr : num10 d.data.toList with
 | none =>
  rw [hr] at HP
  have HP : Hid (∀ W, Below w.heap.size w W → Calls prog 115 #[.string d, .int .i64 10, .int .i64 64] W fun e w' => (∃ v t p, e = .returned (.tuple #[.int .i64 v, .iface t p])) ∧ Below W.heap.size W w') := fun W hW => by
   refine (HP.out W hW).mono ?_;rintro e w' ⟨⟨v, er, rfl, h | ⟨_, t, p, rfl⟩⟩, hb⟩
   ·cases h.1
   ·exact ⟨⟨v, t, p, rfl⟩, hb⟩
  clear hr
  go_enter func87, ntmps87
  go_wp2_with (first | (go_at_call 93; refine (HC.out _).mono ?_; rintro e w' ⟨rfl, hw'⟩; replace hw' := hw'.symm; subst hw') | (go_at_call 115; refine (HP.out _ (by repeat (first | with_reducible exact Below.refl _ _ | with_reducible refine bel_alloc ?_ _ | with_reducible refine bel_set ?_ (by first | exact Nat.le_refl _ | (simp; done) | (simp; omega)) _ | with_reducible refine Below.drew ?_ | refine bel_trans ?_ (by assumption)))).mono ?_; rintro e w1 ⟨⟨v, te, pe, rfl⟩, hb1⟩; have c0 := keep_cell hb1 (p := ⟨w.heap.size, 0, none⟩) (v := .int .i64 0) (by go_simp); have f0 := keep_frozen hb1 (p := ⟨w.heap.size, 0, none⟩) (v := .int .i64 0) (by go_simp) (by go_simp); have c1 := keep_cell hb1 (p := ⟨w.heap.size, 1, none⟩) (v := .string ⟨#[]⟩) (by go_simp); have f1 := keep_frozen hb1 (p := ⟨w.heap.size, 1, none⟩) (v := .string ⟨#[]⟩) (by go_simp) (by go_simp); have c2 := keep_cell hb1 (p := ⟨w.heap.size, 2, none⟩) (v := .int .i64 0) (by go_simp); have f2 := keep_frozen hb1 (p := ⟨w.heap.size, 2, none⟩) (v := .int .i64 0) (by go_simp) (by go_simp); have c3 := keep_cell hb1 (p := ⟨w.heap.size, 3, none⟩) (v := .int .i64 0) (by go_simp); have f3 := keep_frozen hb1 (p := ⟨w.heap.size, 3, none⟩) (v := .int .i64 0) (by go_simp) (by go_simp); have c4 := keep_cell hb1 (p := ⟨w.heap.size, 4, none⟩) (v := .int .i64 0) (by go_simp); have f4 := keep_frozen hb1 (p := ⟨w.heap.size, 4, none⟩) (v := .int .i64 0) (by go_simp) (by go_simp)))
  exact end_W (by simp [results, results87, go_sem, noWW, numOr, c0, c1, c2, c3, c4]) rfl (by repeat (first | with_reducible exact Below.refl _ _ | with_reducible refine bel_alloc ?_ _ | with_reducible refine bel_set ?_ (by first | exact Nat.le_refl _ | (simp; done) | (simp; omega)) _ | with_reducible refine Below.drew ?_ | refine bel_trans ?_ (by assumption)))
 | some n =>
  rw [hr] at HP
  have HP : Hid (∀ W, Below w.heap.size w W → Calls prog 115 #[.string d, .int .i64 10, .int .i64 64] W fun e w' => e = .returned (.tuple #[.int .i64 n, .nilIface]) ∧ Below W.heap.size W w') := fun W hW => by
   refine (HP.out W hW).mono ?_;rintro e w' ⟨⟨v, er, rfl, ⟨h, rfl⟩ | h⟩, hb⟩
   ·cases h; exact ⟨rfl, hb⟩
   ·cases h.1
  clear hr
  go_enter func87, ntmps87
  go_wp2_with (first | (go_at_call 93; refine (HC.out _).mono ?_; rintro e w' ⟨rfl, hw'⟩; replace hw' := hw'.symm; subst hw') | (go_at_call 115; refine (HP.out _ (by repeat (first | with_reducible exact Below.refl _ _ | with_reducible refine bel_alloc ?_ _ | with_reducible refine bel_set ?_ (by first | exact Nat.le_refl _ | (simp; done) | (simp; omega)) _ | with_reducible refine Below.drew ?_ | refine bel_trans ?_ (by assumption)))).mono ?_; rintro e w1 ⟨rfl, hb1⟩; have c0 := keep_cell hb1 (p := ⟨w.heap.size, 0, none⟩) (v := .int .i64 0) (by go_simp); have f0 := keep_frozen hb1 (p := ⟨w.heap.size, 0, none⟩) (v := .int .i64 0) (by go_simp) (by go_simp); have c1 := keep_cell hb1 (p := ⟨w.heap.size, 1, none⟩) (v := .string ⟨#[]⟩) (by go_simp); have f1 := keep_frozen hb1 (p := ⟨w.heap.size, 1, none⟩) (v := .string ⟨#[]⟩) (by go_simp) (by go_simp); have c2 := keep_cell hb1 (p := ⟨w.heap.size, 2, none⟩) (v := .int .i64 0) (by go_simp); have f2 := keep_frozen hb1 (p := ⟨w.heap.size, 2, none⟩) (v := .int .i64 0) (by go_simp) (by go_simp); have c3 := keep_cell hb1 (p := ⟨w.heap.size, 3, none⟩) (v := .int .i64 0) (by go_simp); have f3 := keep_frozen hb1 (p := ⟨w.heap.size, 3, none⟩) (v := .int .i64 0) (by go_simp) (by go_simp); have c4 := keep_cell hb1 (p := ⟨w.heap.size, 4, none⟩) (v := .int .i64 0) (by go_simp); have f4 := keep_frozen hb1 (p := ⟨w.heap.size, 4, none⟩) (v := .int .i64 0) (by go_simp) (by go_simp)) | (go_at_call 116; refine (HD.out _).mono ?_; rintro e w2 ⟨rfl, hb2⟩; replace f0 := keep_frozen hb2 c0 f0; replace c0 := keep_cell hb2 c0; replace f1 := keep_frozen hb2 c1 f1; replace c1 := keep_cell hb2 c1; replace f2 := keep_frozen hb2 c2 f2; replace c2 := keep_cell hb2 c2; replace f3 := keep_frozen hb2 c3 f3; replace c3 := keep_cell hb2 c3; replace f4 := keep_frozen hb2 c4 f4; replace c4 := keep_cell hb2 c4))
  exact end_W (by simp [results, results87, go_sem, noWW, numOr, c0, c1, c2, c3, c4]) rfl (by repeat (first | with_reducible exact Below.refl _ _ | with_reducible refine bel_alloc ?_ _ | with_reducible refine bel_set ?_ (by first | exact Nat.le_refl _ | (simp; done) | (simp; omega)) _ | with_reducible refine Below.drew ?_ | refine bel_trans ?_ (by assumption)))
theorem number_dec0 (d : ByteArray) (w : World) (HC : Hid (∀ W, Calls prog 93 #[.string d, .string ⟨#[48, 120]⟩] W fun e w' => e = .returned (.tuple #[.string d, .bool false]) ∧ w' = W)) (HD : Hid (∀ W, Calls prog 116 #[.string d] W (retP (.string d) W)))
  (d1 : (d.size : Int) = 1) (ix : ∀ W, (Instr.index 9 (.string d) (.int .i64 0)).run prog W = .ok (.int .u8 48) W) (HP : Hid (∀ W, Below w.heap.size w W → Calls prog 115 #[.string d, .int .i64 10, .int .i64 64] W (retN (num10 d.data.toList) W))) :
  Calls prog 87 #[.string d] w (retW (numOr d (num10 d.data.toList)).1 (numOr d (num10 d.data.toList)).2 w) := by
 cases hr : num10 d.data.toList with
 | none =>
  rw [hr] at HP
  have HP : Hid (∀ W, Below w.heap.size w W → Calls prog 115 #[.string d, .int .i64 10, .int .i64 64] W fun e w' => (∃ v t p, e = .returned (.tuple #[.int .i64 v, .iface t p])) ∧ Below W.heap.size W w') := fun W hW => by
   refine (HP.out W hW).mono ?_;rintro e w' ⟨⟨v, er, rfl, h | ⟨_, t, p, rfl⟩⟩, hb⟩
   ·cases h.1
   ·exact ⟨⟨v, t, p, rfl⟩, hb⟩
  clear hr
  go_enter func87, ntmps87
  go_wp2_with (first | (go_at_call 93; refine (HC.out _).mono ?_; rintro e w' ⟨rfl, hw'⟩; replace hw' := hw'.symm; subst hw') | (go_at_call 115; refine (HP.out _ (by repeat (first | with_reducible exact Below.refl _ _ | with_reducible refine bel_alloc ?_ _ | with_reducible refine bel_set ?_ (by first | exact Nat.le_refl _ | (simp; done) | (simp; omega)) _ | with_reducible refine Below.drew ?_ | refine bel_trans ?_ (by assumption)))).mono ?_; rintro e w1 ⟨⟨v, te, pe, rfl⟩, hb1⟩; have c0 := keep_cell hb1 (p := ⟨w.heap.size, 0, none⟩) (v := .int .i64 0) (by go_simp); have f0 := keep_frozen hb1 (p := ⟨w.heap.size, 0, none⟩) (v := .int .i64 0) (by go_simp) (by go_simp); have c1 := keep_cell hb1 (p := ⟨w.heap.size, 1, none⟩) (v := .string ⟨#[]⟩) (by go_simp); have f1 := keep_frozen hb1 (p := ⟨w.heap.size, 1, none⟩) (v := .string ⟨#[]⟩) (by go_simp) (by go_simp); have c2 := keep_cell hb1 (p := ⟨w.heap.size, 2, none⟩) (v := .int .i64 0) (by go_simp); have f2 := keep_frozen hb1 (p := ⟨w.heap.size, 2, none⟩) (v := .int .i64 0) (by go_simp) (by go_simp); have c3 := keep_cell hb1 (p := ⟨w.heap.size, 3, none⟩) (v := .int .i64 0) (by go_simp); have f3 := keep_frozen hb1 (p := ⟨w.heap.size, 3, none⟩) (v := .int .i64 0) (by go_simp) (by go_simp); have c4 := keep_cell hb1 (p := ⟨w.heap.size, 4, none⟩) (v := .int .i64 0) (by go_simp); have f4 := keep_frozen hb1 (p := ⟨w.heap.size, 4, none⟩) (v := .int .i64 0) (by go_simp) (by go_simp)))
  exact end_W (by simp [results, results87, go_sem, noWW, numOr, c0, c1, c2, c3, c4]) rfl (by repeat (first | with_reducible exact Below.refl _ _ | with_reducible refine bel_alloc ?_ _ | with_reducible refine bel_set ?_ (by first | exact Nat.le_refl _ | (simp; done) | (simp; omega)) _ | with_reducible refine Below.drew ?_ | refine bel_trans ?_ (by assumption)))
 | some n =>
  rw [hr] at HP
  have HP : Hid (∀ W, Below w.heap.size w W → Calls prog 115 #[.string d, .int .i64 10, .int .i64 64] W fun e w' => e = .returned (.tuple #[.int .i64 n, .nilIface]) ∧ Below W.heap.size W w') := fun W hW => by
   refine (HP.out W hW).mono ?_;rintro e w' ⟨⟨v, er, rfl, ⟨h, rfl⟩ | h⟩, hb⟩
   ·cases h; exact ⟨rfl, hb⟩
   ·cases h.1
  clear hr
  go_enter func87, ntmps87
  go_wp2_with (first | (go_at_call 93; refine (HC.out _).mono ?_; rintro e w' ⟨rfl, hw'⟩; replace hw' := hw'.symm; subst hw') | (go_at_call 115; refine (HP.out _ (by repeat (first | with_reducible exact Below.refl _ _ | with_reducible refine bel_alloc ?_ _ | with_reducible refine bel_set ?_ (by first | exact Nat.le_refl _ | (simp; done) | (simp; omega)) _ | with_reducible refine Below.drew ?_ | refine bel_trans ?_ (by assumption)))).mono ?_; rintro e w1 ⟨rfl, hb1⟩; have c0 := keep_cell hb1 (p := ⟨w.heap.size, 0, none⟩) (v := .int .i64 0) (by go_simp); have f0 := keep_frozen hb1 (p := ⟨w.heap.size, 0, none⟩) (v := .int .i64 0) (by go_simp) (by go_simp); have c1 := keep_cell hb1 (p := ⟨w.heap.size, 1, none⟩) (v := .string ⟨#[]⟩) (by go_simp); have f1 := keep_frozen hb1 (p := ⟨w.heap.size, 1, none⟩) (v := .string ⟨#[]⟩) (by go_simp) (by go_simp); have c2 := keep_cell hb1 (p := ⟨w.heap.size, 2, none⟩) (v := .int .i64 0) (by go_simp); have f2 := keep_frozen hb1 (p := ⟨w.heap.size, 2, none⟩) (v := .int .i64 0) (by go_simp) (by go_simp); have c3 := keep_cell hb1 (p := ⟨w.heap.size, 3, none⟩) (v := .int .i64 0) (by go_simp); have f3 := keep_frozen hb1 (p := ⟨w.heap.size, 3, none⟩) (v := .int .i64 0) (by go_simp) (by go_simp); have c4 := keep_cell hb1 (p := ⟨w.heap.size, 4, none⟩) (v := .int .i64 0) (by go_simp); have f4 := keep_frozen hb1 (p := ⟨w.heap.size, 4, none⟩) (v := .int .i64 0) (by go_simp) (by go_simp)) | (go_at_call 116; refine (HD.out _).mono ?_; rintro e w2 ⟨rfl, hb2⟩; replace f0 := keep_frozen hb2 c0 f0; replace c0 := keep_cell hb2 c0; replace f1 := keep_frozen hb2 c1 f1; replace c1 := keep_cell hb2 c1; replace f2 := keep_frozen hb2 c2 f2; replace c2 := keep_cell hb2 c2; replace f3 := keep_frozen hb2 c3 f3; replace c3 := keep_cell hb2 c3; replace f4 := keep_frozen hb2 c4 f4; replace c4 := keep_cell hb2 c4))
  exact end_W (by simp [results, results87, go_sem, noWW, numOr, c0, c1, c2, c3, c4]) rfl (by repeat (first | with_reducible exact Below.refl _ _ | with_reducible refine bel_alloc ?_ _ | with_reducible refine bel_set ?_ (by first | exact Nat.le_refl _ | (simp; done) | (simp; omega)) _ | with_reducible refine Below.drew ?_ | refine bel_trans ?_ (by assumption)))
theorem numberWord_any (run : ByteArray) (w : World) (he : ErrTab w) (hne : run.size ≠ 0) (hlim : run.size ≤ 281474976710656) (hn : ∀ b ∈ run.data.toList, nameB (b.toNat : Int) = true) :
  Calls prog 87 #[.string run] w (retW (numW run).1 (numW run).2 w) := by
 have HC : ∀ W, Calls prog 93 #[.string run, .string ⟨#[48, 120]⟩] W fun e w' => e = .returned (.tuple #[.string (digitsOf run), .bool (isHexW run)]) ∧ w' = W := fun W => Tryz.strings_CutPrefix run ⟨#[48, 120]⟩ W;have HD : Hid (∀ W, Calls prog 116 #[.string run] W (retP (.string run) W)) := fun W => clone_any run W hlim;have ix : ∀ W, (Instr.index 9 (.string run) (.int .i64 0)).run prog W = .ok (.int .u8 (byteAt run 0)) W := fun W => index_byte run 0 (by omega) W;have hx := first_name run hn;unfold numW
 cases hh : isHexW run with
 | true =>
  rw [hh] at HC;rw [if_pos rfl]
  by_cases hl : 16 < (digitsOf run).size
  ·rw [if_pos hl]
   exact number_hexlong run _ w HC (by omega)
  ·rw [if_neg hl]
   exact number_hex run _ w HC HD (by omega) (fun W hW => parse16_any _ (by omega) hx.1 hx.2 W (he.keep hW))
 | false =>
  rw [hh, digitsOf_not run hh] at HC;rw [if_neg (by decide)]
  by_cases hl : 19 < run.size
  ·rw [if_pos (.inl hl)]
   exact number_declong run w HC (by omega)
  ·by_cases h0 : byteAt run 0 = 48
   ·rw [h0] at ix
    by_cases h1 : 1 < run.size
    ·rw [if_pos (.inr ⟨h0, h1⟩)]
     exact number_deczero run w HC (by omega) (by omega) ix
    ·rw [if_neg (by rintro (h | ⟨_, h⟩) <;> omega)]
     exact number_dec0 run w HC HD (by omega) ix (fun W hW => parse10_any _ hlim W (he.keep hW))
   ·rw [if_neg (by rintro (h | ⟨h, _⟩) <;> first | omega | exact h0 h)]
    exact number_dec run w _ HC HD (by omega) ix (by simpa using h0) (fun W hW => parse10_any _ hlim W (he.keep hW))
end Go.Proofs.YtlonbaefdffbeaaGreatDoor

