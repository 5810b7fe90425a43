/- Package types: contracts of its leaves: isDigit, isLetter, isInteger, the form's own questions, roundUp, Join, Clone. -/
import Derived.Test.YtpedfnfangaelaaDoorRows
import Derived.Test.YtpedfnfangaelaaDoorShelf
import Derived.Deep.RegionHeld3
import Derived.Deep.DeepCutAuto
import Derived.Deep.Light
import Derived.Deep.Draws
import Derived.Deep.QuietTactic
import Derived.BigQuiet
import Derived.LoopTactic
import Derived.WalkKit
import Derived.ProofKit
import Derived.OpenShut
import Derived.WalkSpells
namespace Go.Proofs.YtpedfnfangaelaaDoor
open Go.ChangeShapes Go.WideShapes Go.ChangeAt Go.RowKit
set_option linter.unusedSimpArgs false
set_option linter.unusedVariables false

/-- The answer is this; of what was there nothing has turned. -/
def retP (v : Value) (w : World) : Ending → World → Prop := fun e w' => e = .returned v ∧ Below w.heap.size w w'
theorem keep_cell {W w1 : World} (hb : Below W.heap.size W w1) {p : Addr} {v : Value} (h : W.cell? p = some v) : w1.cell? p = some v := by
  rw [hb.cell (p := p) (block_lt_of_cell h)]; exact h
theorem keep_frozen {W w1 : World} (hb : Below W.heap.size W w1) {p : Addr} {v : Value} (h : W.cell? p = some v) (hf : W.frozen? p = false) : w1.frozen? p = false := by
  rw [hb.frozen (p := p) (block_lt_of_cell h)]; exact hf
theorem bel_trans {w a b : World} (h : Below w.heap.size w a) (k : Below a.heap.size a b) : Below w.heap.size w b := h.trans (k.mono h.size)
theorem bel_alloc {w w' : World} (h : Below w.heap.size w w') (o : Obj) : Below w.heap.size w (w'.alloc o) := h.alloc h.size o
theorem bel_set {w w' : World} (h : Below w.heap.size w w') {p : Addr} (hp : w.heap.size ≤ p.block) (u : Value) : Below w.heap.size w (w'.setCell p u) := h.setCell hp u
theorem bsize {W w1 : World} (hb : Below W.heap.size W w1) : W.heap.size ≤ w1.heap.size := hb.size
theorem heap_set_same {w : World} {b o : Nat} {c : Array Value} {t : TypeId} {fr : Nat × Nat} (h : w.heap[b]? = some (.cells c t fr)) (v : Value) : (w.setCell ⟨b, o, none⟩ v).heap[b]? = some (.cells (c.setIfInBounds o v) t fr) := by
  simp only [World.setCell, Array.getElem?_modify, if_true, h, Option.map_some]
  rfl
theorem heap_set_other {w : World} {b b' o : Nat} {v : Value} (h : b ≠ b') : (w.setCell ⟨b', o, none⟩ v).heap[b]? = w.heap[b]? := Below.heap_setCell w ⟨b', o, none⟩ v b h
theorem heap_cell {w : World} {b o : Nat} {c : Array Value} {t : TypeId} {fr : Nat × Nat} {v : Value} (h : w.heap[b]? = some (.cells c t fr)) (hv : c[o]? = some v) : w.cell? ⟨b, o, none⟩ = some v := by
  rw [cell_of_row w b o c t fr h]; exact hv
theorem heap_frozen {w : World} {b o : Nat} {c : Array Value} {t : TypeId} (h : w.heap[b]? = some (.cells c t (0, 0))) : w.frozen? ⟨b, o, none⟩ = false := by
  simp [World.frozen?, h]
theorem size_set (w : World) (p : Addr) (u : Value) : (w.setCell p u).heap.size = w.heap.size := by simp [World.setCell]
theorem keep_heap {W w1 : World} (hb : Below W.heap.size W w1) {b : Nat} {o : Obj} (h : W.heap[b]? = some o) : w1.heap[b]? = some o := (hb.block b (Array.getElem?_eq_some_iff.1 h).1).trans h
theorem heap_new (w : World) (o : Obj) : (w.alloc o).heap[w.heap.size]? = some o := by show (w.heap.push o)[w.heap.size]? = _; exact Array.getElem?_push_size
theorem new_heap {W w1 : World} {o : Obj} (hb : Below (W.alloc o).heap.size (W.alloc o) w1) : w1.heap[W.heap.size]? = some o := keep_heap hb (heap_new W o)
theorem old_heap {W w1 : World} {o o' : Obj} {b : Nat} (hb : Below (W.alloc o).heap.size (W.alloc o) w1) (h : W.heap[b]? = some o') : w1.heap[b]? = some o' := by
  have hlt := (Array.getElem?_eq_some_iff.1 h).1
  exact keep_heap hb ((Below.heap_alloc W o b hlt).trans h)
theorem bel_drewN {B : Nat} {a w : World} (h : Below B a w) (n : Nat) : Below B a (w.drewN n) := ⟨h.os, h.tape, h.output, h.size, h.block⟩

def digitB (b : Int) : Bool := decide (48 ≤ b) && decide (b ≤ 57)
def letterB (b : Int) : Bool := (decide (97 ≤ b) && decide (b ≤ 122)) || ((decide (65 ≤ b) && decide (b ≤ 90)) || b == 95)
/-- The byte at a place of a text. -/
def byteAt (t : ByteArray) (i : Nat) : Int := ((t.data.toList)[i]?.map (fun b => (b.toNat : Int))).getD 0
theorem byteAt_get (t : ByteArray) (i : Nat) (h : i < t.size) : ((t[i]'h).toNat : Int) = byteAt t i := by
  have hl : i < t.data.toList.length := h
  have e : t.data.toList[i]? = some (t[i]'h) := by rw [List.getElem?_eq_getElem hl]; rfl
  unfold byteAt
  rw [e]
  rfl
theorem index_byte (t : ByteArray) (k : Nat) (hk : k < t.size) (w : World) : (Instr.index 9 (.string t) (.int .i64 (k : Int))).run Tryd.prog w = .ok (.int .u8 (byteAt t k)) w := by
  rw [run_index_string w _ _ _ _ Tryd.underlying9, dif_pos ⟨by omega, by omega⟩]
  congr 2
  exact byteAt_get t k hk
theorem byteAt_range (t : ByteArray) (i : Nat) : 0 ≤ byteAt t i ∧ byteAt t i ≤ 255 := by
  unfold byteAt
  cases t.data.toList[i]? with
  | none => simp
  | some b => simp; have := b.toNat_lt; omega
/-- Are two texts one? -/
def isS (s : ByteArray) (c : List UInt8) : Bool := s.data.toList == c
theorem isS_eq (s : ByteArray) (c : List UInt8) : isS s c = (s.toList == c) := by
  unfold isS
  rw [ByteArray.toList_eq]
theorem isS_iff (s : ByteArray) (c : List UInt8) : isS s c = true ↔ s.data.toList = c := by
  unfold isS
  rw [beq_iff_eq]

def cChar : List UInt8 := [99, 104, 97, 114]
def bChar : ByteArray := (⟨#[99, 104, 97, 114]⟩ : ByteArray)
def cInt : List UInt8 := [105, 110, 116]
def bInt : ByteArray := (⟨#[105, 110, 116]⟩ : ByteArray)
def cLong : List UInt8 := [108, 111, 110, 103]
def bLong : ByteArray := (⟨#[108, 111, 110, 103]⟩ : ByteArray)
def cVoid : List UInt8 := [118, 111, 105, 100]
def bVoid : ByteArray := (⟨#[118, 111, 105, 100]⟩ : ByteArray)
def cStruct : List UInt8 := [115, 116, 114, 117, 99, 116]
def bStruct : ByteArray := (⟨#[115, 116, 114, 117, 99, 116]⟩ : ByteArray)
/-- Is it a type of numbers? -/
def intS (s : ByteArray) : Bool := isS s cChar || (isS s cInt || isS s cLong)
set_option maxHeartbeats 1000000 in
theorem isDigit_any (b : Int) (w : World) : Calls Tryd.prog 48 #[.int .u8 b] w fun e w' => e = .returned (.bool (digitB b)) ∧ w' = w := by
  by_cases h1 : 48 ≤ b
  · have q1 : decide (48 ≤ b) = true := decide_eq_true h1
    have e : digitB b = decide (b ≤ 57) := by simp only [digitB, q1, Bool.true_and]
    rw [e]
    go_enter Tryd.func48, Tryd.ntmps48
    go_wp2
    go_ret
    exact ⟨rfl, rfl⟩
  · have q1 : decide (48 ≤ b) = false := decide_eq_false h1
    have e : digitB b = false := by simp only [digitB, q1, Bool.false_and]
    rw [e]
    go_enter Tryd.func48, Tryd.ntmps48
    go_wp2
    go_ret
    exact ⟨rfl, rfl⟩
theorem letter_cases (b : Int) : b < 65 ∨ (65 ≤ b ∧ b ≤ 90) ∨ b = 95 ∨ (91 ≤ b ∧ b ≤ 96 ∧ b ≠ 95) ∨ (97 ≤ b ∧ b ≤ 122) ∨ 122 < b := by omega
set_option maxHeartbeats 2000000 in
theorem isLetter_any (b : Int) (w : World) : Calls Tryd.prog 49 #[.int .u8 b] w fun e w' => e = .returned (.bool (letterB b)) ∧ w' = w := by
  rcases letter_cases b with h | h | h | h | h | h
  · have e : letterB b = false := by unfold letterB; simp; omega
    rw [e]
    have q0 : decide (97 ≤ b) = false := by simp; omega
    have q1 : decide (b ≤ 122) = true := by simp; omega
    have q2 : decide (65 ≤ b) = false := by simp; omega
    have q3 : decide (b ≤ 90) = true := by simp; omega
    have q5 : (b == 95) = false := by simp; omega
    clear e h
    go_enter Tryd.func49, Tryd.ntmps49
    go_wp2
    go_ret
    exact ⟨rfl, rfl⟩
  · have e : letterB b = true := by unfold letterB; simp; omega
    rw [e]
    have q0 : decide (97 ≤ b) = false := by simp; omega
    have q1 : decide (b ≤ 122) = true := by simp; omega
    have q2 : decide (65 ≤ b) = true := by simp; omega
    have q3 : decide (b ≤ 90) = true := by simp; omega
    clear e h
    go_enter Tryd.func49, Tryd.ntmps49
    go_wp2
    go_ret
    exact ⟨rfl, rfl⟩
  · have e : letterB b = true := by unfold letterB; simp; omega
    rw [e]
    have q0 : decide (97 ≤ b) = false := by simp; omega
    have q1 : decide (b ≤ 122) = true := by simp; omega
    have q2 : decide (65 ≤ b) = true := by simp; omega
    have q3 : decide (b ≤ 90) = false := by simp; omega
    have q5 : (b == 95) = true := by simp; omega
    clear e h
    go_enter Tryd.func49, Tryd.ntmps49
    go_wp2
    go_ret
    exact ⟨rfl, rfl⟩
  · have e : letterB b = false := by unfold letterB; simp; omega
    rw [e]
    have q0 : decide (97 ≤ b) = false := by simp; omega
    have q1 : decide (b ≤ 122) = true := by simp; omega
    have q2 : decide (65 ≤ b) = true := by simp; omega
    have q3 : decide (b ≤ 90) = false := by simp; omega
    have q5 : (b == 95) = false := by simp; omega
    clear e h
    go_enter Tryd.func49, Tryd.ntmps49
    go_wp2
    go_ret
    exact ⟨rfl, rfl⟩
  · have e : letterB b = true := by unfold letterB; simp; omega
    rw [e]
    have q0 : decide (97 ≤ b) = true := by simp; omega
    have q1 : decide (b ≤ 122) = true := by simp; omega
    have q2 : decide (65 ≤ b) = true := by simp; omega
    have q3 : decide (b ≤ 90) = false := by simp; omega
    clear e h
    go_enter Tryd.func49, Tryd.ntmps49
    go_wp2
    go_ret
    exact ⟨rfl, rfl⟩
  · have e : letterB b = false := by unfold letterB; simp; omega
    rw [e]
    have q0 : decide (97 ≤ b) = true := by simp; omega
    have q1 : decide (b ≤ 122) = false := by simp; omega
    have q2 : decide (65 ≤ b) = true := by simp; omega
    have q3 : decide (b ≤ 90) = false := by simp; omega
    have q5 : (b == 95) = false := by simp; omega
    clear e h
    go_enter Tryd.func49, Tryd.ntmps49
    go_wp2
    go_ret
    exact ⟨rfl, rfl⟩
set_option maxHeartbeats 1000000 in
theorem isInteger_any (s : ByteArray) (w : World) : Calls Tryd.prog 30 #[.string s] w fun e w' => e = .returned (.bool (intS s)) ∧ w' = w := by
  cases h1 : isS s cChar
  · cases h2 : isS s cInt
    · have e : intS s = isS s cLong := by simp only [intS, h1, h2, Bool.false_or]
      rw [e]
      simp only [isS_eq, cChar, cInt, cLong] at h1 h2 ⊢
      go_enter Tryd.func30, Tryd.ntmps30
      go_wp2
      go_ret
      exact ⟨rfl, rfl⟩
    · have e : intS s = true := by simp only [intS, h1, h2, Bool.false_or, Bool.true_or]
      rw [e]
      simp only [isS_eq, cChar, cInt, cLong] at h1 h2
      go_enter Tryd.func30, Tryd.ntmps30
      go_wp2
      go_ret
      exact ⟨rfl, rfl⟩
  · have e : intS s = true := by simp only [intS, h1, Bool.true_or]
    rw [e]
    simp only [isS_eq, cChar, cInt, cLong] at h1
    go_enter Tryd.func30, Tryd.ntmps30
    go_wp2
    go_ret
    exact ⟨rfl, rfl⟩
/-- A form: what a type's text says. -/
structure Fm where
  word : ByteArray
  name : ByteArray
  stars : Int
  count : Int
def Fm.v (f : Fm) : Value := .agg #[.string f.word, .string f.name, .int .i64 f.stars, .int .i64 f.count]
def Fm.isArray (f : Fm) : Bool := decide (0 < f.count)
def Fm.isPointer (f : Fm) : Bool := decide (0 < f.stars) && !f.isArray
def Fm.isStruct (f : Fm) : Bool := isS f.word cStruct && f.stars == 0
set_option maxHeartbeats 1000000 in
theorem isArray_any (f : Fm) (w : World) : Calls Tryd.prog 27 #[f.v] w (retP (.bool f.isArray) w) := by
  obtain ⟨a, b, c, d⟩ := f
  simp only [Fm.v, Fm.isArray]
  go_enter Tryd.func27, Tryd.ntmps27
  go_wp2
  go_ret
  exact ⟨rfl, (by repeat (first | with_reducible exact Below.refl _ _ | with_reducible refine bel_alloc ?_ _ | with_reducible refine bel_set ?_ (by first | exact Nat.le_refl _ | (simp; done) | (simp; omega)) _ | with_reducible refine Below.drew ?_ | refine bel_trans ?_ (by assumption)))⟩
set_option maxHeartbeats 1000000 in
theorem isPointer_any (f : Fm) (w : World) : Calls Tryd.prog 33 #[f.v] w (retP (.bool f.isPointer) w) := by
  have HA : Hid (∀ w, Calls Tryd.prog 27 #[f.v] w (retP (.bool f.isArray) w)) := fun w => isArray_any f w
  obtain ⟨a, b, c, d⟩ := f
  cases h : decide (0 < c)
  · simp only [Fm.v, Fm.isPointer, h, Bool.false_and]
    go_enter Tryd.func33, Tryd.ntmps33
    go_wp2
    go_ret
    exact ⟨rfl, (by repeat (first | with_reducible exact Below.refl _ _ | with_reducible refine bel_alloc ?_ _ | with_reducible refine bel_set ?_ (by first | exact Nat.le_refl _ | (simp; done) | (simp; omega)) _ | with_reducible refine Below.drew ?_ | refine bel_trans ?_ (by assumption)))⟩
  · simp only [Fm.isPointer, h, Bool.true_and]
    generalize Fm.isArray ⟨a, b, c, d⟩ = ia at *
    simp only [Fm.v] at *
    go_enter Tryd.func33, Tryd.ntmps33
    go_wp2_with (go_at_call 27; refine (HA.out _).mono ?_; rintro e w1 ⟨rfl, hb1⟩)
    go_ret
    exact ⟨rfl, (by repeat (first | with_reducible exact Below.refl _ _ | with_reducible refine bel_alloc ?_ _ | with_reducible refine bel_set ?_ (by first | exact Nat.le_refl _ | (simp; done) | (simp; omega)) _ | with_reducible refine Below.drew ?_ | refine bel_trans ?_ (by assumption)))⟩
set_option maxHeartbeats 1000000 in
theorem isStruct_any (f : Fm) (w : World) : Calls Tryd.prog 39 #[f.v] w (retP (.bool f.isStruct) w) := by
  obtain ⟨a, b, c, d⟩ := f
  cases h : isS a cStruct
  · simp only [Fm.v, Fm.isStruct, h, Bool.false_and]
    simp only [isS_eq, cStruct] at h
    go_enter Tryd.func39, Tryd.ntmps39
    go_wp2
    go_ret
    exact ⟨rfl, (by repeat (first | with_reducible exact Below.refl _ _ | with_reducible refine bel_alloc ?_ _ | with_reducible refine bel_set ?_ (by first | exact Nat.le_refl _ | (simp; done) | (simp; omega)) _ | with_reducible refine Below.drew ?_ | refine bel_trans ?_ (by assumption)))⟩
  · simp only [Fm.v, Fm.isStruct, h, Bool.true_and]
    simp only [isS_eq, cStruct] at h
    go_enter Tryd.func39, Tryd.ntmps39
    go_wp2
    go_ret
    exact ⟨rfl, (by repeat (first | with_reducible exact Below.refl _ _ | with_reducible refine bel_alloc ?_ _ | with_reducible refine bel_set ?_ (by first | exact Nat.le_refl _ | (simp; done) | (simp; omega)) _ | with_reducible refine Below.drew ?_ | refine bel_trans ?_ (by assumption)))⟩
/-- The least number not below n that a divides. -/
def upI (n a : Int) : Int := (n + a - 1) / a * a
set_option maxHeartbeats 1000000 in
theorem roundUp_any (n a : Int) (h0 : 0 ≤ n) (h1 : n ≤ 1000000) (h2 : 1 ≤ a) (h3 : a ≤ 1000000) (w : World) : Calls Tryd.prog 51 #[.int .i64 n, .int .i64 a] w fun e w' => e = .returned (.int .i64 (upI n a)) ∧ w' = w := by
  have e1 : (n + a - 1).tdiv a = (n + a - 1) / a := Int.tdiv_eq_ediv_of_nonneg (by omega)
  have e2 : 0 ≤ (n + a - 1) / a := Int.ediv_nonneg (by omega) (by omega)
  have e4 : (n + a - 1) / a * a ≤ n + a - 1 := Int.ediv_mul_le _ (by omega)
  have e3 : (n + a - 1) / a ≤ n + a - 1 := Int.ediv_le_self _ (by omega)
  have e5 : 0 ≤ (n + a - 1) / a * a := Int.mul_nonneg e2 (by omega)
  have hne : ¬ a = 0 := by omega
  unfold upI
  generalize hq : (n + a - 1) / a = q at *
  have HM : Hid (q * a ≤ n + a - 1 ∧ 0 ≤ q * a) := ⟨e4, e5⟩
  have w1 : wrap64 (q * a) = q * a := by unfold wrap64; omega
  go_enter Tryd.func51, Tryd.ntmps51
  go_wp2
  go_ret
  exact ⟨rfl, rfl⟩
/-- The type that two numbers are reckoned in. -/
def joinS (a b : ByteArray) : ByteArray × Bool := if intS a && intS b then (if isS a cLong || isS b cLong then bLong else bInt, true) else (⟨#[]⟩, false)
set_option maxHeartbeats 1000000 in
theorem join_any (a b : ByteArray) (w : World) : Calls Tryd.prog 12 #[.string a, .string b] w fun e w' => e = .returned (.tuple #[.string (joinS a b).1, .bool (joinS a b).2]) ∧ w' = w := by
  have HA : Hid (∀ w, Calls Tryd.prog 30 #[.string a] w fun e w' => e = .returned (.bool (intS a)) ∧ w' = w) := fun w => isInteger_any a w
  have HB : Hid (∀ w, Calls Tryd.prog 30 #[.string b] w fun e w' => e = .returned (.bool (intS b)) ∧ w' = w) := fun w => isInteger_any b w
  unfold joinS
  generalize intS a = ia at *
  generalize intS b = ib at *
  cases ia
  · simp only [Bool.false_and, Bool.false_eq_true, if_false]
    go_enter Tryd.func12, Tryd.ntmps12
    go_wp2_with (go_at_call 30; refine (HA.out _).mono ?_; rintro e w1 ⟨rfl, rfl⟩)
    go_ret2
    exact ⟨rfl, rfl⟩
  cases ib
  · simp only [Bool.and_false, Bool.false_eq_true, if_false]
    go_enter Tryd.func12, Tryd.ntmps12
    go_wp2_with (go_at_call 30; first | (refine (HA.out _).mono ?_; rintro e w1 ⟨rfl, rfl⟩; clear HA) | (refine (HB.out _).mono ?_; rintro e w1 ⟨rfl, rfl⟩))
    go_ret2
    exact ⟨rfl, rfl⟩
  simp only [Bool.and_self, if_true]
  cases h1 : isS a cLong
  · cases h2 : isS b cLong
    · simp only [Bool.or_self, Bool.false_eq_true, if_false, bInt]
      simp only [isS_eq, cLong] at h1 h2
      go_enter Tryd.func12, Tryd.ntmps12
      go_wp2_with (go_at_call 30; first | (refine (HA.out _).mono ?_; rintro e w1 ⟨rfl, rfl⟩; clear HA) | (refine (HB.out _).mono ?_; rintro e w1 ⟨rfl, rfl⟩))
      go_ret2
      exact ⟨rfl, rfl⟩
    · simp only [Bool.false_or, if_true, bLong]
      simp only [isS_eq, cLong] at h1 h2
      go_enter Tryd.func12, Tryd.ntmps12
      go_wp2_with (go_at_call 30; first | (refine (HA.out _).mono ?_; rintro e w1 ⟨rfl, rfl⟩; clear HA) | (refine (HB.out _).mono ?_; rintro e w1 ⟨rfl, rfl⟩))
      go_ret2
      exact ⟨rfl, rfl⟩
  · simp only [Bool.true_or, if_true, bLong]
    simp only [isS_eq, cLong] at h1
    go_enter Tryd.func12, Tryd.ntmps12
    go_wp2_with (go_at_call 30; first | (refine (HA.out _).mono ?_; rintro e w1 ⟨rfl, rfl⟩; clear HA) | (refine (HB.out _).mono ?_; rintro e w1 ⟨rfl, rfl⟩))
    go_ret2
    exact ⟨rfl, rfl⟩
set_option maxHeartbeats 1000000 in
theorem clone_any (s : ByteArray) (w : World) (h : s.size ≤ 281474976710656) : Calls Tryd.prog 31 #[.string s] w (retP (.string s) w) := by
  have HC : Hid (∀ w, Calls Tryd.prog 46 #[.string s] w fun e w' => e = .returned (.string s) ∧ Below w.heap.size w w') := fun w => Tryd.stringslite_Clone s w h
  clear h
  go_enter Tryd.func31, Tryd.ntmps31
  go_wp2_with (go_at_call 46; refine (HC.out _).mono ?_; rintro e w1 ⟨rfl, hb1⟩)
  go_ret
  exact ⟨rfl, hb1⟩
end Go.Proofs.YtpedfnfangaelaaDoor
