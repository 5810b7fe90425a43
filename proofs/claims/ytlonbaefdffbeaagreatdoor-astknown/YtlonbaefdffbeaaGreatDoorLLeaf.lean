import Derived.Test.YtlonbaefdffbeaaGreatDoorRows
import Derived.Test.YtlonbaefdffbeaaGreatDoorShelf
import Derived.Deep.RegionHeld3
import Derived.Deep.DeepCutAuto
import Derived.Deep.Light
import Derived.Deep.Draws
import Derived.WalkKit
import Derived.ProofKit
import Derived.OpenShut
import Derived.WalkSpells
namespace Go.Proofs.YtlonbaefdffbeaaGreatDoor
open Go.ChangeShapes Go.WideShapes Go.ChangeAt Go.RowKit Go.Proofs.Tryz
set_option linter.unusedSimpArgs false
set_option linter.unusedVariables false
set_option maxHeartbeats 4000000
theorem zga {α : Type} {l : List α} {i : Nat} : l.toArray[i]? = l[i]? := List.getElem?_toArray
theorem zgs {α : Type} {a : α} {l : List α} {i : Nat} : (a :: l)[i + 1]? = l[i]? := rfl
theorem zgz {α : Type} {a : α} {l : List α} : (a :: l)[0]? = some a := rfl
theorem zsa {α : Type} {l : List α} {i : Nat} {a : α} : l.toArray.setIfInBounds i a = (l.set i a).toArray := List.setIfInBounds_toArray ..
theorem zsz {α : Type} {a x : α} {l : List α} : (x :: l).set 0 a = a :: l := rfl
theorem zss {α : Type} {a x : α} {l : List α} {i : Nat} : (x :: l).set (i + 1) a = x :: l.set i a := rfl
theorem zge {α : Type} {xs : Array α} {i : Nat} {a : α} (h : xs[i]? = some a) : ∃ h : i < xs.size, xs[i] = a := Array.getElem?_eq_some_iff.1 h
theorem zla {α : Type} {l m : List α} : (l ++ m).length = l.length + m.length := List.length_append
theorem zlc {α : Type} {a : α} {l : List α} : (a :: l).length = l.length + 1 := rfl
theorem zln {α : Type} : ([] : List α).length = 0 := rfl
theorem zr {P : Program} {ops : Array Oper} {Q : Exit → Act → World → Prop} {md : Region.Mode} {S : World → Prop} {r fuel : Nat} {listed : Array Bool} {a : Act} {w : World} {o : Oper} (hr : Region.ready md ops listed = [r]) (ho : ops[r]? = some o)
  (h : ∀ K' : Act → World → Prop, Shut (∀ a w, S w → (S w → wpAnyH P md ops Q S fuel (listed.setIfInBounds r true) a w) → K' a w) → if Region.wanted o (yielded ops a.tmps) = true then Oper.wp P o a w K' Q else K' (a.put o.dst undef) w) : wpAnyH P md ops Q S (fuel + 1) listed a w :=
  wpAnyH_ready hr (by simp) (AllReadyH.cons ho h AllReadyH.nil)

def retP (v : Value) (w : World) : Ending → World → Prop := fun e w' => e = .returned v ∧ Below w.heap.size w w'
theorem keep_cell {W w1 : World} (hb : Below W.heap.size W w1) {p : Addr} {v : Value} (h : W.cell? p = some v) : w1.cell? p = some v := by
 rw [hb.cell (p := p) (block_lt_of_cell h)]; exact h
theorem keep_frozen {W w1 : World} (hb : Below W.heap.size W w1) {p : Addr} {v : Value} (h : W.cell? p = some v) (hf : W.frozen? p = false) : w1.frozen? p = false := by
 rw [hb.frozen (p := p) (block_lt_of_cell h)]; exact hf
theorem bel_trans {w a b : World} (h : Below w.heap.size w a) (k : Below a.heap.size a b) : Below w.heap.size w b := h.trans (k.mono h.size)
theorem bel_alloc {w w' : World} (h : Below w.heap.size w w') (o : Obj) : Below w.heap.size w (w'.alloc o) := h.alloc h.size o
theorem bel_set {w w' : World} (h : Below w.heap.size w w') {p : Addr} (hp : w.heap.size ≤ p.block) (u : Value) : Below w.heap.size w (w'.setCell p u) := h.setCell hp u

def blankB (b : Int) : Bool := b == 32 || (b == 9 || (b == 13 || b == 10))
def digitB (b : Int) : Bool := decide (48 ≤ b) && decide (b ≤ 57)
def letterB (b : Int) : Bool := (decide (97 ≤ b) && decide (b ≤ 122)) || ((decide (65 ≤ b) && decide (b ≤ 90)) || b == 95)
def nameB (b : Int) : Bool := letterB b || digitB b
theorem isBlank_any (b : Int) (w : World) : Calls prog 81 #[.int .u8 b] w fun e w' => e = .returned (.bool (blankB b)) ∧ w' = w := by
 by_cases h1 : b = 32
 ·subst h1
  go_enter func81, ntmps81
  go_wp2;go_ret;exact ⟨rfl, rfl⟩
 by_cases h2 : b = 9
 ·subst h2
  go_enter func81, ntmps81
  go_wp2;go_ret;exact ⟨rfl, rfl⟩
 by_cases h3 : b = 13
 ·subst h3
  go_enter func81, ntmps81
  go_wp2;go_ret;exact ⟨rfl, rfl⟩
 have q1 : (b == 32) = false := by simpa using h1
 have q2 : (b == 9) = false := by simpa using h2
 have q3 : (b == 13) = false := by simpa using h3
 have e : blankB b = (b == 10) := by simp only [blankB, q1, q2, q3, Bool.false_or]
 rw [e]
 go_enter func81, ntmps81
 go_wp2;go_ret;exact ⟨rfl, rfl⟩
theorem isDigit_any (b : Int) (w : World) : Calls prog 86 #[.int .u8 b] w fun e w' => e = .returned (.bool (digitB b)) ∧ w' = w := by
 by_cases h1 : 48 ≤ b
 ·have q1 : decide (48 ≤ b) = true := decide_eq_true h1
  have e : digitB b = decide (b ≤ 57) := by simp only [digitB, q1, Bool.true_and]
  rw [e]
  go_enter func86, ntmps86
  go_wp2;go_ret;exact ⟨rfl, rfl⟩
 ·have q1 : decide (48 ≤ b) = false := decide_eq_false h1
  have e : digitB b = false := by simp only [digitB, q1, Bool.false_and]
  rw [e]
  go_enter func86, ntmps86
  go_wp2;go_ret;exact ⟨rfl, rfl⟩
theorem name_cases (b : Int) : (97 ≤ b ∧ b ≤ 122 ∧ nameB b = true) ∨ (¬ (97 ≤ b ∧ b ≤ 122) ∧ (65 ≤ b ∧ b ≤ 90) ∧ nameB b = true) ∨ (¬ (97 ≤ b ∧ b ≤ 122) ∧ ¬ (65 ≤ b ∧ b ≤ 90) ∧ b = 95 ∧ nameB b = true) ∨ (¬ (97 ≤ b ∧ b ≤ 122) ∧ ¬ (65 ≤ b ∧ b ≤ 90) ∧ ¬ b = 95 ∧ nameB b = digitB b) := by
 by_cases h1 : 97 ≤ b ∧ b ≤ 122
 ·exact .inl ⟨h1.1, h1.2, by simp [nameB, letterB, h1]⟩
 by_cases h2 : 65 ≤ b ∧ b ≤ 90
 ·exact .inr (.inl ⟨h1, h2, by simp [nameB, letterB, h2]⟩)
 by_cases h3 : b = 95
 ·exact .inr (.inr (.inl ⟨h1, h2, h3, by simp [nameB, letterB, h3]⟩))
 ·refine .inr (.inr (.inr ⟨h1, h2, h3, ?_⟩))
  have e1 : (decide (97 ≤ b) && decide (b ≤ 122)) = false := by simp; omega
  have e2 : (decide (65 ≤ b) && decide (b ≤ 90)) = false := by simp; omega
  have e3 : (b == 95) = false := by simpa using h3
  simp only [nameB, letterB, e1, e2, e3, Bool.false_or]
theorem isName_any (b : Int) (w : World) : Calls prog 83 #[.int .u8 b] w fun e w' => e = .returned (.bool (nameB b)) ∧ w' = w := by
 rcases name_cases b with ⟨h1, h2, e⟩ | ⟨h1, h2, e⟩ | ⟨h1, h2, h3, e⟩ | ⟨h1, h2, h3, e⟩
 ·rw [e]
  go_enter func83, ntmps83
  go_wp2;go_ret;exact ⟨rfl, rfl⟩
 ·rw [e]
  have q1 : decide (97 ≤ b) = false := decide_eq_false (by omega);have q2 : decide (65 ≤ b) = true := decide_eq_true h2.1;have q3 : decide (b ≤ 90) = true := decide_eq_true h2.2;clear h1 h2 e
  go_enter func83, ntmps83
  go_wp2;go_ret;exact ⟨rfl, rfl⟩
 ·rw [e]
  subst h3;clear h1 h2 e
  go_enter func83, ntmps83
  go_wp2;go_ret;exact ⟨rfl, rfl⟩
 ·rw [e]
  have HD : Hid (∀ w, Calls prog 86 #[.int .u8 b] w fun e w' => e = .returned (.bool (digitB b)) ∧ w' = w) := fun w => isDigit_any b w;have q3 : (b == 95) = false := by simpa using h3
  generalize digitB b = dd at *
  clear e
  by_cases a1 : 97 ≤ b
  ·have q1 : decide (97 ≤ b) = true := decide_eq_true a1
   have q2 : decide (b ≤ 122) = false := decide_eq_false (fun h => h1 ⟨a1, h⟩)
   by_cases a2 : 65 ≤ b
   ·have q4 : decide (65 ≤ b) = true := decide_eq_true a2
    have q5 : decide (b ≤ 90) = false := decide_eq_false (fun h => h2 ⟨a2, h⟩);clear h1 h2 h3 a1 a2
    go_enter func83, ntmps83
    go_wp2_with (go_at_call 86; refine (HD.out _).mono ?_; rintro e w' ⟨rfl, hw'⟩; replace hw' := hw'.symm; subst hw')
    go_ret;exact ⟨rfl, rfl⟩
   ·omega
  ·have q1 : decide (97 ≤ b) = false := decide_eq_false a1
   by_cases a2 : 65 ≤ b
   ·have q4 : decide (65 ≤ b) = true := decide_eq_true a2
    have q5 : decide (b ≤ 90) = false := decide_eq_false (fun h => h2 ⟨a2, h⟩);clear h1 h2 h3 a1 a2
    go_enter func83, ntmps83
    go_wp2_with (go_at_call 86; refine (HD.out _).mono ?_; rintro e w' ⟨rfl, hw'⟩; replace hw' := hw'.symm; subst hw')
    go_ret;exact ⟨rfl, rfl⟩
   ·have q4 : decide (65 ≤ b) = false := decide_eq_false a2
    clear h1 h2 h3 a1 a2
    go_enter func83, ntmps83
    go_wp2_with (go_at_call 86; refine (HD.out _).mono ?_; rintro e w' ⟨rfl, hw'⟩; replace hw' := hw'.symm; subst hw')
    go_ret;exact ⟨rfl, rfl⟩
def byteAt (t : ByteArray) (i : Nat) : Int := ((t.data.toList)[i]?.map (fun b => (b.toNat : Int))).getD 0
theorem byteAt_get (t : ByteArray) (i : Nat) (h : i < t.size) : ((t[i]'h).toNat : Int) = byteAt t i := by
 have hl : i < t.data.toList.length := h;have e : t.data.toList[i]? = some (t[i]'h) := by rw [List.getElem?_eq_getElem hl]; rfl
 unfold byteAt;rw [e]
 rfl
def nameRun : List UInt8 → Nat
 | [] => 0
 | b :: l => if nameB (b.toNat : Int) = true then nameRun l + 1 else 0
end Go.Proofs.YtlonbaefdffbeaaGreatDoor
