import Derived.Test.YtlonbaefdffbeaaGreatDoorAPost
namespace Go.Proofs.YtlonbaefdffbeaaGreatDoor
open Go.ChangeShapes Go.WideShapes Go.ChangeAt Go.RowKit
set_option linter.unusedSimpArgs false
set_option linter.unusedVariables false

def lvOps : List (List ByteArray) := [[⟨#[124, 124]⟩], [⟨#[38, 38]⟩], [⟨#[124]⟩], [⟨#[94]⟩], [⟨#[38]⟩], [⟨#[61, 61]⟩, ⟨#[33, 61]⟩], [⟨#[60]⟩, ⟨#[60, 61]⟩, ⟨#[62]⟩, ⟨#[62, 61]⟩], [⟨#[60, 60]⟩, ⟨#[62, 62]⟩], [⟨#[43]⟩, ⟨#[45]⟩], [⟨#[42]⟩, ⟨#[47]⟩, ⟨#[37]⟩]]
def opF (c : PC) (s : PSt) : List ByteArray → Option ByteArray
 | [] => none
 | op :: rest => if (takeF c s op).1 = true then some op else opF c s rest
def binD (x : Wd) (op : ByteArray) : ND := ⟨21, x.pl, x.pc, ⟨#[]⟩, op, 0, noSh, false, 0⟩
def binStep (sub : PSt → Tr × PSt) (c : PC) (t : Tr) (x : Wd) (op : ByteArray) (s1 : PSt) : Tr × PSt := (growT (sub s1).2 (binD x op) [t, (sub s1).1], growS (sub s1).2 (binD x op) [t, (sub s1).1])
def binLoop (sub : PSt → Tr × PSt) (c : PC) (ops : List ByteArray) : Nat → Tr → PSt → Tr × PSt
 | 0, t, s => (t, s)
 | f + 1, t, s => match opF c s ops with
  | none => (t, s)
  | some op => binLoop sub c ops f (binStep sub c t (wordF c s) op (takeF c s op).2).1 (binStep sub c t (wordF c s) op (takeF c s op).2).2
def binOf (sub : PSt → Tr × PSt) (c : PC) (ops : List ByteArray) (t : Tr) (s : PSt) : Tr × PSt := binLoop sub c ops (remF c s + 1) t s
def binF (un : PSt → Tr × PSt) (c : PC) : List (List ByteArray) → PSt → Tr × PSt
 | [], s => un s
 | ops :: rest, s => binOf (binF un c rest) c ops (binF un c rest s).1 (binF un c rest s).2
theorem opF_take (c : PC) (s : PSt) : ∀ (ops : List ByteArray) (op : ByteArray), opF c s ops = some op → (takeF c s op).1 = true ∧ op ∈ ops
 | [], _, h => by simp [opF] at h
 | o :: rest, op, h => by
  rw [opF] at h
  split at h
  ·rename_i hk
   injection h with h
   subst h;exact ⟨hk, by simp⟩
  ·have := opF_take c s rest op h
   exact ⟨this.1, by simp [this.2]⟩
theorem opF_drop (c : PC) (s : PSt) (ops : List ByteArray) (i : Nat) (op : ByteArray) (h : ops[i]? = some op) : opF c s (ops.drop i) = if (takeF c s op).1 = true then some op else opF c s (ops.drop (i + 1)) := by
 obtain ⟨hi, he⟩ := List.getElem?_eq_some_iff.1 h;rw [List.drop_eq_getElem_cons hi, he, opF]
def SizeOk (ops : List ByteArray) : Prop := ∀ op ∈ ops, 0 < op.size
theorem lv_size : ∀ ops ∈ lvOps, SizeOk ops := by
 have h : lvOps.all (fun l => l.all (fun o => decide (0 < o.size))) = true := by decide
 intro ops ho op hp;have h2 := List.all_eq_true.1 h ops ho;have h3 := List.all_eq_true.1 h2 op hp;simpa using h3
theorem rem_bstep {sub : PSt → Tr × PSt} {c : PC} {r : Nat} (hm : Goes sub c (r + 1)) (t : Tr) (x : Wd) (op : ByteArray) (s1 : PSt) (hr : remF c s1 ≤ r) : remF c (binStep sub c t x op s1).2 ≤ remF c s1 :=
 Nat.le_trans (rem_grow _ _ _ _) (hm s1 (by omega))
theorem binLoop_fuel {sub : PSt → Tr × PSt} {c : PC} {r : Nat} {ops : List ByteArray} (hs : SizeOk ops) (hm : Goes sub c (r + 1)) : ∀ (f f' : Nat) (t : Tr) (s : PSt), remF c s < f → remF c s < f' → remF c s ≤ r → binLoop sub c ops f t s = binLoop sub c ops f' t s
 | 0, _, _, _, h, _, _ => by omega
 | f + 1, 0, _, _, _, h, _ => by omega
 | f + 1, f' + 1, t, s, h1, h2, h3 => by
  rw [binLoop, binLoop]
  cases ho : opF c s ops with
  | none => rfl
  | some op =>
   have hk := opF_take c s ops op ho;have ht := (takeF_true (hs op hk.2) hk.1).2;have := rem_bstep hm t (wordF c s) op (takeF c s op).2 (by omega);exact binLoop_fuel hs hm f f' _ _ (by omega) (by omega) (by omega)
theorem binOf_more {sub : PSt → Tr × PSt} {c : PC} {r : Nat} {ops : List ByteArray} (hs : SizeOk ops) (hm : Goes sub c (r + 1)) {s : PSt} {t : Tr} {op : ByteArray} (hr : remF c s ≤ r) (ho : opF c s ops = some op) : binOf sub c ops t s = binOf sub c ops (binStep sub c t (wordF c s) op (takeF c s op).2).1 (binStep sub c t (wordF c s) op (takeF c s op).2).2 := by
 have hk := opF_take c s ops op ho;have ht := (takeF_true (hs op hk.2) hk.1).2;have := rem_bstep hm t (wordF c s) op (takeF c s op).2 (by omega);unfold binOf;rw [binLoop, ho];exact binLoop_fuel hs hm _ _ _ _ (by omega) (by omega) (by omega)
theorem binOf_end {sub : PSt → Tr × PSt} {c : PC} {ops : List ByteArray} {s : PSt} {t : Tr} (ho : opF c s ops = none) : binOf sub c ops t s = (t, s) := by
 unfold binOf;rw [binLoop, ho]
theorem rem_binLoop {sub : PSt → Tr × PSt} {c : PC} {r : Nat} {ops : List ByteArray} (hs : SizeOk ops) (hm : Goes sub c (r + 1)) : ∀ (f : Nat) (t : Tr) (s : PSt), remF c s ≤ r → remF c (binLoop sub c ops f t s).2 ≤ remF c s
 | 0, _, _, _ => Nat.le_refl _
 | f + 1, t, s, h => by
  rw [binLoop]
  cases ho : opF c s ops with
  | none => exact Nat.le_refl _
  | some op =>
   have hk := opF_take c s ops op ho;have ht := (takeF_true (hs op hk.2) hk.1).2;have := rem_bstep hm t (wordF c s) op (takeF c s op).2 (by omega);have := rem_binLoop hs hm f (binStep sub c t (wordF c s) op (takeF c s op).2).1 _ (show remF c (binStep sub c t (wordF c s) op (takeF c s op).2).2 ≤ r by omega);dsimp only
   omega
theorem rem_bin {un : PSt → Tr × PSt} {c : PC} {r : Nat} (hm : Goes un c (r + 1)) : ∀ (l : List (List ByteArray)), (∀ ops ∈ l, SizeOk ops) → Goes (binF un c l) c (r + 1)
 | [], _ => hm
 | ops :: rest, hl => fun s hr => by
  have h1 := rem_bin hm rest (fun o ho => hl o (by simp [ho]));have h2 := h1 s hr;have := rem_binLoop (hl ops (by simp)) h1 (remF c (binF un c rest s).2 + 1) (binF un c rest s).1 (binF un c rest s).2 (by omega);rw [binF];unfold binOf
  omega
end Go.Proofs.YtlonbaefdffbeaaGreatDoor
