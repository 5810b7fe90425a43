/- Two texts with a byte 10 between: the lexer on them. -/
import Derived.Test.YtkbihcicnffjdaaDoorLLaws
namespace Go.Proofs.YtkbihcicnffjdaaDoor
open Go.RowKit
set_option linter.unusedSimpArgs false
set_option linter.unusedVariables false

/-! How much fuel there is does not matter. -/
theorem lineTo_gt (t : ByteArray) (f i : Nat) (h : ¬ byteAt t i = 10) : i + 1 ≤ lineTo t (f + 1) i := by
  rw [lineTo_succ, if_neg h]
  exact (lineTo_ge t f (i + 1)).1
theorem gaps_succ (t : ByteArray) (f i : Nat) : gaps t (f + 1) i = if i < t.size then
      if blankB (byteAt t i) = true then gaps t f (i + 1)
      else if preAt t i [47, 47] = true then gaps t f (lineTo t (t.size - i) i)
      else if preAt t i [47, 42] = true then (match remTo t (t.size - (i + 2)) (i + 2) with
        | none => (i, false)
        | some j => gaps t f j)
      else (i, true)
    else (i, true) := rfl
theorem gaps_past (t : ByteArray) (f i : Nat) (h : ¬ i < t.size) : gaps t f i = (i, true) := by
  cases f with
  | zero => rfl
  | succ f => rw [gaps_succ, if_neg h]
theorem line_step (t : ByteArray) (i : Nat) (hi : i < t.size) (hp : preAt t i [47, 47] = true) : i + 1 ≤ lineTo t (t.size - i) i := by
  have h := (preAt_two t i 47 47).1 hp
  obtain ⟨d, hd⟩ : ∃ d, t.size - i = d + 1 := ⟨t.size - i - 1, by omega⟩
  rw [hd]
  refine lineTo_gt t d i ?_
  rw [h.2.1]
  decide
theorem gaps_fuel (t : ByteArray) : ∀ f f' i, t.size < f + i → t.size < f' + i → gaps t f i = gaps t f' i
  | 0, f', i, h, h' => by rw [gaps_past t 0 i (by omega), gaps_past t f' i (by omega)]
  | f + 1, 0, i, h, h' => by rw [gaps_past t 0 i (by omega), gaps_past t (f + 1) i (by omega)]
  | f + 1, f' + 1, i, h, h' => by
    rw [gaps_succ, gaps_succ]
    split
    · rename_i hi
      split
      · exact gaps_fuel t f f' (i + 1) (by omega) (by omega)
      · split
        · rename_i hp
          have := line_step t i hi hp
          exact gaps_fuel t f f' _ (by omega) (by omega)
        · split
          · split
            · rfl
            · rename_i j hj
              have := (remTo_ge t _ _ _ hj).1
              exact gaps_fuel t f f' j (by omega) (by omega)
          · rfl
    · rfl
theorem gaps_false (t : ByteArray) : ∀ f i j, gaps t f i = (j, false) → j < t.size
  | 0, i, j, h => by cases h
  | f + 1, i, j, h => by
    rw [gaps_succ] at h
    split at h
    · split at h
      · exact gaps_false t f _ j h
      · split at h
        · exact gaps_false t f _ j h
        · split at h
          · split at h
            · cases h; assumption
            · exact gaps_false t f _ j h
          · cases h
    · cases h
theorem lexF_fuel (t : ByteArray) : ∀ f f' i, i ≤ t.size → t.size < f + i → t.size < f' + i → lexF t f i = lexF t f' i
  | 0, f', i, hi, h, h' => by omega
  | f + 1, 0, i, hi, h, h' => by omega
  | f + 1, f' + 1, i, hi, h, h' => by
    cases e : nextW t i with
    | mk j o =>
      cases o with
      | none => rw [lexF_none t f i j e, lexF_none t f' i j e]
      | some x =>
        have hw := nextW_word t i j x hi e
        rw [lexF_some t f i j x e, lexF_some t f' i j x e, lexF_fuel t f f' _ hw.2.2 (by omega) (by omega)]
/-! A word ends ahead of a blank. -/
def sepB (x : UInt8) : Prop := x = 10 ∨ x = 32 ∨ x = 9
theorem sep_name {x : UInt8} (h : sepB x) : nameB (x.toNat : Int) = false := by rcases h with rfl | rfl | rfl <;> decide
theorem sep_mark {x : UInt8} (h : sepB x) : ∀ m ∈ mkList, x ∉ m.data.toList := by rcases h with rfl | rfl | rfl <;> decide
theorem nameRun_sep {x : UInt8} (h : sepB x) (B : List UInt8) : ∀ R : List UInt8, nameRun (R ++ x :: B) = nameRun R
  | [] => by simp [nameRun, sep_name h]
  | b :: R => by
    simp only [List.cons_append, nameRun]
    rw [nameRun_sep h B R]
theorem prefix_sep {x : UInt8} (B : List UInt8) : ∀ m R : List UInt8, x ∉ m → m.isPrefixOf (R ++ x :: B) = m.isPrefixOf R
  | [], R, h => by simp
  | a :: m, [], h => by
    have : ¬ a = x := fun e => h (by simp [e])
    simp [List.isPrefixOf, this]
  | a :: m, b :: R, h => by
    simp only [List.cons_append, List.isPrefixOf]
    rw [prefix_sep B m R (fun e => h (by simp [e]))]
theorem byte0 (r : ByteArray) (b : UInt8) (R : List UInt8) (h : r.data.toList = b :: R) : byteAt r 0 = (b.toNat : Int) := by
  unfold byteAt
  rw [h]
  rfl
theorem wordW_sep {x : UInt8} (h : sepB x) (B : List UInt8) (r r' : ByteArray) (b : UInt8) (R : List UInt8) (h' : r'.data.toList = b :: R) (hr : r.data.toList = (b :: R) ++ x :: B) : wordW r = wordW r' := by
  have e0 : byteAt r 0 = byteAt r' 0 := by rw [byte0 r b _ hr, byte0 r' b _ h']
  have e1 : runOf r = runOf r' := by
    apply bytes_ext
    unfold runOf
    rw [ext_list, ext_list, hr, h', nameRun_sep h B (b :: R)]
    simp only [List.drop_zero, Nat.sub_zero]
    exact List.take_append_of_le_length (nameRun_le _)
  have e2 : markW r = markW r' := by
    have e3 : markR r = markR r' := by
      unfold markR
      rw [hr, h']
      have : ∀ l : List ByteArray, (∀ m ∈ l, x ∉ m.data.toList) → l.find? (fun m => Lib.hasPrefix (b :: R ++ x :: B) m.data.toList) = l.find? (fun m => Lib.hasPrefix (b :: R) m.data.toList) := by
        intro l
        induction l with
        | nil => intro _; rfl
        | cons m l ih =>
          intro hm
          have hp : Lib.hasPrefix (b :: R ++ x :: B) m.data.toList = Lib.hasPrefix (b :: R) m.data.toList := prefix_sep B _ _ (hm m (by simp))
          simp only [List.find?_cons, hp]
          rw [ih (fun k hk => hm k (by simp [hk]))]
      exact this mkList (sep_mark h)
    unfold markW
    rw [e3]
  unfold wordW
  rw [e0, e1, e2]
end Go.Proofs.YtkbihcicnffjdaaDoor
