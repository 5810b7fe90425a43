/- What our machine's memory says of the real one. -/
import Derived.Test.YtofnnpchobgapaaGreatDoorEvDef
import Derived.Below
import Derived.Calls
import Derived.Deep.MidRow
import Derived.Laws.Strings
import Derived.Laws.Runes
set_option linter.unusedSimpArgs false
set_option linter.unusedVariables false
namespace Go.Ev
open Go

theorem nbeq {a b : Nat} (h : a ≠ b) : Nat.beq a b = false := by
  cases hh : Nat.beq a b
  · rfl
  · exact absurd (Nat.eq_of_beq_eq_true hh) h

theorem Tr.get_nil {α : Type} (n : Nat) : (Tr.nil : Tr α).get n = none := rfl
theorem Tr.get_node {α : Type} (l : Tr α) (v : Option α) (r : Tr α) (n : Nat) : (Tr.node l v r).get n = cond (Nat.beq n 0) v (cond (Nat.beq (n % 2) 1) (l.get (n / 2)) (r.get (n / 2 - 1))) := rfl
theorem Tr.put_node {α : Type} (l : Tr α) (v : Option α) (r : Tr α) (n : Nat) (x : α) : (Tr.node l v r).put n x = cond (Nat.beq n 0) (.node l (some x) r) (cond (Nat.beq (n % 2) 1) (.node (l.put (n / 2) x) v r) (.node l v (r.put (n / 2 - 1) x))) := rfl

theorem Tr.get_set {α : Type} : ∀ (f : Nat) (t : Tr α) (n : Nat) (x : α) (m : Nat), n < f → (Tr.set f t n x).get m = if m = n then some x else t.get m := by
  intro f
  induction f with
  | zero => intro t n x m h; omega
  | succ f ih =>
    intro t n x m h
    cases t with
    | nil =>
      by_cases hn : n = 0
      · subst hn
        by_cases hm : m = 0
        · subst hm; simp [Tr.set, Tr.get_nil, Tr.get_node]
        · simp [Tr.set, Tr.get_nil, Tr.get_node, hm, nbeq hm]
      · have hb : Nat.beq n 0 = false := nbeq hn
        by_cases h1 : n % 2 = 1
        · have ih' := ih .nil (n / 2) x
          by_cases hm : m = 0
          · subst hm; simp [Tr.set, Tr.get_nil, Tr.get_node, hb, h1, Ne.symm hn]
          · have hbm : Nat.beq m 0 = false := nbeq hm
            by_cases hm1 : m % 2 = 1
            · simp only [Tr.set, Tr.get_nil, Tr.get_node, hb, cond_false, h1, hbm, hm1, Nat.beq_refl, cond_true, ih' (m / 2) (by omega)]
              by_cases e : m = n
              · simp [e]
              · rw [if_neg e, if_neg (by omega)]
            · have hb2 : Nat.beq (m % 2) 1 = false := nbeq hm1
              simp only [Tr.set, Tr.get_nil, Tr.get_node, hb, cond_false, h1, hbm, hb2, Nat.beq_refl, cond_true]
              rw [if_neg (by omega)]
        · have hb1 : Nat.beq (n % 2) 1 = false := nbeq h1
          have ih' := ih .nil (n / 2 - 1) x
          by_cases hm : m = 0
          · subst hm; simp [Tr.set, Tr.get_nil, Tr.get_node, hb, hb1, Ne.symm hn]
          · have hbm : Nat.beq m 0 = false := nbeq hm
            by_cases hm1 : m % 2 = 1
            · simp only [Tr.set, Tr.get_nil, Tr.get_node, hb, cond_false, hb1, hbm, hm1, Nat.beq_refl, cond_true]
              rw [if_neg (by omega)]
            · have hb2 : Nat.beq (m % 2) 1 = false := nbeq hm1
              simp only [Tr.set, Tr.get_nil, Tr.get_node, hb, cond_false, hb1, hbm, hb2, ih' (m / 2 - 1) (by omega)]
              by_cases e : m = n
              · simp [e]
              · rw [if_neg e, if_neg (by omega)]
    | node l v r =>
      by_cases hn : n = 0
      · subst hn
        by_cases hm : m = 0
        · subst hm; simp [Tr.set, Tr.get_nil, Tr.get_node]
        · have hbm : Nat.beq m 0 = false := nbeq hm
          simp [Tr.set, Tr.get_nil, Tr.get_node, hm, hbm]
      · have hb : Nat.beq n 0 = false := nbeq hn
        by_cases h1 : n % 2 = 1
        · have ih' := ih l (n / 2) x
          by_cases hm : m = 0
          · subst hm; simp [Tr.set, Tr.get_nil, Tr.get_node, hb, h1, Ne.symm hn]
          · have hbm : Nat.beq m 0 = false := nbeq hm
            by_cases hm1 : m % 2 = 1
            · simp only [Tr.set, Tr.get_nil, Tr.get_node, hb, cond_false, h1, hbm, hm1, Nat.beq_refl, cond_true, ih' (m / 2) (by omega)]
              by_cases e : m = n
              · simp [e]
              · rw [if_neg e, if_neg (by omega)]
            · have hb2 : Nat.beq (m % 2) 1 = false := nbeq hm1
              simp only [Tr.set, Tr.get_nil, Tr.get_node, hb, cond_false, h1, hbm, hb2, Nat.beq_refl, cond_true]
              rw [if_neg (by omega)]
        · have hb1 : Nat.beq (n % 2) 1 = false := nbeq h1
          have ih' := ih r (n / 2 - 1) x
          by_cases hm : m = 0
          · subst hm; simp [Tr.set, Tr.get_nil, Tr.get_node, hb, hb1, Ne.symm hn]
          · have hbm : Nat.beq m 0 = false := nbeq hm
            by_cases hm1 : m % 2 = 1
            · simp only [Tr.set, Tr.get_nil, Tr.get_node, hb, cond_false, hb1, hbm, hm1, Nat.beq_refl, cond_true]
              rw [if_neg (by omega)]
            · have hb2 : Nat.beq (m % 2) 1 = false := nbeq hm1
              simp only [Tr.set, Tr.get_nil, Tr.get_node, hb, cond_false, hb1, hbm, hb2, ih' (m / 2 - 1) (by omega)]
              by_cases e : m = n
              · simp [e]
              · rw [if_neg e, if_neg (by omega)]

theorem Tr.get_put {α : Type} (t : Tr α) (n : Nat) (x : α) (m : Nat) : (t.put n x).get m = if m = n then some x else t.get m := by
  induction t generalizing n m with
  | nil => exact Tr.get_set (n + 1) .nil n x m (by omega)
  | node l v r ihl ihr =>
    rw [Tr.put_node, Tr.get_node]
    by_cases hn : n = 0
    · subst hn
      by_cases hm : m = 0
      · subst hm; simp [Tr.get_node]
      · rw [if_neg hm]; simp [Tr.get_node, nbeq hm]
    · rw [nbeq hn]
      simp only [cond_false]
      by_cases h1 : n % 2 = 1
      · rw [h1]
        simp only [Nat.beq_refl, cond_true, Tr.get_node]
        by_cases hm : m = 0
        · subst hm; rw [if_neg (by omega)]; rfl
        · rw [nbeq hm]
          simp only [cond_false]
          by_cases hm1 : m % 2 = 1
          · rw [hm1]
            simp only [Nat.beq_refl, cond_true, ihl]
            by_cases e : m = n
            · rw [if_pos e, if_pos (by omega)]
            · rw [if_neg e, if_neg (by omega)]
          · rw [nbeq hm1]
            simp only [cond_false]
            rw [if_neg (by omega)]
      · rw [nbeq h1]
        simp only [cond_false, Tr.get_node]
        by_cases hm : m = 0
        · subst hm; rw [if_neg (by omega)]; rfl
        · rw [nbeq hm]
          simp only [cond_false]
          by_cases hm1 : m % 2 = 1
          · rw [hm1]
            simp only [Nat.beq_refl, cond_true]
            rw [if_neg (by omega)]
          · rw [nbeq hm1]
            simp only [cond_false, ihr]
            by_cases e : m = n
            · rw [if_pos e, if_pos (by omega)]
            · rw [if_neg e, if_neg (by omega)]

theorem nthR_eq {α : Type} (l : List α) (n : Nat) : nthR l n = l[n]? := by
  induction l generalizing n with
  | nil => simp [nthR]
  | cons x l ih => cases n with
    | zero => rfl
    | succ n => show nthR l n = _; rw [ih]; simp
theorem dropR_eq {α : Type} (l : List α) (n : Nat) : dropR l n = l.drop n := by
  induction l generalizing n with
  | nil => simp [dropR]
  | cons x l ih => cases n with
    | zero => rfl
    | succ n => show dropR l n = _; rw [ih]; simp
theorem takeR_eq {α : Type} (l : List α) (n : Nat) : takeR l n = l.take n := by
  induction l generalizing n with
  | nil => simp [takeR]
  | cons x l ih => cases n with
    | zero => rfl
    | succ n => show x :: takeR l n = _; rw [ih]; simp
theorem lenR_eq {α : Type} (l : List α) (n : Nat) : lenR l n = Nat.beq n l.length := by
  induction l generalizing n with
  | nil => rfl
  | cons x l ih => cases n with
    | zero => rfl
    | succ n => show lenR l n = _; rw [ih]; rfl
theorem revR_eq {α : Type} (a l : List α) : revR a l = a.reverse ++ l := by
  induction a generalizing l with
  | nil => rfl
  | cons x a ih => show revR a (x :: l) = _; rw [ih]; simp
theorem doneR_eq {α : Type} (l : List α) : doneR l = some l := by cases l <;> rfl
/-- Values over a list's, from a place on. -/
def overo {α : Type} : List α → Nat → List α → Option (List α)
  | cs, 0, vs => go cs vs
  | [], _ + 1, _ => none
  | c :: cs, n + 1, vs => (overo cs n vs).map (c :: ·)
where go : List α → List α → Option (List α)
  | cs, [] => some cs
  | [], _ :: _ => none
  | _ :: cs, v :: vs => (go cs vs).map (v :: ·)
theorem overG_eq {α : Type} (cs vs acc : List α) : overG cs vs acc = (overo.go cs vs).map (acc.reverse ++ ·) := by
  induction cs generalizing vs acc with
  | nil => cases vs with
    | nil => show doneR (revR acc []) = _; rw [doneR_eq, revR_eq]; simp [overo.go]
    | cons v vs => simp [overG, overo.go]
  | cons c cs ih => cases vs with
    | nil => show doneR (revR acc (c :: cs)) = _; rw [doneR_eq, revR_eq]; simp [overo.go]
    | cons v vs =>
      show overG cs vs (v :: acc) = _
      rw [ih]
      cases h : overo.go cs vs <;> simp [overo.go, h]
theorem overP_eq {α : Type} (cs : List α) (n : Nat) (vs acc : List α) : overP cs n vs acc = (overo cs n vs).map (acc.reverse ++ ·) := by
  induction cs generalizing n acc with
  | nil => cases n with
    | zero => show overG [] vs acc = _; rw [overG_eq]; rfl
    | succ n => simp [overP, overo]
  | cons c cs ih => cases n with
    | zero => show overG (c :: cs) vs acc = _; rw [overG_eq]; rfl
    | succ n =>
      show overP cs n vs (c :: acc) = _
      rw [ih]
      cases h : overo cs n vs <;> simp [overo, h]

theorem evens_get {α : Type} : ∀ (l : List α) (i : Nat), (evens l)[i]? = l[2 * i]?
  | [], i => by simp [evens]
  | [a], i => by cases i <;> simp [evens]
  | a :: b :: l, 0 => by simp [evens]
  | a :: b :: l, i + 1 => by
    have := evens_get l i
    have e : 2 * (i + 1) = 2 * i + 1 + 1 := by omega
    simp [evens, e, this]
theorem odds_get {α : Type} : ∀ (l : List α) (i : Nat), (odds l)[i]? = l[2 * i + 1]?
  | [], i => by simp [odds]
  | [a], i => by simp [odds]
  | a :: b :: l, 0 => by simp [odds]
  | a :: b :: l, i + 1 => by
    have := odds_get l i
    have e : 2 * (i + 1) + 1 = 2 * i + 1 + 1 + 1 := by omega
    simp [odds, e, this]
theorem evens_len {α : Type} : ∀ (l : List α), (evens l).length ≤ l.length
  | [] => by simp [evens]
  | [a] => by simp [evens]
  | a :: b :: l => by have := evens_len l; simp [evens]; omega
theorem odds_len {α : Type} : ∀ (l : List α), (odds l).length ≤ l.length
  | [] => by simp [odds]
  | [a] => by simp [odds]
  | a :: b :: l => by have := odds_len l; simp [odds]; omega

theorem tabN_get {α : Type} : ∀ (f : Nat) (l : List α) (i : Nat), l.length ≤ f → (tabN f l).get i = l[i]?
  | 0, l, i, h => by
    have : l = [] := List.length_eq_zero_iff.1 (by omega)
    subst this; simp [tabN, Tr.get_nil, Tr.get_node]
  | f + 1, [], i, _ => by simp [tabN, Tr.get_nil, Tr.get_node]
  | f + 1, x :: xs, i, h => by
    have h1 := evens_len xs
    have h2 := odds_len xs
    simp only [List.length_cons] at h
    by_cases hi : i = 0
    · subst hi; simp [tabN, Tr.get_nil, Tr.get_node]
    · have hb : Nat.beq i 0 = false := nbeq hi
      by_cases hm : i % 2 = 1
      · simp only [tabN, Tr.get_nil, Tr.get_node, hb, cond_false, hm, Nat.beq_refl, cond_true]
        rw [tabN_get f _ _ (by omega), evens_get]
        have : i = 2 * (i / 2) + 1 := by omega
        conv => rhs; rw [this]
        simp
      · have hb2 : Nat.beq (i % 2) 1 = false := nbeq hm
        simp only [tabN, Tr.get_nil, Tr.get_node, hb, cond_false, hb2]
        rw [tabN_get f _ _ (by omega), odds_get]
        have : i = (2 * (i / 2 - 1) + 1) + 1 := by omega
        conv => rhs; rw [this]
        simp

theorem funx_eq (P : Program) (f : FuncId) : funx P f = P.funcs[f]? := by
  unfold funx funT
  rw [tabN_get _ _ _ (Nat.le_refl _)]
  simp
theorem infx_some {P : Program} {t : TypeId} {i : TypeInfo} (h : infx P t = some i) : P.info? t = some i := by
  unfold infx infT at h
  rw [tabN_get _ _ _ (Nat.le_refl _)] at h
  have h' : P.types[t]? = some i := by simpa using h
  have hlt : t < P.types.size := (Array.getElem?_eq_some_iff.1 h').1
  unfold Tables.info?
  rw [if_pos hlt, h']
end Go.Ev
namespace Go.Ev
open Go

theorem undx_some {P : Program} {t : TypeId} {d : TypeDesc} (h : undx P t = some d) : P.underlying t = some d := by
  unfold undx at h
  cases hi : infx P t with
  | none => rw [hi] at h; simp at h
  | some i =>
    rw [hi] at h
    have hI := infx_some hi
    unfold Program.underlying
    rw [hI]
    obtain ⟨ds, a1, a2, a3, a4, a5, a6, a7, a8, a9⟩ := i
    cases ds with
    | named nm u =>
      simp only [undOf] at h
      cases hu : infx P u with
      | none => rw [hu] at h; simp at h
      | some j =>
        rw [hu] at h
        have hJ := infx_some hu
        simp only [hJ]
        exact h
    | _ => exact h

/-- A number's real block, the cell where it begins, its room in elements. -/
abbrev Sg := Nat → Option (Nat × Nat × Nat)

inductive VR (σ : Sg) : Value → Value → Prop
  | bool (b : Bool) : VR σ (.bool b) (.bool b)
  | int (k : IntKind) (n : Int) : VR σ (.int k n) (.int k n)
  | float (k : FloatKind) (n : Nat) : VR σ (.float k n) (.float k n)
  | str (s : ByteArray) : VR σ (.string s) (.string s)
  | nilF : VR σ .nilFunc .nilFunc
  | nilI : VR σ .nilIface .nilIface
  | ptrN : VR σ (.pointer none) (.pointer none)
  | ptr {b o r δ x : Nat} : σ b = some (r, δ, x) → VR σ (.pointer (some ⟨b, o, none⟩)) (.pointer (some ⟨r, δ + o, none⟩))
  | slN : VR σ (.slice none 0 0) (.slice none 0 0)
  | slX {b o r δ x n c : Nat} : σ b = some (r, δ, x) → n ≤ c → VR σ (.slice (some ⟨b, o, none⟩) n (2 * c)) (.slice (some ⟨r, δ + o, none⟩) n c)
  | slO {b o r δ x n k : Nat} : σ b = some (r, δ, x) → n + k ≤ x → VR σ (.slice (some ⟨b, o, none⟩) n (2 * k + 1)) (.slice (some ⟨r, δ + o, none⟩) n (x - k))
  | mapN : VR σ (.map none) (.map none)
  | map {b r δ x : Nat} : σ b = some (r, δ, x) → VR σ (.map (some b)) (.map (some r))
  | func (f : FuncId) {a a' c c' : List Value} : a.length = a'.length → c.length = c'.length → (∀ (i : Nat) v v', a[i]? = some v → a'[i]? = some v' → VR σ v v') → (∀ (i : Nat) v v', c[i]? = some v → c'[i]? = some v' → VR σ v v') →
      VR σ (.func (.func f) ⟨a⟩ ⟨c⟩) (.func (.func f) ⟨a'⟩ ⟨c'⟩)
  | yld {b r δ x : Nat} : σ b = some (r, δ, x) → VR σ (.func (.yield b) #[] #[]) (.func (.yield r) #[] #[])
  | agg {a a' : List Value} : a.length = a'.length → (∀ (i : Nat) v v', a[i]? = some v → a'[i]? = some v' → VR σ v v') → VR σ (.agg ⟨a⟩) (.agg ⟨a'⟩)
  | tuple {a a' : List Value} : a.length = a'.length → (∀ (i : Nat) v v', a[i]? = some v → a'[i]? = some v' → VR σ v v') → VR σ (.tuple ⟨a⟩) (.tuple ⟨a'⟩)
  | iface (t : TypeId) {v v' : Value} : VR σ v v' → VR σ (.iface t v) (.iface t v')

/-- Two rows of values. -/
def VRs (σ : Sg) (a a' : List Value) : Prop := a.length = a'.length ∧ ∀ (i : Nat) v v', a[i]? = some v → a'[i]? = some v' → VR σ v v'

/-- The one knows what the other knows. -/
def Sub (σ τ : Sg) : Prop := ∀ b x, σ b = some x → τ b = some x
theorem Sub.refl (σ : Sg) : Sub σ σ := fun _ _ h => h
theorem Sub.trans {σ τ υ : Sg} (h : Sub σ τ) (k : Sub τ υ) : Sub σ υ := fun b x e => k b x (h b x e)

theorem VR.mono {σ τ : Sg} (hs : Sub σ τ) {v v' : Value} (h : VR σ v v') : VR τ v v' := by
  induction h with
  | bool b => exact .bool b
  | int k n => exact .int k n
  | float k n => exact .float k n
  | str s => exact .str s
  | nilF => exact .nilF
  | nilI => exact .nilI
  | ptrN => exact .ptrN
  | ptr e => exact .ptr (hs _ _ e)
  | slN => exact .slN
  | slX e h => exact .slX (hs _ _ e) h
  | slO e h => exact .slO (hs _ _ e) h
  | mapN => exact .mapN
  | map e => exact .map (hs _ _ e)
  | func f l1 l2 _ _ i1 i2 => exact .func f l1 l2 i1 i2
  | yld e => exact .yld (hs _ _ e)
  | agg l _ i => exact .agg l i
  | tuple l _ i => exact .tuple l i
  | iface t _ i => exact .iface t i

theorem VRs.mono {σ τ : Sg} (hs : Sub σ τ) {a a' : List Value} (h : VRs σ a a') : VRs τ a a' := ⟨h.1, fun i v v' x y => (h.2 i v v' x y).mono hs⟩
theorem VRs.nil (σ : Sg) : VRs σ [] [] := ⟨rfl, fun i v v' h => by simp at h⟩
theorem VRs.cons {σ : Sg} {v v' : Value} {a a' : List Value} (h : VR σ v v') (k : VRs σ a a') : VRs σ (v :: a) (v' :: a') := by
  refine ⟨by simp [k.1], fun i u u' x y => ?_⟩
  cases i with
  | zero => simp at x y; subst x; subst y; exact h
  | succ i => simp at x y; exact k.2 i u u' x y
theorem VRs.head {σ : Sg} {v v' : Value} {a a' : List Value} (h : VRs σ (v :: a) (v' :: a')) : VR σ v v' := h.2 0 v v' rfl rfl
theorem VRs.tail {σ : Sg} {v v' : Value} {a a' : List Value} (h : VRs σ (v :: a) (v' :: a')) : VRs σ a a' :=
  ⟨by simpa using h.1, fun i u u' x y => h.2 (i + 1) u u' (by simpa using x) (by simpa using y)⟩
theorem VRs.append {σ : Sg} {a a' b b' : List Value} (h : VRs σ a a') (k : VRs σ b b') : VRs σ (a ++ b) (a' ++ b') := by
  refine ⟨by simp [h.1, k.1], fun i u u' x y => ?_⟩
  by_cases hi : i < a.length
  · rw [List.getElem?_append_left hi] at x
    rw [List.getElem?_append_left (by rw [← h.1]; exact hi)] at y
    exact h.2 i u u' x y
  · rw [List.getElem?_append_right (by omega)] at x
    rw [List.getElem?_append_right (by rw [← h.1]; omega), ← h.1] at y
    exact k.2 _ u u' x y
theorem VRs.at {σ : Sg} {a a' : List Value} (h : VRs σ a a') {i : Nat} {v : Value} (hv : a[i]? = some v) : ∃ v', a'[i]? = some v' ∧ VR σ v v' := by
  have hi : i < a'.length := by rw [← h.1]; exact (List.getElem?_eq_some_iff.1 hv).1
  exact ⟨a'[i], List.getElem?_eq_getElem hi, h.2 i v _ hv (List.getElem?_eq_getElem hi)⟩
theorem VRs.drop {σ : Sg} {a a' : List Value} (h : VRs σ a a') (n : Nat) : VRs σ (a.drop n) (a'.drop n) :=
  ⟨by simp [h.1], fun i u u' x y => h.2 (n + i) u u' (by simpa using x) (by simpa using y)⟩
theorem VRs.take {σ : Sg} {a a' : List Value} (h : VRs σ a a') (n : Nat) : VRs σ (a.take n) (a'.take n) := by
  refine ⟨by simp [h.1], fun i u u' x y => ?_⟩
  rw [List.getElem?_take] at x y
  split at x
  · rename_i hi
    rw [if_pos hi] at y
    exact h.2 i u u' x y
  · simp at x

/-- A cell's value that is plain is the real one. -/
theorem VR.plain1 {σ : Sg} {v : Value} (h : Ev.plain1 v = true) : VR σ v v := by
  cases v with
  | bool b => exact .bool b
  | int k n => exact .int k n
  | float k n => exact .float k n
  | string s => exact .str s
  | nilFunc => exact .nilF
  | nilIface => exact .nilI
  | pointer a => cases a with
    | none => exact .ptrN
    | some a => simp [Ev.plain1] at h
  | map a => cases a with
    | none => exact .mapN
    | some a => simp [Ev.plain1] at h
  | slice a l c =>
    cases a with
    | none =>
      cases l with
      | zero => cases c with
        | zero => exact .slN
        | succ c => simp [Ev.plain1] at h
      | succ l => simp [Ev.plain1] at h
    | some a => simp [Ev.plain1] at h
  | _ => simp [Ev.plain1] at h
theorem VRs.plains {σ : Sg} {a : List Value} (h : a.all Ev.plain1 = true) : VRs σ a a := by
  refine ⟨rfl, fun i v v' x y => ?_⟩
  rw [x] at y
  obtain rfl := Option.some.inj y
  exact VR.plain1 (List.all_eq_true.1 h v (List.mem_of_getElem? x))
theorem VR.plain {σ : Sg} {v : Value} (h : Ev.plain v = true) : VR σ v v := by
  cases v with
  | agg cs =>
    obtain ⟨l⟩ := cs
    have := VRs.plains (σ := σ) (a := l) (by simpa [Ev.plain] using h)
    exact .agg this.1 this.2
  | _ => exact VR.plain1 (by simpa [Ev.plain] using h)

theorem VR.undef (σ : Sg) : VR σ Go.undef Go.undef := .tuple rfl (fun i v v' h => by simp at h)

/-- The real value is one. -/
theorem VR.one {σ : Sg} {v x y : Value} (h : VR σ v x) : VR σ v y → x = y := by
  have ext : ∀ {a p q : List Value}, a.length = p.length → a.length = q.length → (∀ (i : Nat) u u', a[i]? = some u → p[i]? = some u' → ∀ z, VR σ u z → u' = z) → (∀ (i : Nat) u u', a[i]? = some u → q[i]? = some u' → VR σ u u') → p = q := by
    intro a p q l1 l2 f g
    apply List.ext_getElem?
    intro i
    by_cases hi : i < a.length
    · have hp : i < p.length := by omega
      have hq : i < q.length := by omega
      have := f i a[i] p[i] (List.getElem?_eq_getElem hi) (List.getElem?_eq_getElem hp) q[i] (g i a[i] q[i] (List.getElem?_eq_getElem hi) (List.getElem?_eq_getElem hq))
      rw [List.getElem?_eq_getElem hp, List.getElem?_eq_getElem hq, this]
    · rw [List.getElem?_eq_none (by omega), List.getElem?_eq_none (by omega)]
  induction h generalizing y with
  | bool b => intro k; cases k; rfl
  | int k n => intro k; cases k; rfl
  | float k n => intro k; cases k; rfl
  | str s => intro k; cases k; rfl
  | nilF => intro k; cases k; rfl
  | nilI => intro k; cases k; rfl
  | ptrN => intro k; cases k; rfl
  | ptr e => intro k; cases k with | ptr e' => rw [e] at e'; cases e'; rfl
  | slN => intro k; cases k; rfl
  | slX e hle =>
    intro k
    rename_i b o r δ x n c
    generalize hc : 2 * c = m at k
    cases k with
    | slX e' _ => rw [e] at e'; cases e'; congr 1; omega
    | slO e' _ => omega
  | slO e hl =>
    intro k
    rename_i b o r δ x n c
    generalize hc : 2 * c + 1 = m at k
    cases k with
    | slX e' _ => omega
    | slO e' _ => rw [e] at e'; cases e'; congr 1; omega
  | mapN => intro k; cases k; rfl
  | map e => intro k; cases k with | map e' => rw [e] at e'; cases e'; rfl
  | func f l1 l2 _ _ i1 i2 =>
    intro k
    cases k with
    | func f l1' l2' k1 k2 =>
      have e1 := ext l1 l1' (fun i u u' x y z hz => i1 i u u' x y hz) k1
      have e2 := ext l2 l2' (fun i u u' x y z hz => i2 i u u' x y hz) k2
      rw [e1, e2]
  | yld e => intro k; cases k with | yld e' => rw [e] at e'; cases e'; rfl
  | agg l _ i =>
    intro k
    cases k with
    | agg l' k' => rw [ext l l' (fun j u u' x y z hz => i j u u' x y hz) k']
  | tuple l _ i =>
    intro k
    cases k with
    | tuple l' k' => rw [ext l l' (fun j u u' x y z hz => i j u u' x y hz) k']
  | iface t _ i => intro k; cases k with | iface _ k' => rw [i k']

/-- The cells of a value. -/
theorem VR.cells {σ : Sg} {v v' : Value} (h : VR σ v v') : VRs σ (vcells v) v'.cells.toList := by
  have one : ∀ {u u' : Value}, VR σ u u' → VRs σ [u] [u'] := fun h => .cons h (.nil σ)
  cases h with
  | agg l i => exact ⟨l, i⟩
  | tuple l i => exact one (.tuple l i)
  | bool b => exact one (.bool b)
  | int k n => exact one (.int k n)
  | float k n => exact one (.float k n)
  | str s => exact one (.str s)
  | nilF => exact one .nilF
  | nilI => exact one .nilI
  | ptrN => exact one .ptrN
  | ptr e => exact one (.ptr e)
  | slN => exact one .slN
  | slX e h => exact one (.slX e h)
  | slO e h => exact one (.slO e h)
  | mapN => exact one .mapN
  | map e => exact one (.map e)
  | func f l1 l2 i1 i2 => exact one (.func f l1 l2 i1 i2)
  | yld e => exact one (.yld e)
  | iface t i => exact one (.iface t i)

theorem VR.one1 {σ : Sg} {v v' : Value} (h : VR σ v v') : v'.oneCell' = Ev.one1 v := by cases h <;> rfl

/-- Temporaries. -/
def TR (σ : Sg) (nt : Nat) (t : Tm) (a : Array Value) : Prop := a.size = nt ∧ ∀ i, VR σ ((t.get i).getD undef) (a.getD i undef)
theorem TR.mono {σ τ : Sg} (hs : Sub σ τ) {nt : Nat} {t : Tm} {a : Array Value} (h : TR σ nt t a) : TR τ nt t a := ⟨h.1, fun i => (h.2 i).mono hs⟩
theorem TR.set {σ : Sg} {nt : Nat} {t : Tm} {a : Array Value} (h : TR σ nt t a) {d : Nat} (hd : d < nt) {v v' : Value} (hv : VR σ v v') : TR σ nt (t.put d v) (a.setIfInBounds d v') := by
  refine ⟨by simp [h.1], fun i => ?_⟩
  rw [Tr.get_put]
  have hs : d < a.size := by rw [h.1]; exact hd
  by_cases e : i = d
  · subst e
    simpa [hs] using hv
  · rw [if_neg e]
    have := h.2 i
    simp only [Array.getD_eq_getD_getElem?] at this ⊢
    rw [Array.getElem?_setIfInBounds_ne (Ne.symm e)]
    exact this

end Go.Ev
namespace Go.Ev
open Go Go.RowKit

def MR (σ : Sg) (es es' : List MapEntry) : Prop := es.length = es'.length ∧ ∀ (i : Nat) e e', es[i]? = some e → es'[i]? = some e' → e'.key = e.key ∧ plain e.key = true ∧ e'.born = e.born ∧ VR σ e.val e'.val
inductive TgR (σ : Sg) : Target → Target → Prop
  | fn (f : FuncId) {c c' : Array Value} : VRs σ c.toList c'.toList → TgR σ (.fn (.func f) c) (.fn (.func f) c')
  | col {b r δ x : Nat} : σ b = some (r, δ, x) → TgR σ (.collected b) (.collected r)
def DR (σ : Sg) (d d' : Deferred) : Prop := TgR σ d.target d'.target ∧ VRs σ d.args.toList d'.args.toList
def DRs (σ : Sg) (l l' : List Deferred) : Prop := l.length = l'.length ∧ ∀ (i : Nat) d d', l[i]? = some d → l'[i]? = some d' → DR σ d d'
def LR (σ : Sg) (l : ALoop) (l' : Loop) : Prop :=
  l'.state = l.state ∧ l'.pending = l.pending ∧ l'.fn = l.fn ∧ TR σ l.nt l.tmps l'.tmps ∧ l'.params.toList = l.params ∧ l'.assign = l.assign ∧ l'.body = l.body ∧ ∃ r δ x, σ l.defers = some (r, δ, x) ∧ l'.defers = r
def ODR (σ : Sg) : Option (List Deferred) → Option (List Deferred) → Prop
  | none, none => True
  | some a, some b => DRs σ a b
  | _, _ => False

theorem TgR.mono {σ τ : Sg} (hs : Sub σ τ) {a b : Target} (h : TgR σ a b) : TgR τ a b := by
  cases h with
  | fn f c => exact .fn f (c.mono hs)
  | col e => exact .col (hs _ _ e)
theorem DR.mono {σ τ : Sg} (hs : Sub σ τ) {a b : Deferred} (h : DR σ a b) : DR τ a b := ⟨h.1.mono hs, h.2.mono hs⟩
theorem DRs.mono {σ τ : Sg} (hs : Sub σ τ) {a b : List Deferred} (h : DRs σ a b) : DRs τ a b := ⟨h.1, fun i d d' x y => (h.2 i d d' x y).mono hs⟩
theorem DRs.nil (σ : Sg) : DRs σ [] [] := ⟨rfl, fun i d d' h => by simp at h⟩
theorem DRs.cons {σ : Sg} {v v' : Deferred} {a a' : List Deferred} (h : DR σ v v') (k : DRs σ a a') : DRs σ (v :: a) (v' :: a') := by
  refine ⟨by simp [k.1], fun i u u' x y => ?_⟩
  cases i with
  | zero => simp at x y; subst x; subst y; exact h
  | succ i => simp at x y; exact k.2 i u u' x y
theorem DRs.inv {σ : Sg} {v : Deferred} {a l : List Deferred} (h : DRs σ (v :: a) l) : ∃ v' a', l = v' :: a' ∧ DR σ v v' ∧ DRs σ a a' := by
  cases l with
  | nil => simp [DRs] at h
  | cons v' a' => exact ⟨v', a', rfl, h.2 0 v v' rfl rfl, by simpa using h.1, fun i u u' x y => h.2 (i + 1) u u' (by simpa using x) (by simpa using y)⟩
theorem DRs.inv_nil {σ : Sg} {l : List Deferred} (h : DRs σ [] l) : l = [] := List.length_eq_zero_iff.1 (by simpa using h.1.symm)
theorem DRs.append {σ : Sg} {a a' b b' : List Deferred} (h : DRs σ a a') (k : DRs σ b b') : DRs σ (a ++ b) (a' ++ b') := by
  refine ⟨by simp [h.1, k.1], fun i u u' x y => ?_⟩
  by_cases hi : i < a.length
  · rw [List.getElem?_append_left hi] at x
    rw [List.getElem?_append_left (by rw [← h.1]; exact hi)] at y
    exact h.2 i u u' x y
  · rw [List.getElem?_append_right (by omega)] at x
    rw [List.getElem?_append_right (by rw [← h.1]; omega), ← h.1] at y
    exact k.2 _ u u' x y
theorem LR.mono {σ τ : Sg} (hs : Sub σ τ) {a : ALoop} {b : Loop} (h : LR σ a b) : LR τ a b := by
  obtain ⟨h1, h2, h3, h4, h5, h6, h7, r, δ, x, h8, h9⟩ := h
  exact ⟨h1, h2, h3, h4.mono hs, h5, h6, h7, r, δ, x, hs _ _ h8, h9⟩

/-- A row's room; a variable that holds a Builder is a block of its own. -/
def Rm (P : Program) (e : TypeId) (δ x n m : Nat) : Prop := (x = 0 ∨ ∃ s, szx P e = some s ∧ δ + x * s ≤ n) ∧ (isHolder P e = true → δ = 0 ∧ n = m)
def OR (P : Program) (σ : Sg) (w : World) : AObj → Nat → Nat → Nat → Prop
  | .cells cs e, r, δ, x => ∃ C : Array Value, w.heap[r]? = some (.cells C e (0, 0)) ∧ Rm P e δ x C.size cs.length ∧ ∀ (i : Nat) v, cs[i]? = some v → ∃ v', C[δ + i]? = some v' ∧ VR σ v v'
  | .ro cs, r, δ, _ => ∃ (C : Array Value) (e : TypeId) (fz : Nat × Nat), w.heap[r]? = some (.cells C e fz) ∧ ∀ (i : Nat) v, cs[i]? = some v → ∃ v', C[δ + i]? = some v' ∧ VR σ v v'
  | .map es c, r, _, _ => ∃ es', w.heap[r]? = some (.map es' c) ∧ MR σ es es'.toList
  | .loop l, r, _, _ => ∃ l', w.heap[r]? = some (.loop l') ∧ LR σ l l'
  | .deferred ds, r, _, _ => ∃ ds', w.heap[r]? = some (.deferred ds') ∧ ODR σ ds ds'
  | .dead, _, _, _ => True

def live : AObj → Bool | .dead => false | _ => true
def owned : AObj → Bool | .dead => false | .ro _ => false | _ => true
theorem owned_live {o : AObj} (h : owned o = true) : live o = true := by cases o <;> simp_all [owned, live]

theorem OR.mono {P : Program} {σ τ : Sg} (hs : Sub σ τ) {w w' : World} {o : AObj} {r δ x : Nat} (hw : w'.heap[r]? = w.heap[r]?) (h : OR P σ w o r δ x) : OR P τ w' o r δ x := by
  cases o with
  | cells cs e =>
    obtain ⟨C, h1, h2, h3⟩ := h
    exact ⟨C, hw.trans h1, h2, fun i v hv => let ⟨v', a, b⟩ := h3 i v hv; ⟨v', a, b.mono hs⟩⟩
  | ro cs =>
    obtain ⟨C, e, fz, h1, h3⟩ := h
    exact ⟨C, e, fz, hw.trans h1, fun i v hv => let ⟨v', a, b⟩ := h3 i v hv; ⟨v', a, b.mono hs⟩⟩
  | map es c =>
    obtain ⟨es', h1, h2, h3⟩ := h
    exact ⟨es', hw.trans h1, h2, fun i e e' x y => let ⟨a, b, c, d⟩ := h3 i e e' x y; ⟨a, b, c, d.mono hs⟩⟩
  | loop l => obtain ⟨l', h1, h2⟩ := h; exact ⟨l', hw.trans h1, h2.mono hs⟩
  | deferred ds =>
    obtain ⟨ds', h1, h2⟩ := h
    refine ⟨ds', hw.trans h1, ?_⟩
    cases ds <;> cases ds' <;> simp only [ODR] at h2 ⊢
    exact h2.mono hs
  | dead => trivial

/-- A live object's block is there. -/
theorem OR.lt {P : Program} {σ : Sg} {w : World} {o : AObj} {r δ x : Nat} (h : OR P σ w o r δ x) (hl : live o = true) : r < w.heap.size := by
  have key : ∀ y, w.heap[r]? = some y → r < w.heap.size := fun y hy => (Array.getElem?_eq_some_iff.1 hy).1
  cases o with
  | cells cs e => obtain ⟨C, h1, _⟩ := h; exact key _ h1
  | ro cs => obtain ⟨C, e, fz, h1, _⟩ := h; exact key _ h1
  | map es c => obtain ⟨es', h1, _⟩ := h; exact key _ h1
  | loop l => obtain ⟨l', h1, _⟩ := h; exact key _ h1
  | deferred ds => obtain ⟨ds', h1, _⟩ := h; exact key _ h1
  | dead => simp [live] at hl

structure HR (P : Program) (B : World) (σ : Sg) (h : H) (w : World) : Prop where
  bel : Below B.heap.size B w
  glob : ∀ g, g < P.globals.size → σ g = some (g, 0, 0)
  obj : ∀ b o, h.objs.get b = some o → live o = true → ∃ r δ x, σ b = some (r, δ, x) ∧ OR P σ w o r δ x
  inj : ∀ b b' o o' r δ x r' δ' x', h.objs.get b = some o → h.objs.get b' = some o' → owned o = true → live o' = true → b ≠ b' → σ b = some (r, δ, x) → σ b' = some (r', δ', x') → r ≠ r'
  own : ∀ b o r δ x, h.objs.get b = some o → owned o = true → σ b = some (r, δ, x) → B.heap.size ≤ r
  low : ∀ b o, h.objs.get b = some o → b < h.next
  bnd : ∀ b r δ x, σ b = some (r, δ, x) → r < w.heap.size

/-- Nothing new lives. -/
def Shr (h h' : H) : Prop := ∀ b o', h'.objs.get b = some o' → live o' = true → ∃ o, h.objs.get b = some o ∧ live o = true ∧ (owned o' = true → owned o = true)
def Stay (h h' : H) : Prop := h'.next = h.next ∧ Shr h h'
theorem Shr.refl (h : H) : Shr h h := fun _ o ho hl => ⟨o, ho, hl, id⟩
theorem Stay.refl (h : H) : Stay h h := ⟨rfl, Shr.refl h⟩
theorem Shr.put {h : H} {b : Nat} {o o2 : AObj} (ho : h.objs.get b = some o) (hw : owned o = true) : Shr h (h.put b o2) := fun n p hp hl => by
  simp only [H.put, Tr.get_put] at hp
  split at hp
  · rename_i e; subst e; exact ⟨o, ho, owned_live hw, fun _ => hw⟩
  · exact ⟨p, hp, hl, id⟩
theorem Stay.put {h : H} {b : Nat} {o o2 : AObj} (ho : h.objs.get b = some o) (hw : owned o = true) : Stay h (h.put b o2) := ⟨rfl, Shr.put ho hw⟩

/-- What no owned object lies at stays. -/
def FP (σ : Sg) (h : H) (w w' : World) : Prop :=
  w.heap.size ≤ w'.heap.size ∧ ∀ r, r < w.heap.size → (∀ b o, h.objs.get b = some o → owned o = true → ∀ r' δ x, σ b = some (r', δ, x) → r' ≠ r) → w'.heap[r]? = w.heap[r]?
theorem FP.shr {σ : Sg} {h h1 : H} {w w' : World} (s : Shr h h1) (f : FP σ h1 w w') : FP σ h w w' := ⟨f.1, fun r hr hn => f.2 r hr fun b o ho hw r' δ x e => by
  obtain ⟨o', h1, _, h3⟩ := s b o ho (owned_live hw)
  exact hn b o' h1 (h3 hw) r' δ x e⟩
theorem FP.refl (σ : Sg) (h : H) (w : World) : FP σ h w w := ⟨Nat.le_refl _, fun _ _ _ => rfl⟩
theorem FP.same {σ : Sg} {h : H} {w w' : World} (e : w'.heap = w.heap) : FP σ h w w' := by
  refine ⟨by rw [e]; exact Nat.le_refl _, fun _ _ _ => by rw [e]⟩

/-- More is known, of new numbers alone. -/
def EX (σ τ : Sg) (lo hi : Nat) : Prop := lo ≤ hi ∧ Sub σ τ ∧ ∀ b, (b < lo ∨ hi ≤ b) → τ b = σ b
theorem EX.refl (σ : Sg) (n : Nat) : EX σ σ n n := ⟨Nat.le_refl _, Sub.refl σ, fun _ _ => rfl⟩
theorem EX.trans {σ τ υ : Sg} {a b c : Nat} (h : EX σ τ a b) (k : EX τ υ b c) : EX σ υ a c := by
  have h1 := h.1
  have k1 := k.1
  refine ⟨Nat.le_trans h1 k1, h.2.1.trans k.2.1, fun x hx => ?_⟩
  rw [k.2.2 x (by omega), h.2.2 x (by omega)]

/-- A live object's real block is new, or a live object's. -/
def NB (σ τ : Sg) (h : H) (w : World) (h' : H) : Prop := ∀ b o, h'.objs.get b = some o → live o = true → ∀ r δ x, τ b = some (r, δ, x) →
  w.heap.size ≤ r ∨ ∃ b' o' δ' x', h.objs.get b' = some o' ∧ live o' = true ∧ (owned o = true → owned o' = true) ∧ σ b' = some (r, δ', x')
theorem NB.none {σ : Sg} {h h' : H} {w : World} (s : Stay h h') : NB σ σ h w h' := fun b o ho hl r δ x e => by
  obtain ⟨o', h1, h2, h3⟩ := s.2 b o ho hl
  exact .inr ⟨b, o', δ, x, h1, h2, h3, e⟩
theorem NB.shr {σ τ : Sg} {h h1 h' : H} {w : World} (s : Shr h h1) (n : NB σ τ h1 w h') : NB σ τ h w h' := fun b o ho hl r δ x e => by
  rcases n b o ho hl r δ x e with z | ⟨b', o', δ', x', z1, z2, z3, z4⟩
  · exact .inl z
  · obtain ⟨o2, y1, y2, y3⟩ := s b' o' z1 z2
    exact .inr ⟨b', o2, δ', x', y1, y2, fun k => y3 (z3 k), z4⟩

theorem HR.heap {P : Program} {B : World} {σ : Sg} {h : H} {w w' : World} (k : HR P B σ h w) (e : w'.heap = w.heap) (b : Below B.heap.size B w') : HR P B σ h w' where
  bel := b
  glob := k.glob
  obj := fun n o ho hl => let ⟨r, δ, x, h1, h2⟩ := k.obj n o ho hl; ⟨r, δ, x, h1, h2.mono (Sub.refl σ) (by rw [e])⟩
  inj := k.inj
  own := k.own
  low := k.low
  bnd := fun b r δ x hb => by rw [e]; exact k.bnd b r δ x hb

theorem HR.drawn {P : Program} {B : World} {σ : Sg} {h : H} {w : World} (k : HR P B σ h w) (n : Nat) : HR P B σ h { w with drawn := n } :=
  k.heap rfl ⟨k.bel.os, k.bel.tape, k.bel.output, k.bel.size, k.bel.block⟩

/-- An owned object turns into another. -/
theorem HR.upd0 {P : Program} {B : World} {σ : Sg} {h : H} {w w' : World} (k : HR P B σ h w) {b : Nat} {o o2 : AObj} {r δ x : Nat} (ho : h.objs.get b = some o) (hw : owned o = true) (hb : σ b = some (r, δ, x))
    (hbel : Below B.heap.size B w') (hst : ∀ q, q ≠ r → w'.heap[q]? = w.heap[q]?) (h2 : OR P σ w' o2 r δ x) (hsz : w.heap.size ≤ w'.heap.size) : HR P B σ (h.put b o2) w' where
  bel := hbel
  glob := k.glob
  obj := fun n p hp hl => by
    simp only [H.put, Tr.get_put] at hp
    split at hp
    · rename_i e
      subst e
      obtain rfl := Option.some.inj hp
      exact ⟨r, δ, x, hb, h2⟩
    · rename_i e
      obtain ⟨r', δ', x', h1, h3⟩ := k.obj n p hp hl
      exact ⟨r', δ', x', h1, h3.mono (Sub.refl σ) (hst r' (Ne.symm (k.inj b n o p r δ x r' δ' x' ho hp hw hl (Ne.symm e) hb h1)))⟩
  inj := fun n n' p p' r1 δ1 x1 r2 δ2 x2 hp hp' h3 h4 hne e1 e2 => by
    have key : ∀ m q, (h.put b o2).objs.get m = some q → live q = true → ∃ q', h.objs.get m = some q' ∧ live q' = true ∧ (owned q = true → owned q' = true) := by
      intro m q hq hlq
      simp only [H.put, Tr.get_put] at hq
      split at hq
      · rename_i e
        subst e
        obtain rfl := Option.some.inj hq
        exact ⟨o, ho, owned_live hw, fun _ => hw⟩
      · exact ⟨q, hq, hlq, fun z => z⟩
    obtain ⟨q, hq, hlq, hoq⟩ := key n p hp (owned_live h3)
    obtain ⟨q', hq', hlq', _⟩ := key n' p' hp' h4
    exact k.inj n n' q q' r1 δ1 x1 r2 δ2 x2 hq hq' (hoq h3) hlq' hne e1 e2
  own := fun n p r1 δ1 x1 hp h3 e1 => by
    simp only [H.put, Tr.get_put] at hp
    split at hp
    · rename_i e
      subst e
      exact k.own n o r1 δ1 x1 ho hw e1
    · exact k.own n p r1 δ1 x1 hp h3 e1
  low := fun n p hp => by
    simp only [H.put, Tr.get_put] at hp
    split at hp
    · rename_i e
      subst e
      exact k.low n o ho
    · exact k.low n p hp
  bnd := fun b r δ x hb => Nat.lt_of_lt_of_le (k.bnd b r δ x hb) hsz

theorem HR.upd {P : Program} {B : World} {σ : Sg} {h : H} {w w' : World} (k : HR P B σ h w) {b : Nat} {o o2 : AObj} {r δ x : Nat} (ho : h.objs.get b = some o) (hw : owned o = true) (hb : σ b = some (r, δ, x))
    (hbel : Below B.heap.size B w') (hst : ∀ q, q ≠ r → w'.heap[q]? = w.heap[q]?) (h2 : OR P σ w' o2 r δ x) (hsz : w.heap.size ≤ w'.heap.size) (_hd : owned o2 = true ∨ o2 = .dead) : HR P B σ (h.put b o2) w' := k.upd0 ho hw hb hbel hst h2 hsz

theorem FP.upd {P : Program} {B : World} {σ : Sg} {h : H} {w w' : World} (k : HR P B σ h w) {b : Nat} {o : AObj} {r δ x : Nat} (ho : h.objs.get b = some o) (hw : owned o = true) (hb : σ b = some (r, δ, x)) (hs : w.heap.size ≤ w'.heap.size)
    (hst : ∀ q, q ≠ r → w'.heap[q]? = w.heap[q]?) : FP σ h w w' :=
  have _ := k
  ⟨hs, fun q _ hq => hst q (fun e => hq b o ho hw r δ x hb e.symm)⟩

def addS (σ : Sg) (n : Nat) (v : Nat × Nat × Nat) : Sg := fun b => if b = n then some v else σ b
theorem addS_self (σ : Sg) (n : Nat) (v : Nat × Nat × Nat) : addS σ n v n = some v := by simp [addS]
theorem addS_ne (σ : Sg) {n b : Nat} (v : Nat × Nat × Nat) (h : b ≠ n) : addS σ n v b = σ b := by simp [addS, h]
theorem addS_sub {σ : Sg} {n : Nat} (v : Nat × Nat × Nat) (h : σ n = none) : Sub σ (addS σ n v) := fun b x e => by
  by_cases hb : b = n
  · subst hb; rw [h] at e; simp at e
  · rw [addS_ne _ _ hb]; exact e
theorem addS_ex {σ : Sg} {n : Nat} (v : Nat × Nat × Nat) (h : σ n = none) : EX σ (addS σ n v) n (n + 1) :=
  ⟨by omega, addS_sub v h, fun b hb => addS_ne σ v (by omega)⟩

/-- A new number, at a real block that no live number has. -/
theorem HR.add {P : Program} {B : World} {σ : Sg} {h : H} {w w' : World} (k : HR P B σ h w) {o : AObj} {r δ x : Nat} (hn : σ h.next = none) (hg : P.globals.size ≤ h.next) (hlo : owned o = true ∨ ∃ cs, o = .ro cs)
    (hbel : Below B.heap.size B w') (hB : B.heap.size ≤ r) (hst : ∀ q, q ≠ r → q < w.heap.size → w'.heap[q]? = w.heap[q]?) (hfr : ∀ b p r' δ' x', h.objs.get b = some p → live p = true → σ b = some (r', δ', x') → r' ≠ r)
    (h2 : OR P (addS σ h.next (r, δ, x)) w' o r δ x) (hsz : w.heap.size ≤ w'.heap.size) (hrs : r < w'.heap.size) : HR P B (addS σ h.next (r, δ, x)) (h.new o) w' where
  bel := hbel
  glob := fun g hgl => by rw [addS_ne _ _ (by omega)]; exact k.glob g hgl
  obj := fun n p hp hl => by
    simp only [H.new, Tr.get_put] at hp
    split at hp
    · rename_i e
      subst e
      obtain rfl := Option.some.inj hp
      exact ⟨r, δ, x, addS_self _ _ _, h2⟩
    · rename_i e
      obtain ⟨r', δ', x', h1, h3⟩ := k.obj n p hp hl
      exact ⟨r', δ', x', by rw [addS_ne _ _ e]; exact h1, h3.mono (addS_sub _ hn) (hst r' (hfr n p r' δ' x' hp hl h1) (h3.lt hl))⟩
  inj := fun n n' p p' r1 δ1 x1 r2 δ2 x2 hp hp' h3 h4 hne e1 e2 => by
    simp only [H.new, Tr.get_put] at hp hp'
    split at hp
    · rename_i e
      subst e
      rw [if_neg (Ne.symm hne)] at hp'
      rw [addS_self] at e1
      rw [addS_ne _ _ (Ne.symm hne)] at e2
      cases e1
      exact Ne.symm (hfr n' p' r2 δ2 x2 hp' h4 e2)
    · rename_i e
      rw [addS_ne _ _ e] at e1
      split at hp'
      · rename_i e'
        subst e'
        rw [addS_self] at e2
        cases e2
        exact hfr n p r1 δ1 x1 hp (owned_live h3) e1
      · rename_i e'
        rw [addS_ne _ _ e'] at e2
        exact k.inj n n' p p' r1 δ1 x1 r2 δ2 x2 hp hp' h3 h4 hne e1 e2
  own := fun n p r1 δ1 x1 hp h3 e1 => by
    simp only [H.new, Tr.get_put] at hp
    split at hp
    · rename_i e
      subst e
      rw [addS_self] at e1
      cases e1
      exact hB
    · rename_i e
      rw [addS_ne _ _ e] at e1
      exact k.own n p r1 δ1 x1 hp h3 e1
  low := fun n p hp => by
    simp only [H.new, Tr.get_put] at hp ⊢
    split at hp
    · omega
    · have := k.low n p hp; omega
  bnd := fun b r1 δ1 x1 hb => by
    by_cases e : b = h.next
    · subst e; rw [addS_self] at hb; cases hb; exact hrs
    · rw [addS_ne _ _ e] at hb; exact Nat.lt_of_lt_of_le (k.bnd b r1 δ1 x1 hb) hsz

/-- A new block. -/
theorem HR.new {P : Program} {B : World} {σ : Sg} {h : H} {w : World} (k : HR P B σ h w) {o : AObj} {O : Obj} {δ x : Nat} (hn : σ h.next = none) (hg : P.globals.size ≤ h.next) (hlo : owned o = true ∨ ∃ cs, o = .ro cs)
    (h2 : OR P (addS σ h.next (w.heap.size, δ, x)) (w.alloc O) o w.heap.size δ x) : HR P B (addS σ h.next (w.heap.size, δ, x)) (h.new o) (w.alloc O) ∧ FP σ h w (w.alloc O) ∧ NB σ (addS σ h.next (w.heap.size, δ, x)) h w (h.new o) := by
  have hsz := k.bel.size
  have hold : ∀ q, q < w.heap.size → (w.alloc O).heap[q]? = w.heap[q]? := fun q hq => Below.heap_alloc w O q hq
  refine ⟨k.add hn hg hlo (k.bel.alloc hsz O) hsz (fun q _ hq => hold q hq) (fun b p r' δ' x' hp hl e => ?_) h2 (by show w.heap.size ≤ (w.heap.push O).size; simp) (by show w.heap.size < (w.heap.push O).size; simp), ⟨?_, fun r hr _ => hold r hr⟩, fun b p hp hl r δ' x' e => ?_⟩
  · obtain ⟨r2, δ2, x2, e2, h3⟩ := k.obj b p hp hl
    rw [e] at e2
    cases e2
    have := h3.lt hl
    omega
  · show w.heap.size ≤ (w.heap.push O).size
    simp
  · simp only [H.new, Tr.get_put] at hp
    split at hp
    · rename_i e0
      subst e0
      rw [addS_self] at e
      cases e
      exact .inl (Nat.le_refl _)
    · rename_i e0
      rw [addS_ne _ _ e0] at e
      exact .inr ⟨b, p, δ', x', hp, hl, id, e⟩

end Go.Ev
namespace Go.Ev
open Go Go.RowKit

/-- A piece of the model that yields a value and leaves the world, in whatever world. -/
def Yl (P : Program) (s : Sem Value) (v' : Value) : Prop := ∀ w, s.run P w = .ok v' w

theorem pureOf_run {P : Program} {α : Type} : ∀ {s : Sem α} {a : α}, pureOf P s = some a → ∀ w, s.run P w = .ok a w := by
  intro s
  induction s with
  | pure b => intro a h w; simp [pureOf] at h; subst h; rfl
  | program k ih => intro a h w; simp only [pureOf] at h; simpa [Sem.run] using ih P h w
  | _ => intro a h; simp [pureOf] at h

theorem run_und {P : Program} {t : TypeId} {d : TypeDesc} (h : undx P t = some d) (w : World) : (underlying t).run P w = .ok d w := by
  simp [underlying, undx_some h]
theorem szx_info {P : Program} {t : TypeId} {n : Nat} (h : szx P t = some n) : (P.info? t).map (·.size) = some n := by
  unfold szx at h
  cases hi : infx P t with
  | none => rw [hi] at h; simp at h
  | some i => rw [hi] at h; rw [infx_some hi]; exact h
theorem run_sz {P : Program} {t : TypeId} {n : Nat} (h : szx P t = some n) (w : World) : (sizeOf t).run P w = .ok n w := by
  have := szx_info h
  cases hi : P.info? t with
  | none => rw [hi] at this; simp at this
  | some i => rw [hi] at this; simp at this; simp [sizeOf, typeInfo, hi, this]
theorem zerox_some {P : Program} {t : TypeId} {z : Value} (h : zerox P t = some z) : ∃ i, P.info? t = some i ∧ i.zero = some z ∧ plain z = true := by
  unfold zerox at h
  obtain ⟨i, hi, h⟩ := Option.bind_eq_some_iff.1 h
  obtain ⟨y, hy, h⟩ := Option.bind_eq_some_iff.1 h
  cases hp : plain y with
  | false => rw [hp] at h; simp at h
  | true => rw [hp] at h; simp at h; subst h; exact ⟨i, infx_some hi, hy, hp⟩
theorem zerox_run {P : Program} {t : TypeId} {z : Value} (h : zerox P t = some z) (w : World) : (zeroValue t).run P w = .ok z w := by
  obtain ⟨i, h1, h2, _⟩ := zerox_some h
  simp [zeroValue, typeInfo, h1, h2]
theorem aggx_run {P : Program} {t : TypeId} {b : Bool} (h : aggx P t = some b) (w : World) : (isAgg t).run P w = .ok b w := by
  unfold aggx at h
  unfold isAgg
  cases hd : undx P t with
  | none => rw [hd] at h; simp at h
  | some d =>
    rw [hd] at h
    simp only [Sem.run_bind, run_und hd, Result.andThen_ok]
    cases d <;> simp_all

theorem rangex_some {cs l : List Value} {o n : Nat} (h : rangex cs o n = some l) : l = (cs.drop o).take n ∧ l.length = n := by
  unfold rangex at h
  dsimp only at h
  rw [lenR_eq, takeR_eq, dropR_eq] at h
  cases hb : Nat.beq n ((cs.drop o).take n).length with
  | false => rw [hb] at h; simp at h
  | true =>
    rw [hb] at h
    simp only [cond_true, Option.some.injEq] at h
    exact ⟨h.symm, h ▸ (Nat.eq_of_beq_eq_true hb).symm⟩

section
variable {P : Program} {σ : Sg}

theorem partx_run {t : TypeId} {cs cs' : List Value} (hc : VRs σ cs cs') {off : Nat} {v : Value} (h : partx P t cs off = some v) : ∃ v', Yl P (part t ⟨cs'⟩ off) v' ∧ VR σ v v' := by
  unfold partx at h
  cases ha : aggx P t with
  | none => rw [ha] at h; simp at h
  | some b =>
    rw [ha] at h
    cases b with
    | true =>
      cases hs : szx P t with
      | none => rw [hs] at h; simp at h
      | some n =>
        rw [hs] at h
        simp only [Option.map_eq_some_iff] at h
        obtain ⟨l, hl, rfl⟩ := h
        obtain ⟨e, hlen⟩ := rangex_some hl
        have hv := (hc.drop off).take n
        rw [← e] at hv
        refine ⟨.agg ⟨(cs'.drop off).take n⟩, fun w => ?_, .agg hv.1 hv.2⟩
        unfold part
        simp only [Sem.run_bind, aggx_run ha, Result.andThen_ok, if_true, run_sz hs]
        simp [List.extract_eq_take_drop]
    | false =>
      simp only [nthR_eq] at h
      obtain ⟨v', h1, h2⟩ := hc.at h
      refine ⟨v', fun w => ?_, h2⟩
      unfold part
      simp only [Sem.run_bind, aggx_run ha, Result.andThen_ok]
      simp [h1]

theorem fieldx_run {s : TypeId} {x x' v : Value} {f : Nat} (hx : VR σ x x') (h : fieldx P s x f = some v) : ∃ v', Yl P (Instr.field s x' f) v' ∧ VR σ v v' := by
  unfold fieldx at h
  cases hd : undx P s with
  | none => rw [hd] at h; simp at h
  | some d =>
    rw [hd] at h
    cases d <;> (try (simp at h; done))
    rename_i fs
    cases hx <;> (try (simp at h; done))
    rename_i a a' hl hi
    obtain ⟨fd, hf, hp⟩ := Option.bind_eq_some_iff.1 h
    obtain ⟨v', h1, h2⟩ := partx_run (cs' := a') ⟨hl, hi⟩ hp
    refine ⟨v', fun w => ?_, h2⟩
    have hf' : fs[f]? = some fd := by simpa using hf
    simp [Instr.field, run_und hd, hf', asAgg, h1 w]

theorem fieldAddrx_run {s : TypeId} {x x' v : Value} {f : Nat} (hx : VR σ x x') (h : fieldAddrx P s x f = some v) : ∃ v', Yl P (Instr.fieldAt s x' f) v' ∧ VR σ v v' := by
  unfold fieldAddrx at h
  cases hd : undx P s with
  | none => rw [hd] at h; simp at h
  | some d =>
    rw [hd] at h
    cases d <;> (try (simp at h; done))
    rename_i fs
    cases hx <;> (try (simp at h; done))
    rename_i b o r δ y e
    simp only [Array.getElem?_toList] at h
    cases hf : fs[f]? with
    | none => simp [hf] at h
    | some fd =>
      simp only [hf] at h
      cases hs : szx P fd.type with
      | none => rw [hs] at h; simp at h
      | some n =>
        rw [hs] at h
        cases n with
        | zero => simp at h
        | succ n =>
          simp only [Option.some.injEq] at h
          subst h
          refine ⟨.pointer (some ⟨r, δ + (o + fd.offset), none⟩), fun w => ?_, .ptr e⟩
          have e1 : (⟨r, δ + o, none⟩ : Addr).add fd.offset = ⟨r, δ + (o + fd.offset), none⟩ := by rw [Addr.add_mid, Nat.add_assoc]
          simp [Instr.fieldAt, run_und hd, hf, Instr.sureAddr, fieldPlace, run_sz hs, e1]

theorem idx_some {i : Int} {n k : Nat} (h : idx i n = some k) : i = k ∧ k < n := by
  unfold idx at h
  cases i with
  | ofNat m =>
    simp only at h
    cases hb : Nat.blt m n with
    | false => rw [hb] at h; simp at h
    | true =>
      rw [hb] at h
      simp only [cond_true, Option.some.injEq] at h
      subst h
      exact ⟨rfl, by simpa [Nat.blt_eq] using hb⟩
  | negSucc m => simp at h

theorem indexAddrx_run {t : TypeId} {x x' i i' v : Value} (hx : VR σ x x') (hi : VR σ i i') (h : indexAddrx P t x i = some v) : ∃ v', Yl P (Instr.indexAt t x' i') v' ∧ VR σ v v' := by
  unfold indexAddrx at h
  cases hd : undx P t with
  | none => rw [hd] at h; simp at h
  | some d =>
    rw [hd] at h
    cases d <;> (try (simp at h; done))
    · rename_i e
      have fin : ∀ {b o r δ y n c cc : Nat}, σ b = some (r, δ, y) → ((match i with
          | .int _ i => (idx i n).bind fun k => (szx P e).map fun s => (.pointer (some ⟨b, o + k * s, none⟩) : Value)
          | _ => none) = some v) → ∃ v', Yl P (Instr.indexAt t (.slice (some ⟨r, δ + o, none⟩) n cc) i') v' ∧ VR σ v v' := by
        intro b o r δ y n c cc eb h
        cases hi <;> (try (simp at h; done))
        rename_i k j
        obtain ⟨m, hm, h⟩ := Option.bind_eq_some_iff.1 h
        obtain ⟨s, hs, rfl⟩ := Option.map_eq_some_iff.1 h
        obtain ⟨rfl, hlt⟩ := idx_some hm
        refine ⟨.pointer (some ⟨r, δ + (o + m * s), none⟩), fun w => ?_, .ptr eb⟩
        have e1 : (⟨r, δ + o, none⟩ : Addr).add (m * s) = ⟨r, δ + (o + m * s), none⟩ := by rw [Addr.add_mid, Nat.add_assoc]
        simp [Instr.indexAt, asIntOf, run_und hd, hlt, run_sz hs, e1]
      cases hx <;> (try (simp at h; done))
      · rename_i eb _
        exact fin (c := 0) eb (by cases hi <;> first | exact h | (simp at h; done))
      · rename_i eb _
        exact fin (c := 0) eb (by cases hi <;> first | exact h | (simp at h; done))
    · rename_i n e
      cases hx <;> (try (simp at h; done))
      rename_i b o r δ y eb
      cases hi <;> (try (simp at h; done))
      rename_i k j
      obtain ⟨m, hm, h⟩ := Option.bind_eq_some_iff.1 h
      obtain ⟨s, hs, rfl⟩ := Option.map_eq_some_iff.1 h
      obtain ⟨rfl, hlt⟩ := idx_some hm
      refine ⟨.pointer (some ⟨r, δ + (o + m * s), none⟩), fun w => ?_, .ptr eb⟩
      have e1 : (⟨r, δ + o, none⟩ : Addr).add (m * s) = ⟨r, δ + (o + m * s), none⟩ := by rw [Addr.add_mid, Nat.add_assoc]
      simp [Instr.indexAt, asIntOf, run_und hd, Instr.sureAddr, hlt, run_sz hs, e1]

theorem indexx_run {t : TypeId} {x x' i i' v : Value} (hx : VR σ x x') (hi : VR σ i i') (h : indexx P t x i = some v) : ∃ v', Yl P (Instr.index t x' i') v' ∧ VR σ v v' := by
  unfold indexx at h
  cases hd : undx P t with
  | none => rw [hd] at h; simp at h
  | some d =>
    rw [hd] at h
    cases d <;> (try (simp at h; done))
    · cases hx <;> (try (simp at h; done))
      rename_i s
      cases hi <;> (try (simp at h; done))
      rename_i k j
      cases j with
      | negSucc j => simp at h
      | ofNat j =>
        simp only [nthR_eq, Option.map_eq_some_iff] at h
        obtain ⟨b, hb, rfl⟩ := h
        refine ⟨_, fun w => ?_, .int .u8 b.toNat⟩
        have hb' : s[j]? = some b := by
          have hlt : j < s.data.size := by
            have := (List.getElem?_eq_some_iff.1 hb).1
            simpa using this
          have : s.data[j]? = some b := by simpa using hb
          have hg : s.data[j] = b := by
            rw [Array.getElem?_eq_getElem hlt] at this
            exact Option.some.inj this
          have hs : j < s.size := hlt
          rw [getElem?_pos s j hs]
          exact congrArg some hg
        simp [Instr.index, asIntOf, run_und hd, hb']
    · rename_i n e
      cases hx <;> (try (simp at h; done))
      rename_i a a' hl hi2
      cases hi <;> (try (simp at h; done))
      rename_i k j
      obtain ⟨m, hm, h⟩ := Option.bind_eq_some_iff.1 h
      obtain ⟨s, hs, hp⟩ := Option.bind_eq_some_iff.1 h
      obtain ⟨rfl, hlt⟩ := idx_some hm
      obtain ⟨v', h1, h2⟩ := partx_run (cs' := a') ⟨hl, hi2⟩ hp
      refine ⟨v', fun w => ?_, h2⟩
      simp [Instr.index, asIntOf, run_und hd, hlt, run_sz hs, h1 w]

theorem extractx_run {i : Nat} {x x' v : Value} (hx : VR σ x x') (h : extractx i x = some v) : ∃ v', Yl P (Instr.extract x' i) v' ∧ VR σ v v' := by
  unfold extractx at h
  simp only [nthR_eq] at h
  cases hx <;> (try (simp at h; done))
  rename_i a a' hl hi
  obtain ⟨v', h1, h2⟩ := VRs.at (⟨hl, hi⟩ : VRs σ a a') h
  exact ⟨v', fun w => by simp [Instr.extract, h1], h2⟩

end
end Go.Ev
namespace Go.Ev
open Go Go.RowKit
section
variable {P : Program} {σ : Sg}

/-- What may be there. -/
def VRo (σ : Sg) : Option Value → Option Value → Prop
  | none, none => True
  | some v, some v' => VR σ v v'
  | _, _ => False

theorem bound_run {d m : Nat} {v v' : Option Value} (hv : VRo σ v v') {k : Nat} (h : bound d m v = some k) (c : BoundsCode) {m' : Nat} (hm : m ≤ m') :
    (∀ w, (match v' with | some v => Instr.sliceBound v m' c | none => (pure d : Sem Nat)).run P w = .ok k w) ∧ (v = none ∧ k = d ∨ k ≤ m) := by
  cases v with
  | none =>
    cases v' with
    | none => simp only [bound, Option.some.injEq] at h; subst h; exact ⟨fun w => rfl, .inl ⟨rfl, rfl⟩⟩
    | some v' => exact hv.elim
  | some v =>
    cases v' with
    | none => exact hv.elim
    | some v' =>
      cases hv <;> (try (simp [bound] at h; done))
      rename_i q n
      cases n with
      | negSucc n => simp [bound] at h
      | ofNat n =>
        simp only [bound] at h
        cases hb : Nat.ble n m with
        | false => rw [hb] at h; simp at h
        | true =>
          rw [hb] at h
          simp only [cond_true, Option.some.injEq] at h
          subst h
          have hle : n ≤ m := Nat.le_of_ble_eq_true hb
          refine ⟨fun w => ?_, .inr hle⟩
          have : n ≤ m' := by omega
          simp [Instr.sliceBound, asIntOf, this]

theorem bounds_run {isS : Bool} {len cap : Nat} {lo lo' hi hi' : Option Value} (hlo : VRo σ lo lo') (hhi : VRo σ hi hi') {K h l : Nat} (h1 : bound len K hi = some h) (h2 : bound 0 h lo = some l) (hlK : len ≤ K) (hc : K ≤ cap) :
    (∀ w, (Instr.sliceBounds isS len cap lo' hi' none).run P w = .ok (l, h, cap) w) ∧ l ≤ h ∧ h ≤ K := by
  have a1 := bound_run (P := P) hhi h1 (if isS then .sliceAcap else .sliceAlen) hc
  have a2 := bound_run (P := P) hlo h2 .sliceB (Nat.le_refl h)
  have hh : h ≤ K := by rcases a1.2 with ⟨_, e⟩ | e <;> omega
  have hl : l ≤ h := by rcases a2.2 with ⟨_, e⟩ | e <;> omega
  refine ⟨fun w => ?_, hl, hh⟩
  have b1 := a1.1 w
  have b2 := a2.1 w
  unfold Instr.sliceBounds
  cases hi' with
  | none =>
    cases lo' with
    | none => simp at b1 b2 ⊢; exact ⟨b2, b1⟩
    | some v => simp at b1 b2 ⊢; subst b1; rw [b2]; rfl
  | some u =>
    cases lo' with
    | none => simp at b1 b2 ⊢; rw [b1]; simp [b2]
    | some v => simp at b1 b2 ⊢; rw [b1]; simp [b2]

theorem extract_bytes (s : ByteArray) (l h : Nat) : s.extract l h = ⟨⟨(s.data.toList.drop l).take (h - l)⟩⟩ := by
  have : (s.extract l h).data = s.data.extract l h := by simp
  have e2 : s.data.extract l h = ⟨(s.data.toList.drop l).take (h - l)⟩ := by
    apply Array.ext'
    simp [List.extract_eq_take_drop]
  cases hx : s.extract l h with
  | mk d =>
    rw [hx] at this
    simp only at this
    rw [this, e2]

theorem slice3_run {t e : TypeId} {v mv mv' : Value} {lo lo' hi hi' : Option Value} (hd : undx P t = some (.slice e)) (hlo : VRo σ lo lo') (hhi : VRo σ hi hi') (hmx : VRo σ (some mv) (some mv'))
    {a a' : Option Addr} {len cap c : Nat} (hlc : len ≤ c) (hk : a' = none ∧ a = none ∧ len = 0 ∧ c = 0 ∧ cap = 0 ∨ ∃ b o r δ y, a = some ⟨b, o, none⟩ ∧ a' = some ⟨r, δ + o, none⟩ ∧ σ b = some (r, δ, y) ∧ (cap = 2 * c ∨ ∃ k, cap = 2 * k + 1 ∧ c = y - k ∧ len + k ≤ y))
    (h : slice3 P e a len cap lo hi mv = some v) : ∃ v', Yl P (Instr.sliceAt t (.slice a' len c) lo' hi' (some mv')) v' ∧ VR σ v v' := by
  unfold slice3 at h
  cases hi with
  | none => simp at h
  | some hv =>
    cases hi' with
    | none => exact hhi.elim
    | some hv' =>
      dsimp only at h
      obtain ⟨m, e0, h⟩ := Option.bind_eq_some_iff.1 h
      obtain ⟨hh, e1, h⟩ := Option.bind_eq_some_iff.1 h
      obtain ⟨l, e2, h⟩ := Option.bind_eq_some_iff.1 h
      obtain ⟨s, hs, rfl⟩ := Option.map_eq_some_iff.1 h
      have hK : cond (Nat.beq (cap % 2) 0) (cap / 2) len ≤ c := by
        rcases hk with ⟨_, _, rfl, rfl, rfl⟩ | ⟨_, _, _, _, _, _, _, _, rfl | ⟨k, rfl, _, _⟩⟩
        · exact Nat.le_refl 0
        · rw [show 2 * c % 2 = 0 by omega, show 2 * c / 2 = c by omega]; exact Nat.le_refl c
        · rw [show (2 * k + 1) % 2 = 1 by omega]; exact hlc
      have b0 := bound_run (P := P) hmx e0 .slice3Acap hK
      have b1 := bound_run (P := P) hhi e1 .slice3B (Nat.le_refl m)
      have b2 := bound_run (P := P) hlo e2 .slice3C (Nat.le_refl hh)
      have h1 : hh ≤ m := by rcases b1.2 with ⟨h, _⟩ | h; · cases h
                             · exact h
      have h2 : l ≤ hh := by rcases b2.2 with ⟨_, h⟩ | h <;> omega
      have hb : ∀ w, (Instr.sliceBounds true len c lo' (some hv') (some mv')).run P w = .ok (l, hh, m) w := fun w => by
        have c0 := b0.1 w
        have c1 := b1.1 w
        have c2 := b2.1 w
        unfold Instr.sliceBounds
        cases lo' with
        | none => simp at c0 c1 c2 ⊢; rw [c0]; simp [c1, c2]
        | some u => simp at c0 c1 c2 ⊢; rw [c0]; simp [c1, c2]
      have run : Yl P (Instr.sliceAt t (.slice a' len c) lo' (some hv') (some mv')) (.slice (if m = l then a' else a'.map (·.add (l * s))) (hh - l) (m - l)) := fun w => by
        simp [Instr.sliceAt, Instr.slice, run_und hd, hb w, run_sz hs]
      refine ⟨_, run, ?_⟩
      rcases hk with ⟨rfl, rfl, rfl, rfl, rfl⟩ | ⟨b, o, r, δ, y, rfl, rfl, eb, _⟩
      · have hm : m = 0 := by rcases b0.2 with ⟨h, _⟩ | h; · cases h
                              · exact Nat.le_zero.1 h
        have : hh = 0 := by omega
        have : l = 0 := by omega
        subst hm; subst hh; subst l
        simpa using VR.slN
      · have e3 : (⟨r, δ + o, none⟩ : Addr).add (l * s) = ⟨r, δ + (o + l * s), none⟩ := by rw [Addr.add_mid, Nat.add_assoc]
        by_cases hml : m = l
        · subst hml; simpa using VR.slX (n := hh - m) (c := m - m) eb (by omega)
        · rw [nbeq hml, if_neg hml]; simp only [cond_false, Option.map_some, e3, addx]; exact VR.slX eb (by omega)

theorem slicex_run {t : TypeId} {x x' v : Value} {lo lo' hi hi' mx mx' : Option Value} (hx : VR σ x x') (hlo : VRo σ lo lo') (hhi : VRo σ hi hi') (hmx : VRo σ mx mx') (h : slicex P t x lo hi mx = some v) : ∃ v', Yl P (Instr.sliceAt t x' lo' hi' mx') v' ∧ VR σ v v' := by
  unfold slicex at h
  cases mx with
  | some mv =>
    cases mx' with
    | none => exact hmx.elim
    | some mv' =>
      cases hd : undx P t with
      | none => rw [hd] at h; simp at h
      | some d =>
        rw [hd] at h
        cases d <;> (try (simp at h; done))
        · cases hx <;> (try (simp at h; done))
          · exact slice3_run hd hlo hhi hmx (c := 0) (Nat.le_refl _) (.inl ⟨rfl, rfl, rfl, rfl, rfl⟩) h
          · rename_i eb hnc
            exact slice3_run hd hlo hhi hmx hnc (.inr ⟨_, _, _, _, _, rfl, rfl, eb, .inl rfl⟩) h
          · rename_i eb hnk
            exact slice3_run hd hlo hhi hmx (by omega) (.inr ⟨_, _, _, _, _, rfl, rfl, eb, .inr ⟨_, rfl, rfl, hnk⟩⟩) h
  | none =>
  have hn : (none : Option Value) = none := rfl
  have hn' : mx' = none := by
    cases mx' with
    | none => rfl
    | some m => exact hmx.elim
  subst hn'
  cases hd : undx P t with
  | none => rw [hd] at h; simp at h
  | some d =>
    rw [hd] at h
    cases d <;> (try (simp at h; done))
    · -- string
      cases hx <;> (try (simp at h; done))
      rename_i s
      dsimp only at h
      obtain ⟨hh, e1, h⟩ := Option.bind_eq_some_iff.1 h
      obtain ⟨l, e2, rfl⟩ := Option.map_eq_some_iff.1 h
      have hsz : s.data.toList.length = s.size := Array.length_toList
      rw [hsz] at e1
      have hb := bounds_run (P := P) (isS := false) hlo hhi e1 e2 (Nat.le_refl _) (Nat.le_refl _)
      refine ⟨_, fun w => ?_, .str _⟩
      simp [Instr.sliceAt, Instr.slice, run_und hd, hb.1 w]
      exact extract_bytes _ _ _
    · -- pointer to an array
      rename_i arr
      cases hx <;> (try (simp at h; done))
      rename_i b o r δ y eb
      dsimp only at h
      cases hd2 : undx P arr with
      | none => rw [hd2] at h; simp at h
      | some d2 =>
        rw [hd2] at h
        cases d2 <;> (try (simp at h; done))
        rename_i n e
        dsimp only at h
        obtain ⟨hh, e1, h⟩ := Option.bind_eq_some_iff.1 h
        obtain ⟨l, e2, h⟩ := Option.bind_eq_some_iff.1 h
        obtain ⟨s, hs, rfl⟩ := Option.map_eq_some_iff.1 h
        obtain ⟨hb, hl1, hl2⟩ := bounds_run (P := P) (isS := false) hlo hhi e1 e2 (Nat.le_refl _) (Nat.le_refl _)
        by_cases hnl : n = l
        · refine ⟨.slice (some ⟨r, δ + o, none⟩) (hh - l) (n - l), fun w => ?_, ?_⟩
          · subst hnl; simp [Instr.sliceAt, Instr.slice, run_und hd, run_und hd2, asAddr, hb w, run_sz hs]
          · subst hnl; simpa [addx] using VR.slX (n := hh - n) (c := n - n) eb (by omega)
        · refine ⟨.slice (some ⟨r, δ + (o + l * s), none⟩) (hh - l) (n - l), fun w => ?_, ?_⟩
          · have e1 : (⟨r, δ + o, none⟩ : Addr).add (l * s) = ⟨r, δ + (o + l * s), none⟩ := by rw [Addr.add_mid, Nat.add_assoc]
            simp [Instr.sliceAt, Instr.slice, run_und hd, run_und hd2, asAddr, hb w, run_sz hs, hnl, e1]
          · rw [nbeq hnl]; exact VR.slX eb (by omega)
    · -- slice
      rename_i e
      have fin : ∀ {a a' : Option Addr} {len cap c : Nat}, len ≤ c → (a' = none ∧ a = none ∧ len = 0 ∧ c = 0 ∧ cap = 0 ∨ ∃ b o r δ y, a = some ⟨b, o, none⟩ ∧ a' = some ⟨r, δ + o, none⟩ ∧ σ b = some (r, δ, y) ∧ (cap = 2 * c ∨ ∃ k, cap = 2 * k + 1 ∧ c = y - k ∧ len + k ≤ y)) →
          ((bound len (cond (Nat.beq (cap % 2) 0) (cap / 2) len) hi).bind fun h => (bound 0 h lo).bind fun l => (szx P e).bind fun s =>
            cond (Nat.beq (cap % 2) 0)
              (some (.slice (cond (Nat.beq (cap / 2) l) a (a.map fun a => addx a (l * s))) (h - l) (2 * (cap / 2 - l))))
              (cond (Nat.beq l 0 || Nat.blt l len) (some (.slice (a.map fun a => addx a (l * s)) (h - l) (2 * (cap / 2 + l) + 1))) none)) = some v →
          ∃ v', Yl P (Instr.sliceAt t (.slice a' len c) lo' hi' none) v' ∧ VR σ v v' := by
        intro a a' len cap c hlc hk h
        obtain ⟨hh, e1, h⟩ := Option.bind_eq_some_iff.1 h
        obtain ⟨l, e2, h⟩ := Option.bind_eq_some_iff.1 h
        obtain ⟨s, hs, h⟩ := Option.bind_eq_some_iff.1 h
        have hK : len ≤ cond (Nat.beq (cap % 2) 0) (cap / 2) len ∧ cond (Nat.beq (cap % 2) 0) (cap / 2) len ≤ c := by
          rcases hk with ⟨_, _, rfl, rfl, rfl⟩ | ⟨_, _, _, _, _, _, _, _, rfl | ⟨k, rfl, _, _⟩⟩
          · exact ⟨Nat.le_refl 0, Nat.le_refl 0⟩
          · rw [show 2 * c % 2 = 0 by omega, show 2 * c / 2 = c by omega]; exact ⟨hlc, Nat.le_refl c⟩
          · rw [show (2 * k + 1) % 2 = 1 by omega]; exact ⟨Nat.le_refl len, hlc⟩
        obtain ⟨hb, hl1, hl2⟩ := bounds_run (P := P) (isS := true) hlo hhi e1 e2 hK.1 hK.2
        have hl3 := Nat.le_trans hl2 hK.2
        have run : Yl P (Instr.sliceAt t (.slice a' len c) lo' hi' none) (.slice (if c = l then a' else a'.map (·.add (l * s))) (hh - l) (c - l)) := fun w => by
          simp [Instr.sliceAt, Instr.slice, run_und hd, hb w, run_sz hs]
        refine ⟨_, run, ?_⟩
        rcases hk with ⟨rfl, rfl, rfl, rfl, rfl⟩ | ⟨b, o, r, δ, y, rfl, rfl, eb, hcap⟩
        · have : hh = 0 := by omega
          have : l = 0 := by omega
          subst hh; subst l
          simp at h
          subst h
          simpa using VR.slN
        · have e3 : (⟨r, δ + o, none⟩ : Addr).add (l * s) = ⟨r, δ + (o + l * s), none⟩ := by rw [Addr.add_mid, Nat.add_assoc]
          rcases hcap with rfl | ⟨k, rfl, rfl, hky⟩
          · have : (2 * c) % 2 = 0 := by omega
            have hdv : 2 * c / 2 = c := by omega
            rw [this, hdv] at h
            simp only [Nat.beq_refl, cond_true, Option.some.injEq] at h
            subst h
            by_cases hcl : c = l
            · subst hcl; simpa using VR.slX (n := hh - c) (c := c - c) eb (by omega)
            · rw [nbeq hcl, if_neg hcl]; simp only [cond_false, Option.map_some, e3, addx]; exact VR.slX eb (by omega)
          · have : (2 * k + 1) % 2 = 1 := by omega
            have hdv : (2 * k + 1) / 2 = k := by omega
            rw [this, hdv] at h
            have hz : Nat.beq 1 0 = false := rfl
            rw [hz] at h
            simp only [cond_false] at h
            cases hor : (Nat.beq l 0 || Nat.blt l len) with
            | false => rw [hor] at h; simp at h
            | true =>
              rw [hor] at h
              simp only [cond_true, Option.some.injEq, Option.map_some, addx] at h
              subst h
              have hcase : l = 0 ∨ l < len := by
                rcases Bool.or_eq_true _ _ |>.mp hor with z | z
                · exact .inl (Nat.eq_of_beq_eq_true z)
                · exact .inr (by simpa [Nat.blt_eq] using z)
              have hsub : y - k - l = y - (k + l) := by omega
              have hadr : (if y - k = l then (some ⟨r, δ + o, none⟩ : Option Addr) else (some ⟨r, δ + o, none⟩ : Option Addr).map (·.add (l * s))) = some ⟨r, δ + (o + l * s), none⟩ := by
                rcases hcase with rfl | hlt
                · simp [Addr.add]
                · rw [if_neg (by omega)]; simp [e3]
              rw [hadr, hsub]
              exact VR.slO eb (by omega)
      cases hx <;> (try (simp at h; done))
      · exact fin (c := 0) (Nat.le_refl _) (.inl ⟨rfl, rfl, rfl, rfl, rfl⟩) h
      · rename_i eb hnc
        exact fin hnc (.inr ⟨_, _, _, _, _, rfl, rfl, eb, .inl rfl⟩) h
      · rename_i eb hnk
        exact fin (by omega) (.inr ⟨_, _, _, _, _, rfl, rfl, eb, .inr ⟨_, rfl, rfl, hnk⟩⟩) h
    · -- array
      rename_i n e
      cases hx <;> (try (simp at h; done))
      rename_i b o r δ y eb
      dsimp only at h
      obtain ⟨hh, e1, h⟩ := Option.bind_eq_some_iff.1 h
      obtain ⟨l, e2, h⟩ := Option.bind_eq_some_iff.1 h
      obtain ⟨s, hs, rfl⟩ := Option.map_eq_some_iff.1 h
      obtain ⟨hb, hl1, hl2⟩ := bounds_run (P := P) (isS := false) hlo hhi e1 e2 (Nat.le_refl _) (Nat.le_refl _)
      by_cases hnl : n = l
      · refine ⟨.slice (some ⟨r, δ + o, none⟩) (hh - l) (n - l), fun w => ?_, ?_⟩
        · subst hnl; simp [Instr.sliceAt, run_und hd, Instr.sureAddr, hb w, run_sz hs]
        · subst hnl; simpa [addx] using VR.slX (n := hh - n) (c := n - n) eb (by omega)
      · refine ⟨.slice (some ⟨r, δ + (o + l * s), none⟩) (hh - l) (n - l), fun w => ?_, ?_⟩
        · have e1 : (⟨r, δ + o, none⟩ : Addr).add (l * s) = ⟨r, δ + (o + l * s), none⟩ := by rw [Addr.add_mid, Nat.add_assoc]
          simp [Instr.sliceAt, run_und hd, Instr.sureAddr, hb w, run_sz hs, hnl, e1]
        · rw [nbeq hnl]; exact VR.slX eb (by omega)
end
end Go.Ev
namespace Go.Ev
open Go Go.RowKit
section
variable {P : Program} {σ : Sg}

theorem pureP_run {s : Sem Value} {v : Value} (h : pureP P s = some v) : Yl P s v ∧ VR σ v v := by
  unfold pureP at h
  cases hp : pureOf P s with
  | none => rw [hp] at h; simp at h
  | some u =>
    rw [hp] at h
    cases hq : plain1 u with
    | false => simp [hq] at h
    | true => simp [hq] at h; subst h; exact ⟨pureOf_run hp, VR.plain1 hq⟩

theorem overo_go_get : ∀ {cs vs r : List Value}, overo.go cs vs = some r → r.length = cs.length ∧ vs.length ≤ cs.length ∧ ∀ i : Nat, r[i]? = if i < vs.length then vs[i]? else cs[i]?
  | cs, [], r, h => by simp [overo.go] at h; subst h; simp
  | [], v :: vs, r, h => by simp [overo.go] at h
  | c :: cs, v :: vs, r, h => by
    simp only [overo.go, Option.map_eq_some_iff] at h
    obtain ⟨q, hq, rfl⟩ := h
    obtain ⟨h1, h2, h3⟩ := overo_go_get hq
    refine ⟨by simp [h1], by simp; exact h2, fun i => ?_⟩
    cases i with
    | zero => simp
    | succ i => simp [h3 i]
theorem overo_get : ∀ {cs vs r : List Value} {o : Nat}, overo cs o vs = some r → r.length = cs.length ∧ o + vs.length ≤ cs.length ∧ ∀ i : Nat, r[i]? = if o ≤ i ∧ i < o + vs.length then vs[i - o]? else cs[i]?
  | cs, vs, r, 0, h => by
    obtain ⟨h1, h2, h3⟩ := overo_go_get (by simpa [overo] using h)
    exact ⟨h1, by omega, fun i => by rw [h3 i]; simp⟩
  | [], vs, r, o + 1, h => by simp [overo] at h
  | c :: cs, vs, r, o + 1, h => by
    simp only [overo, Option.map_eq_some_iff] at h
    obtain ⟨q, hq, rfl⟩ := h
    obtain ⟨h1, h2, h3⟩ := overo_get hq
    refine ⟨by simp [h1], by simp; omega, fun i => ?_⟩
    cases i with
    | zero => simp
    | succ i =>
      simp only [List.getElem?_cons_succ, h3 i]
      have e : i + 1 - (o + 1) = i - o := by omega
      rw [e]
      by_cases hc : o ≤ i ∧ i < o + vs.length
      · rw [if_pos hc, if_pos (by omega)]
      · rw [if_neg hc, if_neg (by omega)]

theorem overx_get {cs vs r : List Value} {o : Nat} (h : overx cs o vs = some r) : r.length = cs.length ∧ o + vs.length ≤ cs.length ∧ ∀ i : Nat, r[i]? = if o ≤ i ∧ i < o + vs.length then vs[i - o]? else cs[i]? := by
  unfold overx at h
  rw [overP_eq] at h
  exact overo_get (by simpa using h)

theorem fold_get : ∀ (vs : List Value) (k off : Nat) (cells : Array Value) (i : Nat),
    ((vs.zipIdx k).foldl (fun (cs : Array Value) (p : Value × Nat) => cs.setIfInBounds (off + p.2) p.1) cells)[i]? = if off + k ≤ i ∧ i < off + k + vs.length ∧ i < cells.size then vs[i - (off + k)]? else cells[i]?
  | [], k, off, cells, i => by simp; omega
  | v :: vs, k, off, cells, i => by
    simp only [List.zipIdx_cons, List.foldl_cons]
    rw [fold_get vs (k + 1) off _ i]
    simp only [Array.size_setIfInBounds, List.length_cons]
    by_cases h1 : i = off + k
    · subst h1
      rw [if_neg (by omega)]
      by_cases h2 : off + k < cells.size
      · rw [if_pos ⟨by omega, by omega, h2⟩]; simp [h2]
      · rw [if_neg (by omega)]
        rw [Array.getElem?_eq_none (by simp; omega), Array.getElem?_eq_none (by omega)]
    · have e0 : (cells.setIfInBounds (off + k) v)[i]? = cells[i]? := Array.getElem?_setIfInBounds_ne (Ne.symm h1)
      rw [e0]
      by_cases h2 : off + (k + 1) ≤ i ∧ i < off + (k + 1) + vs.length ∧ i < cells.size
      · rw [if_pos h2, if_pos (by omega)]
        have e : i - (off + k) = (i - (off + (k + 1))) + 1 := by omega
        rw [e]; simp
      · rw [if_neg h2, if_neg (by omega)]
theorem fold_size : ∀ (vs : List Value) (k off : Nat) (cells : Array Value),
    ((vs.zipIdx k).foldl (fun (cs : Array Value) (p : Value × Nat) => cs.setIfInBounds (off + p.2) p.1) cells).size = cells.size
  | [], k, off, cells => by simp
  | v :: vs, k, off, cells => by simp only [List.zipIdx_cons, List.foldl_cons]; rw [fold_size vs]; simp

/-- A row overwritten. -/
theorem VRs.over {a a' b b' r r' : List Value} {o : Nat} (h : VRs σ a a') (k : VRs σ b b') (hr : overx a o b = some r) (hl : r'.length = a'.length) (hg : ∀ i : Nat, r'[i]? = if o ≤ i ∧ i < o + b'.length ∧ i < a'.length then b'[i - o]? else a'[i]?) : VRs σ r r' := by
  obtain ⟨h1, h2, h3⟩ := overx_get hr
  refine ⟨by rw [h1, hl, h.1], fun i v v' x y => ?_⟩
  rw [h3 i] at x
  rw [hg i] at y
  have e1 := h.1
  have e2 := k.1
  by_cases hc : o ≤ i ∧ i < o + b.length
  · rw [if_pos hc] at x
    rw [if_pos (by omega)] at y
    exact k.2 _ v v' x y
  · rw [if_neg hc] at x
    rw [if_neg (by omega)] at y
    exact h.2 _ v v' x y

/-- Parts, numbered. -/
def PRs (σ : Sg) (ps ps' : List (Nat × Value)) : Prop := ps.length = ps'.length ∧ ∀ (i : Nat) p p', ps[i]? = some p → ps'[i]? = some p' → p.1 = p'.1 ∧ VR σ p.2 p'.2
theorem PRs.inv {p : Nat × Value} {ps l : List (Nat × Value)} (h : PRs σ (p :: ps) l) : ∃ p' ps', l = p' :: ps' ∧ p.1 = p'.1 ∧ VR σ p.2 p'.2 ∧ PRs σ ps ps' := by
  cases l with
  | nil => simp [PRs] at h
  | cons p' ps' =>
    have := h.2 0 p p' rfl rfl
    exact ⟨p', ps', rfl, this.1, this.2, by simpa using h.1, fun i u u' x y => h.2 (i + 1) u u' (by simpa using x) (by simpa using y)⟩

theorem fillx_run {place : Nat → Option (Nat × Nat)} : ∀ {ps ps' : List (Nat × Value)} {cs cs' r : List Value}, VRs σ cs cs' → PRs σ ps ps' → fillx place cs ps = some r → ∃ r', Instr.fill place ⟨cs'⟩ ps' = some ⟨r'⟩ ∧ VRs σ r r'
  | [], ps', cs, cs', r, hc, hp, h => by
    have : ps' = [] := List.length_eq_zero_iff.1 (by simpa using hp.1.symm)
    subst this
    simp only [fillx, Option.some.injEq] at h
    subst h
    exact ⟨cs', rfl, hc⟩
  | (i, v) :: ps, l, cs, cs', r, hc, hp, h => by
    obtain ⟨⟨i', v'⟩, ps', rfl, e, hv, hps⟩ := hp.inv
    simp only at e hv
    subst e
    simp only [fillx] at h
    cases hpl : place i with
    | none => rw [hpl] at h; simp at h
    | some os =>
      obtain ⟨off, size⟩ := os
      rw [hpl] at h
      simp only at h
      cases hb : Nat.beq (vcells v).length size with
      | false => rw [hb] at h; simp at h
      | true =>
        rw [hb] at h
        simp only [cond_true] at h
        obtain ⟨cs2, h2, h⟩ := Option.bind_eq_some_iff.1 h
        have hcells := hv.cells
        have hsz : v'.cells.size = size := by
          have := hcells.1
          have := Nat.eq_of_beq_eq_true hb
          simp only [Array.length_toList] at *
          omega
        obtain ⟨g1, g2, g3⟩ := overx_get h2
        have hle : off + v'.cells.size ≤ cs'.length := by
          have := hcells.1
          have := hc.1
          simp only [Array.length_toList] at *
          omega
        have hfold : (v'.cells.zipIdx.foldl (fun (cs : Array Value) (p : Value × Nat) => cs.setIfInBounds (off + p.2) p.1) ⟨cs'⟩) = (v'.cells.toList.zipIdx 0).foldl (fun (cs : Array Value) (p : Value × Nat) => cs.setIfInBounds (off + p.2) p.1) ⟨cs'⟩ := by
          rw [← Array.foldl_toList]
          simp
        have hnew : VRs σ cs2 ((v'.cells.toList.zipIdx 0).foldl (fun (cs : Array Value) (p : Value × Nat) => cs.setIfInBounds (off + p.2) p.1) ⟨cs'⟩).toList := by
          refine VRs.over hc hcells h2 ?_ (fun j => ?_)
          · have := fold_size v'.cells.toList 0 off ⟨cs'⟩
            simpa using this
          · have := fold_get v'.cells.toList 0 off ⟨cs'⟩ j
            simpa using this
        obtain ⟨r', k1, k2⟩ := fillx_run hnew hps h
        refine ⟨r', ?_, k2⟩
        simp only [Instr.fill, hpl]
        have hcond : (decide (v'.cells.size ≠ size) || decide (off + v'.cells.size > (⟨cs'⟩ : Array Value).size)) = false := by
          simp [hsz]
          omega
        rw [if_neg (by simp only [hcond]; simp)]
        exact (congrArg (fun z => Instr.fill place z ps') hfold).trans k1

theorem mapM_places (w : World) : ∀ {l : List Field} {q : List (Nat × Nat)}, placesx P l = some q → (l.mapM fun f => do pure (f.offset, ← sizeOf f.type) : Sem (List (Nat × Nat))).run P w = .ok q w
  | [], q, h => by simp [placesx] at h; subst h; rfl
  | f :: l, q, h => by
    simp only [placesx] at h
    cases hs : szx P f.type with
    | none => rw [hs] at h; simp at h
    | some s =>
      rw [hs] at h
      obtain ⟨r, hr, rfl⟩ := Option.map_eq_some_iff.1 h
      simp only [List.mapM_cons, Sem.run_bind, run_sz hs, Result.andThen_ok, Sem.run_pure, mapM_places w hr]
theorem mapM_placesA (w : World) {fs : Array Field} {q : List (Nat × Nat)} (h : placesx P fs.toList = some q) : (fs.mapM fun f => do pure (f.offset, ← sizeOf f.type) : Sem (Array (Nat × Nat))).run P w = .ok ⟨q⟩ w := by
  rw [Array.mapM_eq_mapM_toList]
  simp only [Sem.run_map, mapM_places w h, Result.andThen_ok]

theorem buildx_run {t : TypeId} {ps ps' : List (Nat × Value)} {v : Value} (hp : PRs σ ps ps') (h : buildx P t ps = some v) : ∃ v', Yl P (Instr.build t ⟨ps'⟩) v' ∧ VR σ v v' := by
  unfold buildx at h
  obtain ⟨z, hz, h⟩ := Option.bind_eq_some_iff.1 h
  obtain ⟨i, _, _, hpl⟩ := zerox_some hz
  have hzc : VRs σ (vcells z) z.cells.toList := (VR.plain (σ := σ) hpl).cells
  cases hd : undx P t with
  | none => rw [hd] at h; simp at h
  | some d =>
    rw [hd] at h
    cases d <;> (try (simp at h; done))
    · rename_i n e
      dsimp only at h
      obtain ⟨s, hs, h⟩ := Option.bind_eq_some_iff.1 h
      obtain ⟨cs, hf, rfl⟩ := Option.map_eq_some_iff.1 h
      obtain ⟨r', h1, h2⟩ := fillx_run hzc hp hf
      have h1' : Instr.fill (fun i => some (i * s, s)) z.cells ps' = some ⟨r'⟩ := h1
      refine ⟨.agg ⟨r'⟩, fun w => ?_, .agg h2.1 h2.2⟩
      simp [Instr.build, zerox_run hz, run_und hd, run_sz hs, h1']
    · rename_i fs
      dsimp only at h
      obtain ⟨q, hq, h⟩ := Option.bind_eq_some_iff.1 h
      obtain ⟨cs, hf, rfl⟩ := Option.map_eq_some_iff.1 h
      obtain ⟨r', h1, h2⟩ := fillx_run hzc hp hf
      refine ⟨.agg ⟨r'⟩, fun w => ?_, .agg h2.1 h2.2⟩
      have h1' : Instr.fill (fun i => (⟨q⟩ : Array (Nat × Nat))[i]?) z.cells ps' = some ⟨r'⟩ := by simpa using h1
      have := mapM_placesA (P := P) w hq
      unfold Instr.build
      simp only [Sem.run_bind, zerox_run hz, run_und hd, Result.andThen_ok, this, h1', Sem.run_pure]

theorem pickx_run {c c' a a' b b' v : Value} (hc : VR σ c c') (ha : VR σ a a') (hb : VR σ b b') (h : pickx c a b = some v) : ∃ v', (∀ w, (do pure (.value (if ← asBool c' then a' else b')) : Sem Next).run P w = .ok (.value v') w) ∧ VR σ v v' := by
  unfold pickx at h
  cases hc <;> (try (simp at h; done))
  rename_i t
  simp at h
  subst h
  cases t
  · exact ⟨b', fun w => by simp [asBool], hb⟩
  · exact ⟨a', fun w => by simp [asBool], ha⟩

theorem unx_run {op : UnOp} {x x' v : Value} (hx : VR σ x x') (h : unx P op x = some v) : ∃ v', Yl P (Op.unary op x') v' ∧ VR σ v v' := by
  unfold unx at h
  cases hx <;> (try (simp at h; done))
  all_goals exact ⟨v, (pureP_run (σ := σ) h).1, (pureP_run h).2⟩

theorem convP_run {a b : TypeId} {x x' v : Value} (hx : VR σ x x') (ha : (undx P a).isSome = true) (h : convP P b x = some v) : ∃ v', Yl P (convert a b x') v' ∧ VR σ v v' := by
  obtain ⟨da, hda⟩ := Option.isSome_iff_exists.1 ha
  unfold convP at h
  cases hx <;> (try (simp at h; done))
  · rename_i k n
    simp only at h
    unfold convI at h
    cases hd : undx P b with
    | none => rw [hd] at h; simp at h
    | some d =>
      rw [hd] at h
      cases d <;> (try (simp at h; done))
      rename_i k2
      refine ⟨v, fun w => ?_, (pureP_run h).2⟩
      have := (pureP_run (σ := σ) h).1 w
      unfold convert
      simp only [Sem.run_bind, run_und hda, run_und hd, Result.andThen_ok]
      exact this
  · rename_i s
    simp only at h
    unfold convS at h
    cases hd : undx P b with
    | none => rw [hd] at h; simp at h
    | some d =>
      rw [hd] at h
      cases d <;> (try (simp at h; done))
      simp at h
      subst h
      refine ⟨_, fun w => ?_, .str s⟩
      unfold convert
      simp only [Sem.run_bind, run_und hda, run_und hd, Result.andThen_ok, Sem.run_pure]

theorem nilx_run {o : Oper} {x : Operand} {ρ : Operand → Value} {y v : Value} (ho : o.op = .nilCheck x) (hx : VR σ y (ρ x)) (h : nilx y = some v) : ∃ v', (∀ w, (execOp ρ o).run P w = .ok (.value v') w) ∧ VR σ v v' := by
  unfold nilx at h
  refine ⟨ρ x, fun w => ?_, ?_⟩
  · unfold execOp
    simp only [ho]
    generalize ρ x = z at hx
    cases hx <;> (try (simp at h; done)) <;> rfl
  · generalize ρ x = z at hx
    cases hx <;> (try (simp at h; done))
    · rename_i e
      simp at h; subst h; exact .ptr e
    · rename_i l1 l2 i1 i2
      simp at h; subst h; exact .func _ l1 l2 i1 i2
    · rename_i e
      simp at h; subst h; exact .yld e

end
end Go.Ev
namespace Go.Ev
open Go Go.RowKit
section
variable {P : Program} {σ : Sg}

theorem bytesEq_eq : ∀ (a b : List UInt8), bytesEq a b = (a == b)
  | [], [] => rfl
  | [], b :: y => rfl
  | a :: x, [] => rfl
  | a :: x, b :: y => by
    simp only [bytesEq, bytesEq_eq x y]
    by_cases h : a = b
    · subst h; simp
    · have hn : a.toNat ≠ b.toNat := fun e => h (UInt8.toNat_inj.1 e)
      rw [nbeq hn]
      have : (a == b) = false := by simpa using h
      simp [this]
theorem bytesLt_eq : ∀ (a b : List UInt8), bytesLt a b = Op.bytesLess a b
  | [], [] => rfl
  | [], b :: y => rfl
  | a :: x, [] => rfl
  | a :: x, b :: y => by
    simp only [bytesLt, Op.bytesLess, bytesLt_eq x y]
    by_cases h : a.toNat < b.toNat
    · have h1 : Nat.blt a.toNat b.toNat = true := by simpa [Nat.blt_eq] using h
      have h2 : (decide (a < b)) = true := by simpa [UInt8.lt_iff_toNat_lt] using h
      simp [h1, h2]
    · have h1 : Nat.blt a.toNat b.toNat = false := by
        cases hb : Nat.blt a.toNat b.toNat
        · rfl
        · exact absurd (by simpa [Nat.blt_eq] using hb) h
      have h2 : (decide (a < b)) = false := by simpa [UInt8.lt_iff_toNat_lt] using h
      by_cases e : a = b
      · subst e; simp [h1, h2]
      · have hn : a.toNat ≠ b.toNat := fun e' => e (UInt8.toNat_inj.1 e')
        have : (a == b) = false := by simpa using e
        simp [h1, h2, nbeq hn, this]

theorem append_bytes (a b : ByteArray) : a ++ b = ⟨⟨a.data.toList ++ b.data.toList⟩⟩ := by
  have h : (a ++ b).data = a.data ++ b.data := by simp
  cases hx : a ++ b with
  | mk d =>
    rw [hx] at h
    simp only at h
    rw [h]
    congr 1
    apply Array.ext'
    simp

theorem bytes_beq (a b : ByteArray) : (a == b) = (a.data == b.data) := by
  cases a; cases b; rfl

theorem strx_run {op : BinOp} {t : TypeId} {x y : Operand} {a b : ByteArray} {v : Value} (h : strx op a.data.toList b.data.toList = some v) : Yl P (do eqGuard op t x y (.string a) (.string b); binOp op t (.string a) (.string b)) v ∧ VR σ v v := by
  have hg : ∀ w, (eqGuard op t x y (.string a) (.string b)).run P w = .ok () w := fun w => by unfold eqGuard; cases op <;> rfl
  unfold strx at h
  have e1 : (a.toList == b.toList) = bytesEq a.data.toList b.data.toList := by rw [ByteArray.toList_eq, ByteArray.toList_eq, bytesEq_eq]
  have e2 : Op.bytesLess a.toList b.toList = bytesLt a.data.toList b.data.toList := by rw [ByteArray.toList_eq, ByteArray.toList_eq, bytesLt_eq]
  cases op <;> (try (simp at h; done))
  · simp only at h
    cases hb : Nat.ble (a.data.toList.length + b.data.toList.length) 1000000 with
    | false => rw [hb] at h; simp at h
    | true =>
      rw [hb] at h
      simp only [cond_true, Option.some.injEq] at h
      subst h
      have hle : a.size + b.size ≤ 1000000 := Nat.le_of_ble_eq_true hb
      refine ⟨fun w => ?_, .str _⟩
      have hc : ¬ (((a.size + b.size : Nat) : Int) > IntKind.i64.max) := by
        have : IntKind.i64.max = 9223372036854775807 := by decide
        rw [this]; omega
      simp only [Sem.run_bind, hg w, Result.andThen_ok]
      show (Op.stringOp .add a b).run P w = _
      unfold Op.stringOp
      simp only [if_neg hc, Sem.run_pure, append_bytes]
  all_goals
    simp only [Option.some.injEq] at h
    subst h
    refine ⟨fun w => ?_, .bool _⟩
    simp only [Sem.run_bind, hg w, Result.andThen_ok]
    first
      | (show (Op.stringOp .eql a b).run P w = _; unfold Op.stringOp; simp only [e1, e2, Sem.run_pure]; done)
      | (show (Op.stringOp .neq a b).run P w = _; unfold Op.stringOp; simp only [e1, e2, Sem.run_pure]; done)
      | (show (Op.stringOp .lss a b).run P w = _; unfold Op.stringOp; simp only [e1, e2, Sem.run_pure]; done)
      | (show (Op.stringOp .leq a b).run P w = _; unfold Op.stringOp; simp only [e1, e2, Sem.run_pure]; done)
      | (show (Op.stringOp .gtr a b).run P w = _; unfold Op.stringOp; simp only [e1, e2, Sem.run_pure]; done)
      | (show (Op.stringOp .geq a b).run P w = _; unfold Op.stringOp; simp only [e1, e2, Sem.run_pure]; done)

/-- Equality of two cells that are not both nil interfaces. -/
theorem eq1_run {t : TypeId} {x x' y y' : Value} {b : Bool} (hx : VR σ x x') (hy : VR σ y y') (hs : suits (undx P t) x y = true) (h : eq1 x y = some b) (w : World) : (Op.equal t x' y').run P w = .ok b w := by
  unfold suits at hs
  cases hd : undx P t with
  | none => rw [hd] at hs; simp at hs
  | some d =>
    rw [hd] at hs
    unfold Op.equal
    rw [show Op.maxDepth = 9999 + 1 from rfl]
    unfold Op.equalIn
    simp only [Sem.run_bind, run_und hd, Result.andThen_ok]
    cases d <;> (try (simp at hs; done)) <;> cases hx <;> (try (simp at hs; done)) <;> cases hy <;> (try (simp at hs; done)) <;> simp [eq1] at h <;> (try subst h) <;> (try rfl) <;> (try (simp [samePointer]; done))
    all_goals simp_all [bytesEq_eq]
    all_goals exact bytes_beq _ _

theorem aggx_of {t : TypeId} {d : TypeDesc} (h : undx P t = some d) (hd : d = .bool ∨ d = .string ∨ ∃ k, d = .int k) : aggx P t = some false := by
  unfold aggx
  rw [h]
  rcases hd with rfl | rfl | ⟨k, rfl⟩ <;> rfl

theorem eqIn_run {t : TypeId} {x x' y y' : Value} {b : Bool} (hx : VR σ x x') (hy : VR σ y y') (h : eqIn (undx P t) x y = some b) (w : World) : (Op.equalIn 9999 t x' y').run P w = .ok b w ∧ aggx P t = some false := by
  unfold eqIn at h
  cases hd : undx P t with
  | none => rw [hd] at h; simp at h
  | some d =>
    rw [hd] at h
    rw [show (9999 : Nat) = 9998 + 1 from rfl]
    unfold Op.equalIn
    simp only [Sem.run_bind, run_und hd, Result.andThen_ok]
    cases d <;> (try (simp at h; done))
    · cases hx <;> (try (simp at h; done)) <;> cases hy <;> (try (simp at h; done))
      simp at h
      subst h
      exact ⟨rfl, aggx_of hd (.inl rfl)⟩
    · rename_i q
      cases hx <;> (try (simp at h; done)) <;> cases hy <;> (try (simp at h; done))
      rename_i j n k m
      simp only at h
      by_cases e : j = k
      · rw [if_pos e] at h
        simp at h
        subst h
        refine ⟨?_, aggx_of hd (.inr (.inr ⟨q, rfl⟩))⟩
        simp [e]
      · rw [if_neg e] at h; simp at h
    · cases hx <;> (try (simp at h; done)) <;> cases hy <;> (try (simp at h; done))
      simp at h
      subst h
      refine ⟨?_, aggx_of hd (.inr (.inl rfl))⟩
      simp [bytesEq_eq, bytes_beq]

theorem eqL_run {a a' b b' : List Value} (ha : VRs σ a a') (hb : VRs σ b b') (w : World) : ∀ {l : List Field} {r : Bool}, l.all (fun f => f.name != "_") = true → eqFields P a b l = some r →
    (forIn l ((none, ()) : Option Bool × Unit) fun (f : Field) (_ : Option Bool × Unit) =>
            if f.name = "_" then pure (ForInStep.yield (none, ()))
            else do
              let x ← part f.type { toList := a' } f.offset
              let y ← part f.type { toList := b' } f.offset
              let q ← Op.equalIn 9999 f.type x y
              if q = false then pure (ForInStep.done (some false, ())) else (pure (ForInStep.yield (none, ())) : Sem (ForInStep (Option Bool × Unit)))).run P w = .ok (if r = true then (none, ()) else (some false, ())) w
  | [], r, _, h => by simp [eqFields] at h; subst h; simp
  | f :: l, r, hn, h => by
    simp only [List.all_cons, Bool.and_eq_true] at hn
    have hf : f.name ≠ "_" := by simpa using hn.1
    simp only [eqFields] at h
    cases hx : a[f.offset]? with
    | none => rw [hx] at h; simp at h
    | some x =>
      cases hy : b[f.offset]? with
      | none => rw [hx, hy] at h; simp at h
      | some y =>
        rw [hx, hy] at h
        simp only at h
        cases he : eqIn (undx P f.type) x y with
        | none => rw [he] at h; simp at h
        | some q =>
          rw [he] at h
          obtain ⟨x', hx', vx⟩ := ha.at hx
          obtain ⟨y', hy', vy⟩ := hb.at hy
          obtain ⟨k1, k2⟩ := eqIn_run vx vy he w
          have p1 : (part f.type { toList := a' } f.offset).run P w = .ok x' w := by
            unfold part; simp only [Sem.run_bind, aggx_run k2, Result.andThen_ok]; simp [hx']
          have p2 : (part f.type { toList := b' } f.offset).run P w = .ok y' w := by
            unfold part; simp only [Sem.run_bind, aggx_run k2, Result.andThen_ok]; simp [hy']
          rw [List.forIn_cons]
          simp only [if_neg hf, Sem.run_bind, p1, p2, k1, Result.andThen_ok]
          cases q with
          | true =>
            simp only at h
            simp only [Bool.true_eq_false, if_false, Sem.run_pure, Result.andThen_ok]
            exact eqL_run ha hb w hn.2 h
          | false =>
            simp at h
            subst h
            simp

theorem eqS_run {t : TypeId} {fs : Array Field} {a a' b b' : List Value} {r : Bool} (hd : undx P t = some (.struct fs)) (ha : VRs σ a a') (hb : VRs σ b b') (hst : P.stoodInHeld t = false) (hnm : fs.toList.all (fun f => f.name != "_") = true) (h : eqFields P a b fs.toList = some r) (w : World) :
    (Op.equal t (.agg ⟨a'⟩) (.agg ⟨b'⟩)).run P w = .ok r w := by
  unfold Op.equal
  rw [show Op.maxDepth = 9999 + 1 from rfl]
  unfold Op.equalIn
  simp only [Sem.run_bind, run_und hd, Result.andThen_ok, run_program, hst]
  simp only [Bool.false_eq_true, if_false, Sem.run_bind, Sem.run_pure, Result.andThen_ok, ite_not]
  rw [← Array.forIn_toList]
  have := eqL_run (P := P) ha hb w hnm h
  simp only [Bool.not_eq_true'] at *
  rw [this]
  cases r <;> simp
end
end Go.Ev
namespace Go.Ev
open Go Go.RowKit
section
variable {P : Program} {σ : Sg}

theorem eqx_run {op : BinOp} {t : TypeId} {ox oy : Operand} {x x' y y' : Value} {b : Bool} (hx : VR σ x x') (hy : VR σ y y') (h : eqx P t ox oy x y = some b) (w : World) :
    (eqGuard op t ox oy x' y').run P w = .ok () w ∧ (Op.equal t x' y').run P w = .ok b w := by
  unfold eqx at h
  split at h
  · rename_i a c
    cases hx with
    | agg l1 i1 =>
      rename_i a1 a1'
      cases hy with
      | agg l2 i2 =>
        rename_i b1 b1'
        cases hd : undx P t with
        | none => rw [hd] at h; simp at h
        | some d =>
          rw [hd] at h
          cases d <;> (try (simp at h; done))
          rename_i fs
          simp only at h
          cases hc : (!P.stoodInHeld t && !P.eqGuardType P.depth t && fs.toList.all (fun f => f.name != "_")) with
          | false => rw [hc] at h; simp at h
          | true =>
            rw [hc] at h
            simp only [cond_true] at h
            simp only [Bool.and_eq_true, Bool.not_eq_true'] at hc
            obtain ⟨⟨c1, c2⟩, c3⟩ := hc
            refine ⟨?_, eqS_run hd ⟨l1, i1⟩ ⟨l2, i2⟩ c1 c3 h w⟩
            unfold eqGuard
            cases op <;> simp [c2]
  · cases hx; cases hy
    cases hc : ((isConst ox || isConst oy) && suits (undx P t) .nilIface .nilIface) with
    | false => rw [hc] at h; simp at h
    | true =>
      rw [hc] at h
      simp only [cond_true, Option.some.injEq] at h
      subst h
      simp only [Bool.and_eq_true, Bool.or_eq_true] at hc
      refine ⟨?_, eq1_run (σ := σ) .nilI .nilI hc.2 rfl w⟩
      rcases hc.1 with z | z
      · cases ox <;> simp [isConst] at z
        unfold eqGuard
        cases op <;> simp
      · cases oy <;> simp [isConst] at z
        unfold eqGuard
        cases ox <;> cases op <;> simp
  · rename_i n1 n2
    cases hc : suits (undx P t) x y with
    | false => rw [hc] at h; simp at h
    | true =>
      rw [hc] at h
      simp only [cond_true] at h
      refine ⟨?_, eq1_run hx hy hc h w⟩
      unfold eqGuard
      cases hx <;> cases hy <;> (try (exact absurd rfl (n1 _ _ rfl))) <;> (try (exact (n2 rfl rfl).elim)) <;> (try (exact (n1 _ _ rfl rfl).elim)) <;> cases op <;> rfl

theorem kindNo_inj {j k : IntKind} (h : kindNo j = kindNo k) : j = k := by cases j <;> cases k <;> first | rfl | (simp [kindNo] at h)
theorem wrapx_eq (k : IntKind) (n : Int) : wrapx k n = k.wrap n := by
  unfold wrapx
  cases hb : Nat.beq (kindNo k) 3 with
  | false => rfl
  | true =>
    have hk : k = .i64 := kindNo_inj (Nat.eq_of_beq_eq_true hb)
    subst hk
    simp only [cond_true]
    cases n with
    | negSucc m => rfl
    | ofNat m =>
      simp only
      cases hm : Nat.blt m 4611686018427387904 with
      | false => rfl
      | true =>
        have : m < 4611686018427387904 := by simpa [Nat.blt_eq] using hm
        simp only [cond_true]
        exact (wrap_small _ (by simp) (by simp; omega)).symm
theorem intx_run {op : BinOp} {t : TypeId} {j k : IntKind} {m n : Int} {v : Value} (h : intx P op t j m k n = some v) : Yl P (binOp op t (.int j m) (.int k n)) v ∧ VR σ v v := by
  have go : ∀ {u : Value}, cond (Nat.beq (kindNo j) (kindNo k)) (some u) none = some v → j = k ∧ u = v := fun {u} hh => by
    cases hb : Nat.beq (kindNo j) (kindNo k) with
    | false => rw [hb] at hh; simp at hh
    | true => rw [hb] at hh; simp at hh; exact ⟨kindNo_inj (Nat.eq_of_beq_eq_true hb), hh⟩
  unfold intx at h
  cases op <;> simp only at h <;> (try (exact ⟨(pureP_run (σ := σ) h).1, (pureP_run h).2⟩))
  all_goals
    obtain ⟨rfl, rfl⟩ := go h
    first
      | (refine ⟨fun w => ?_, .int _ _⟩
         simp only [wrapx_eq]
         first
           | (show (if j ≠ j then _ else Op.intArith .add j m n : Sem Value).run P w = _; simp [Op.intArith]; done)
           | (show (if j ≠ j then _ else Op.intArith .sub j m n : Sem Value).run P w = _; simp [Op.intArith]; done))
      | (refine ⟨fun w => ?_, .bool _⟩
         first
           | (show (if j ≠ j then _ else Op.intCmp .eql m n : Sem Value).run P w = _; rw [if_neg (by simp)]; rfl)
           | (show (if j ≠ j then _ else Op.intCmp .neq m n : Sem Value).run P w = _; rw [if_neg (by simp)]; rfl)
           | (show (if j ≠ j then _ else Op.intCmp .lss m n : Sem Value).run P w = _; simp [Op.intCmp]; done)
           | (show (if j ≠ j then _ else Op.intCmp .leq m n : Sem Value).run P w = _; simp [Op.intCmp]; done)
           | (show (if j ≠ j then _ else Op.intCmp .gtr m n : Sem Value).run P w = _; simp [Op.intCmp]; done)
           | (show (if j ≠ j then _ else Op.intCmp .geq m n : Sem Value).run P w = _; simp [Op.intCmp]; done))

theorem binx_run {op : BinOp} {t : TypeId} {ox oy : Operand} {x x' y y' v : Value} (hx : VR σ x x') (hy : VR σ y y') (h : binx P op t ox oy x y = some v) :
    ∃ v', Yl P (do eqGuard op t ox oy x' y'; binOp op t x' y') v' ∧ VR σ v v' := by
  unfold binx at h
  split at h
  · cases hx; cases hy
    have := strx_run (P := P) (σ := σ) (t := t) (x := ox) (y := oy) h
    exact ⟨v, this⟩
  · rename_i j m k n
    cases hx; cases hy
    have hp := intx_run (σ := σ) h
    refine ⟨v, fun w => ?_, hp.2⟩
    have hg : (eqGuard op t ox oy (.int j m) (.int k n)).run P w = .ok () w := by unfold eqGuard; cases op <;> rfl
    simp only [Sem.run_bind, hg, Result.andThen_ok]
    exact hp.1 w
  · rename_i n1 n2
    have heq : ∀ b, eqx P t ox oy x y = some b → ∀ w, (binOp .eql t x' y').run P w = .ok (.bool b) w ∧ (binOp .neq t x' y').run P w = .ok (.bool (!b)) w := by
      intro b hb w
      obtain ⟨_, k2⟩ := eqx_run (op := op) hx hy hb w
      have e1 : binOp .eql t x' y' = (do pure (.bool (← Op.equal t x' y'))) ∧ binOp .neq t x' y' = (do pure (.bool (!(← Op.equal t x' y')))) := by
        cases hx <;> cases hy <;> (try (exact (n1 _ _ rfl rfl).elim)) <;> (try (exact (n2 _ _ _ _ rfl rfl).elim)) <;> (try (constructor <;> rfl))
        all_goals (unfold eqx at hb; simp [suits] at hb)
        all_goals (cases hd : undx P t <;> simp [hd] at hb)
      rw [e1.1, e1.2]
      simp [k2]
    cases op <;> (try (simp at h; done))
    · simp only at h
      obtain ⟨b, hb, rfl⟩ := Option.map_eq_some_iff.1 h
      refine ⟨_, fun w => ?_, .bool b⟩
      simp only [Sem.run_bind, (eqx_run (op := .eql) hx hy hb w).1, Result.andThen_ok, (heq b hb w).1]
    · simp only at h
      obtain ⟨b, hb, rfl⟩ := Option.map_eq_some_iff.1 h
      refine ⟨_, fun w => ?_, .bool (!b)⟩
      simp only [Sem.run_bind, (eqx_run (op := .neq) hx hy hb w).1, Result.andThen_ok, (heq b hb w).2]


theorem VRs.map_ev {t : Tm} {ρ : Operand → Value} : ∀ {l : List Operand}, (∀ x ∈ l, VR σ (evx t x) (ρ x)) → VRs σ (l.map (evx t)) (l.map ρ)
  | [], _ => .nil σ
  | x :: l, h => .cons (h x (by simp)) (VRs.map_ev fun y hy => h y (by simp [hy]))
theorem PRs.parts {t : Tm} {ρ : Operand → Value} : ∀ {l : List (Nat × Operand)}, (∀ p ∈ l, VR σ (evx t p.2) (ρ p.2)) → PRs σ (partsx t l) (l.map fun (i, x) => (i, ρ x))
  | [], _ => ⟨rfl, fun i p p' h => by simp [partsx] at h⟩
  | q :: l, h => by
    have ih := PRs.parts (t := t) (ρ := ρ) (l := l) fun y hy => h y (by simp [hy])
    refine ⟨by simp [partsx, ih.1], fun i p p' x y => ?_⟩
    cases i with
    | zero => simp [partsx] at x y; subst x; subst y; exact ⟨rfl, h q (by simp)⟩
    | succ i => simp [partsx] at x; simp at y; exact ih.2 i p p' x (by simpa using y)
theorem VRo.map_ev {t : Tm} {ρ : Operand → Value} {x : Option Operand} (h : ∀ y, x = some y → VR σ (evx t y) (ρ y)) : VRo σ (x.map (evx t)) (x.map ρ) := by
  cases x with
  | none => trivial
  | some y => exact h y rfl

theorem lenP_run {ty : TypeId} {x x' v : Value} {ts : Array TypeId} {ty2 : TypeId} (hx : VR σ x x') (hts : ts.toList = [ty]) (h : lenP P ty x = some v) : Yl P (Builtin.len_ ts ty2 #[x']) v ∧ VR σ v v := by
  have hts' : ts[0]? = some ty := by rw [← Array.getElem?_toList, hts]; rfl
  unfold lenP at h
  cases hx <;> (try (simp at h; done))
  · rename_i s
    unfold lenS at h
    cases hd : undx P ty with
    | none => rw [hd] at h; simp at h
    | some d =>
      rw [hd] at h
      cases d <;> (try (simp at h; done))
      have hsz : s.data.toList.length = s.size := Array.length_toList
      dsimp only at h
      rw [hsz] at h
      simp only [Option.some.injEq] at h
      subst h
      refine ⟨fun w => ?_, .int _ _⟩
      simp [Builtin.len_, hts', run_und hd, goInt]
  · unfold lenA at h
    cases hd : undx P ty with
    | none => rw [hd] at h; simp at h
    | some d =>
      rw [hd] at h
      cases d <;> (try (simp at h; done))
      simp only [Option.some.injEq] at h
      subst h
      exact ⟨fun w => by simp [Builtin.len_, hts', run_und hd, goInt], .int _ _⟩
  · unfold lenA at h
    cases hd : undx P ty with
    | none => rw [hd] at h; simp at h
    | some d =>
      rw [hd] at h
      cases d <;> (try (simp at h; done))
      simp only [Option.some.injEq] at h
      subst h
      exact ⟨fun w => by simp [Builtin.len_, hts', run_und hd, goInt], .int _ _⟩
  all_goals first
    | (unfold lenL at h
       cases hd : undx P ty with
       | none => rw [hd] at h; simp at h
       | some d =>
         rw [hd] at h
         cases d <;> (try (simp at h; done))
         simp only [Option.some.injEq] at h
         subst h
         exact ⟨fun w => by simp [Builtin.len_, hts', run_und hd, goInt], .int _ _⟩)
    | (unfold lenA at h
       cases hd : undx P ty with
       | none => rw [hd] at h; simp at h
       | some d =>
         rw [hd] at h
         cases d <;> (try (simp at h; done))
         simp only [Option.some.injEq] at h
         subst h
         exact ⟨fun w => by simp [Builtin.len_, hts', run_und hd, goInt], .int _ _⟩)

theorem callP_run {o : Oper} {c : Call} {t : Tm} {ρ : Operand → Value} {v : Value} (ho : o.op = .call c) (hρ : ∀ x ∈ c.args.toList, VR σ (evx t x) (ρ x)) (h : callP P t c = some v) : (∀ w, (execOp ρ o).run P w = .ok (.value v) w) ∧ VR σ v v := by
  unfold callP at h
  cases hc : c.callee with
  | value f => rw [hc] at h; simp at h
  | invoke r m => rw [hc] at h; simp at h
  | builtin b =>
    rw [hc] at h
    simp only at h
    have hargs : VRs σ (c.args.toList.map (evx t)) (c.args.toList.map ρ) := VRs.map_ev hρ
    generalize hl : c.args.toList.map (evx t) = xs at h hargs
    have hmap : c.args.map ρ = ⟨c.args.toList.map ρ⟩ := by apply Array.ext'; simp
    generalize hl' : c.args.toList.map ρ = xs' at hargs hmap
    obtain ⟨cn, run⟩ : ∃ cn, ∀ w, (execOp ρ o).run P w = (builtin b c.argTypes o.type cn ⟨xs'⟩).run P w := by
      refine ⟨c.args.map fun | .const _ => true | _ => false, fun w => ?_⟩
      unfold execOp
      simp only [ho, resolve, hc, hmap]
      simp only [Sem.run_bind, Sem.run_pure, Result.andThen_ok, invoke]
      rfl
    unfold builtinP at h
    cases b <;> (try (simp at h; done))
    case cap =>
      simp only at h
      unfold capC at h
      split at h
      · rename_i ty ht
        obtain ⟨x', rfl⟩ : ∃ x', xs' = [x'] := by
          have := hargs.1
          match xs', this with
          | [x'], _ => exact ⟨x', rfl⟩
        have hx := hargs.head
        cases hx
        have hts' : c.argTypes[0]? = some ty := by rw [← Array.getElem?_toList, ht]; rfl
        cases hd : undx P ty with
        | none => rw [hd] at h; simp [capS] at h
        | some d =>
          rw [hd] at h
          cases d <;> (try (simp [capS] at h; done))
          simp only [capS, Option.some.injEq] at h
          subst h
          refine ⟨fun w => ?_, .int _ _⟩
          rw [run w]
          simp [builtin, Builtin.cap_, hts', run_und hd, goInt]
      · rename_i ty ad n c0 ht
        obtain ⟨x', rfl⟩ : ∃ x', xs' = [x'] := by
          have := hargs.1
          match xs', this with
          | [x'], _ => exact ⟨x', rfl⟩
        have hx := hargs.head
        have hts' : c.argTypes[0]? = some ty := by rw [← Array.getElem?_toList, ht]; rfl
        cases hx with
        | slX hb hn =>
          rename_i cc
          rw [show 2 * cc % 2 = 0 by omega, show 2 * cc / 2 = cc by omega] at h
          simp only [Nat.beq_refl, cond_true] at h
          cases hd : undx P ty with
          | none => rw [hd] at h; simp [capS] at h
          | some d =>
            rw [hd] at h
            cases d <;> (try (simp [capS] at h; done))
            simp only [capS, Option.some.injEq] at h
            subst h
            refine ⟨fun w => ?_, .int _ _⟩
            rw [run w]
            simp [builtin, Builtin.cap_, hts', run_und hd, goInt]
        | slO hb hn =>
          rename_i kk
          rw [show (2 * kk + 1) % 2 = 1 by omega] at h
          cases h
      · simp at h
    · -- len
      simp only at h
      unfold lenC at h
      split at h
      · rename_i ty x ht
        obtain ⟨x', rfl⟩ : ∃ x', xs' = [x'] := by
          have := hargs.1
          match xs', this with
          | [x'], _ => exact ⟨x', rfl⟩
        obtain ⟨h1, h2⟩ := lenP_run (ty2 := o.type) hargs.head ht h
        refine ⟨fun w => ?_, h2⟩
        rw [run w]
        simp [builtin, h1 w]
      · simp at h
    · -- max
      simp only at h
      unfold maxx at h
      split at h
      · rename_i k x k2 y
        obtain ⟨x', y', rfl⟩ : ∃ x' y', xs' = [x', y'] := by
          have := hargs.1
          match xs', this with
          | [x', y'], _ => exact ⟨x', y', rfl⟩
        have h1 := hargs.head
        have h2 := hargs.tail.head
        cases h1; cases h2
        simp only [Option.some.injEq] at h
        subst h
        refine ⟨fun w => ?_, .int _ _⟩
        rw [run w]
        simp [builtin, Builtin.max_, Builtin.max2]
      · simp at h
    · -- min
      simp only at h
      unfold minx at h
      split at h
      · rename_i k x k2 y
        obtain ⟨x', y', rfl⟩ : ∃ x' y', xs' = [x', y'] := by
          have := hargs.1
          match xs', this with
          | [x', y'], _ => exact ⟨x', y', rfl⟩
        have h1 := hargs.head
        have h2 := hargs.tail.head
        cases h1; cases h2
        simp only [Option.some.injEq] at h
        subst h
        refine ⟨fun w => ?_, .int _ _⟩
        rw [run w]
        simp [builtin, Builtin.min_, Builtin.min2]
      · simp at h

theorem yl_value {s : Sem Value} {v' : Value} (h : Yl P s v') (w : World) : (do pure (.value (← s)) : Sem Next).run P w = .ok (.value v') w := by simp [h w]

theorem ifaceP_run {ty : TypeId} {x x' v : Value} (hx : VR σ x x') (h : ifaceP P ty x = some v) : ∃ v', Yl P (Instr.makeInterface ty x') v' ∧ VR σ v v' := by
  unfold ifaceP at h
  split at h
  · simp at h
  · rename_i d hni hd
    simp only [Option.some.injEq] at h
    subst h
    refine ⟨.iface ty x', fun w => ?_, .iface ty hx⟩
    unfold Instr.makeInterface
    simp only [Sem.run_bind, run_und hd, Result.andThen_ok]
    cases d <;> first | rfl | (exact absurd rfl (hni _))
  · simp at h
theorem failsP_run {asserted : TypeId} {ok : Bool} {v : Value} (h : failsP P asserted ok = some v) : ok = true ∧ ∃ z, zerox P asserted = some z ∧ v = .tuple #[z, .bool false] ∧ VR σ v v := by
  unfold failsP at h
  split at h
  · obtain ⟨z, hz, rfl⟩ := Option.map_eq_some_iff.1 h
    obtain ⟨_, _, _, hpl⟩ := zerox_some hz
    exact ⟨rfl, z, hz, rfl, .tuple rfl (VRs.cons (VR.plain hpl) (VRs.cons (.bool false) (VRs.nil σ))).2⟩
  · simp at h
theorem assertP_run {asserted xt : TypeId} {ok : Bool} {x x' v : Value} (hx : VR σ x x') (h : assertP P asserted ok x = some v) : ∃ v', Yl P (Instr.typeAssert x' xt asserted ok) v' ∧ VR σ v v' := by
  unfold assertP at h
  split at h
  · simp at h
  · rename_i d hni hd
    unfold assertV at h
    cases hx <;> (try (simp at h; done))
    · obtain ⟨rfl, z, hz, rfl, hvr⟩ := failsP_run (σ := σ) h
      refine ⟨_, fun w => ?_, hvr⟩
      unfold Instr.typeAssert
      simp only [Sem.run_bind, run_und hd, Result.andThen_ok]
      cases d <;> first
        | (exact absurd rfl (hni _))
        | (simp only [Sem.run_bind, zerox_run hz, Result.andThen_ok, Sem.run_pure, if_true])
    · rename_i t u u' hu
      simp only at h
      cases hb : Nat.beq t asserted with
      | true =>
        rw [hb] at h
        have e := Nat.eq_of_beq_eq_true hb
        simp only [cond_true] at h
        unfold holdsP at h
        split at h
        · simp only [Option.some.injEq] at h
          subst h
          refine ⟨.tuple #[u', .bool true], fun w => ?_, .tuple rfl (VRs.cons hu (VRs.cons (.bool true) (VRs.nil σ))).2⟩
          unfold Instr.typeAssert
          simp only [Sem.run_bind, run_und hd, Result.andThen_ok]
          cases d <;> first
            | (exact absurd rfl (hni _))
            | (simp only [if_pos e, Sem.run_pure, if_true])
        · simp only [Option.some.injEq] at h
          subst h
          refine ⟨u', fun w => ?_, hu⟩
          unfold Instr.typeAssert
          simp only [Sem.run_bind, run_und hd, Result.andThen_ok]
          cases d <;> first
            | (exact absurd rfl (hni _))
            | (simp only [if_pos e, Sem.run_pure, Bool.false_eq_true, if_false])
      | false =>
        rw [hb] at h
        simp only [cond_false] at h
        have e : ¬ t = asserted := fun e => by subst e; rw [show Nat.beq t t = true from Nat.beq_refl _] at hb; cases hb
        obtain ⟨rfl, z, hz, rfl, hvr⟩ := failsP_run (σ := σ) h
        refine ⟨_, fun w => ?_, hvr⟩
        unfold Instr.typeAssert
        simp only [Sem.run_bind, run_und hd, Result.andThen_ok]
        cases d <;> first
          | (exact absurd rfl (hni _))
          | (simp only [if_neg e, Sem.run_bind, zerox_run hz, Result.andThen_ok, Sem.run_pure, if_true])
  · simp at h

theorem opP_run {o : Oper} {t : Tm} {ρ : Operand → Value} {v : Value} (hρ : ∀ x ∈ o.op.operands, VR σ (evx t x) (ρ x)) (h : opP P t o.op = some v) : ∃ v', (∀ w, (execOp ρ o).run P w = .ok (.value v') w) ∧ VR σ v v' := by
  have go : ∀ {s : Sem Value}, (∃ v', Yl P s v' ∧ VR σ v v') → (execOp ρ o = (do pure (.value (← s)))) → ∃ v', (∀ w, (execOp ρ o).run P w = .ok (.value v') w) ∧ VR σ v v' := by
    rintro s ⟨v', h1, h2⟩ e
    exact ⟨v', fun w => by rw [e]; exact yl_value h1 w, h2⟩
  cases ho : o.op with
  | move x => rw [ho] at h hρ; simp [opP] at h; subst h; exact ⟨ρ x, fun w => by unfold execOp; simp [ho], hρ x (by simp [Op.operands])⟩
  | assign x => rw [ho] at h hρ; simp [opP] at h; subst h; exact ⟨ρ x, fun w => by unfold execOp; simp [ho], hρ x (by simp [Op.operands])⟩
  | pick c a b =>
    rw [ho] at h hρ
    obtain ⟨v', h1, h2⟩ := pickx_run (P := P) (hρ c (by simp [Op.operands])) (hρ a (by simp [Op.operands])) (hρ b (by simp [Op.operands])) h
    exact ⟨v', fun w => by unfold execOp; simp only [ho]; exact h1 w, h2⟩
  | build ty ps =>
    rw [ho] at h hρ
    have hp : PRs σ (partsx t ps.toList) (ps.toList.map fun (i, x) => (i, ρ x)) := PRs.parts fun p hp => hρ p.2 (by simp only [Op.operands]; exact List.mem_toArray.2 (List.mem_map_of_mem hp))
    have e : (ps.map fun (i, x) => (i, ρ x)) = ⟨ps.toList.map fun (i, x) => (i, ρ x)⟩ := by apply Array.ext'; simp
    exact go (buildx_run hp h) (by unfold execOp; simp only [ho, e])
  | nilCheck x =>
    rw [ho] at h hρ
    exact nilx_run ho (hρ x (by simp [Op.operands])) h
  | binOp op ty x y yt =>
    rw [ho] at h hρ
    exact go (binx_run (hρ x (by simp [Op.operands])) (hρ y (by simp [Op.operands])) h) (by unfold execOp; simp only [ho])
  | unOp op ty x => rw [ho] at h hρ; exact go (unx_run (hρ x (by simp [Op.operands])) h) (by unfold execOp; simp only [ho])
  | convert a b x =>
    rw [ho] at h hρ
    simp only [opP] at h
    cases ha : (undx P a).isSome with
    | false => rw [ha] at h; simp at h
    | true => rw [ha] at h; exact go (convP_run (hρ x (by simp [Op.operands])) ha h) (by unfold execOp; simp only [ho])
  | slice ty x lo hi mx =>
    rw [ho] at h hρ
    simp only [Op.operands] at hρ
    exact go (slicex_run (hρ x (by simp)) (VRo.map_ev fun y hy => hρ y (by simp [hy])) (VRo.map_ev fun y hy => hρ y (by simp [hy])) (VRo.map_ev fun y hy => hρ y (by simp [hy])) h) (by unfold execOp; simp only [ho])
  | fieldAddr s x f => rw [ho] at h hρ; exact go (fieldAddrx_run (hρ x (by simp [Op.operands])) h) (by unfold execOp; simp only [ho])
  | field s x f => rw [ho] at h hρ; exact go (fieldx_run (hρ x (by simp [Op.operands])) h) (by unfold execOp; simp only [ho])
  | indexAddr ty x i => rw [ho] at h hρ; exact go (indexAddrx_run (hρ x (by simp [Op.operands])) (hρ i (by simp [Op.operands])) h) (by unfold execOp; simp only [ho])
  | index ty x i => rw [ho] at h hρ; exact go (indexx_run (hρ x (by simp [Op.operands])) (hρ i (by simp [Op.operands])) h) (by unfold execOp; simp only [ho])
  | extract x i => rw [ho] at h hρ; exact go (extractx_run (hρ x (by simp [Op.operands])) h) (by unfold execOp; simp only [ho])
  | makeFunc fn a b =>
    rw [ho] at h hρ
    simp only [opP] at h
    cases fn with
    | func f =>
      simp only [Option.some.injEq] at h
      subst h
      have h1 : VRs σ (a.toList.map (evx t)) (a.toList.map ρ) := VRs.map_ev fun x hx => hρ x (by simp [Op.operands]; exact .inl (by simpa using hx))
      have h2 : VRs σ (b.toList.map (evx t)) (b.toList.map ρ) := VRs.map_ev fun x hx => hρ x (by simp [Op.operands]; exact .inr (by simpa using hx))
      refine ⟨.func (.func f) ⟨a.toList.map ρ⟩ ⟨b.toList.map ρ⟩, fun w => ?_, .func f h1.1 h2.1 h1.2 h2.2⟩
      have e1 : a.map ρ = ⟨a.toList.map ρ⟩ := by apply Array.ext'; simp
      have e2 : b.map ρ = ⟨b.toList.map ρ⟩ := by apply Array.ext'; simp
      unfold execOp
      simp only [ho, Instr.makeFunc, e1, e2]
      rfl
    | _ => simp at h
  | makeInterface ty x => rw [ho] at h hρ; exact go (ifaceP_run (hρ x (by simp [Op.operands])) h) (by unfold execOp; simp only [ho])
  | typeAssert x xt ty ok => rw [ho] at h hρ; exact go (assertP_run (xt := xt) (hρ x (by simp [Op.operands])) h) (by unfold execOp; simp only [ho])
  | call c =>
    rw [ho] at h hρ
    exact ⟨v, callP_run ho (fun x hx => hρ x (by simp only [Op.operands, Call.operands]; exact Array.mem_append.2 (.inr (by simpa using hx)))) h⟩
  | _ => rw [ho] at h; simp [opP] at h

end
end Go.Ev
