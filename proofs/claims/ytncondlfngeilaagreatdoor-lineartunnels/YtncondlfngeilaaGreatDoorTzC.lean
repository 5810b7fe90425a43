import Derived.Test.YtncondlfngeilaaGreatDoorTzB
import Derived.Test.YtncondlfngeilaaGreatDoorTzA
namespace Go.Proofs.YtncondlfngeilaaGreatDoor
set_option linter.unusedSimpArgs false
set_option linter.unusedVariables false

structure Least (n : Nat) (es : List (Nat × Nat)) (f x : Nat → Int) : Prop where
 ge : ∀ i, i < n → f i ≤ x i
 cl : ∀ e ∈ es, x e.1 ≤ x e.2
 le : ∀ z : Nat → Int, (∀ i, i < n → f i ≤ z i) → (∀ e ∈ es, z e.1 ≤ z e.2) → ∀ i, i < n → x i ≤ z i
def gOf (es : List (Nat × Nat)) (k : Nat) : List Nat := (es.filter fun e => e.1 == k).map (·.2)
theorem mem_gOf {es : List (Nat × Nat)} {k t : Nat} : t ∈ gOf es k ↔ (k, t) ∈ es := by
 unfold gOf;rw [List.mem_map]
 constructor
 ·rintro ⟨⟨a, b⟩, h1, rfl⟩
  rw [List.mem_filter] at h1;have : a = k := by simpa using h1.2
  subst this;exact h1.1
 ·intro h
  exact ⟨(k, t), List.mem_filter.2 ⟨h, by simp⟩, rfl⟩
theorem gOf_snoc (es : List (Nat × Nat)) (a b k : Nat) : gOf (es ++ [(a, b)]) k = gOf es k ++ (if a = k then [b] else []) := by
 unfold gOf;rw [List.filter_append, List.map_append]
 congr 1
 by_cases h : a = k
 ·subst h; simp
 ·rw [if_neg h, List.filter_cons_of_neg (by simpa using h)]; rfl
theorem gOf_length (es : List (Nat × Nat)) (k : Nat) : (gOf es k).length ≤ es.length := by
 unfold gOf;rw [List.length_map];exact List.length_filter_le _ _
structure PV (n : Nat) (es : List (Nat × Nat)) (f : Nat → Int) (m : Nat → Bool) (x : Nat → Int) (rest : List Nat) : Prop where
 cl : ∀ e ∈ es, m e.1 = true → m e.2 = true ∧ x e.1 ≤ x e.2
 ge : ∀ i, i < n → m i = true → f i ≤ x i
 le : ∀ z : Nat → Int, (∀ i, i < n → f i ≤ z i) → (∀ e ∈ es, z e.1 ≤ z e.2) → ∀ i, i < n → m i = true → x i ≤ z i
 hi : ∀ i, i < n → m i = true → ∀ r ∈ rest, f r ≤ x i
 dn : ∀ i, i < n → m i = true ∨ i ∈ rest
theorem PV.start (n : Nat) (es : List (Nat × Nat)) (f x : Nat → Int) (rest : List Nat) (h : ∀ i, i < n → i ∈ rest) : PV n es f (fun _ => false) x rest :=
 ⟨fun e _ h => by simp at h, fun i _ h => by simp at h, fun z _ _ i _ h => by simp at h, fun i _ h => by simp at h, fun i hi => .inr (h i hi)⟩
def setX (x : Nat → Int) (v : Int) (o : List Nat) : Nat → Int := fun i => if i ∈ o then v else x i
theorem PV.step {n : Nat} {es : List (Nat × Nat)} {f : Nat → Int} {m m' : Nat → Bool} {x : Nat → Int} {r : Nat} {rest o : List Nat} (h : PV n es f m x (r :: rest)) (hs : ∀ s ∈ rest, f s ≤ f r) (hr : r < n) (hes : ∀ e ∈ es, e.1 < n ∧ e.2 < n)
  (s : SR n (gOf es) m [r] m' o) : PV n es f m' (setX x (f r) o) rest := by
 have hout : ∀ i, i ∈ o → m i = false := fun i hi => (s.si.un i (.inl hi)).1;have hmem : ∀ i, m' i = true ↔ m i = true ∨ i ∈ o := fun i => by rw [s.si.mem i]; simp
 have hno : ∀ i, m i = true → i ∉ o := fun i hm hi => by rw [hout i hi] at hm; cases hm
 have hx : ∀ i, m i = true → setX x (f r) o i = x i := fun i hm => by unfold setX; rw [if_neg (hno i hm)]
 have hxo : ∀ i, i ∈ o → setX x (f r) o i = f r := fun i hi => by unfold setX; rw [if_pos hi]
 have hfr : ∀ i, i < n → i ∈ o → f i ≤ f r := fun i hin hi => by
  rcases h.dn i hin with z | z
  ·rw [hout i hi] at z; cases z
  ·rcases List.mem_cons.1 z with rfl | z
   ·exact Int.le_refl _
   ·exact hs i z
 refine ⟨fun e he hm => ?_, fun i hin hm => ?_, fun z h1 h2 i hin hm => ?_, fun i hin hm q hq => ?_, fun i hin => ?_⟩
 ·rcases (hmem e.1).1 hm with hm | hm
  ·obtain ⟨q1, q2⟩ := h.cl e he hm
   exact ⟨(hmem e.2).2 (.inl q1), by rw [hx _ hm, hx _ q1]; exact q2⟩
  ·have ht : m' e.2 = true := s.cl e.1 hm e.2 (mem_gOf.2 he)
   refine ⟨ht, ?_⟩;rw [hxo _ hm]
   rcases (hmem e.2).1 ht with q | q
   ·rw [hx _ q]; exact h.hi e.2 (hes e he).2 q r (by simp)
   ·rw [hxo _ q]; exact Int.le_refl _
 ·rcases (hmem i).1 hm with hm | hm
  ·rw [hx _ hm]; exact h.ge i hin hm
  ·rw [hxo _ hm]; exact hfr i hin hm
 ·rcases (hmem i).1 hm with hm | hm
  ·rw [hx _ hm]; exact h.le z h1 h2 i hin hm
  ·rw [hxo _ hm]
   refine s.si.re (fun i => f r ≤ z i) (fun q hq => ?_) (fun i hi _ t ht => ?_) i (.inl hm)
   ·have : q = r := by simpa using hq
    subst this;exact h1 q hr
   ·exact Int.le_trans hi (h2 (i, t) (mem_gOf.1 ht))
 ·rcases (hmem i).1 hm with hm | hm
  ·rw [hx _ hm]; exact h.hi i hin hm q (by simp [hq])
  ·rw [hxo _ hm]; exact hs q hq
 ·rcases h.dn i hin with z | z
  ·exact .inl ((hmem i).2 (.inl z))
  ·rcases List.mem_cons.1 z with rfl | z
   ·exact .inl (s.st i (by simp))
   ·exact .inr z
theorem Least.mono {n : Nat} {es es' : List (Nat × Nat)} {f f' x y : Nat → Int} (h : Least n es f x) (k : Least n es' f' y) (h1 : ∀ e ∈ es, e ∈ es') (h2 : ∀ i, i < n → f i ≤ f' i) : ∀ i, i < n → x i ≤ y i :=
 h.le y (fun i hi => Int.le_trans (h2 i hi) (k.ge i hi)) (fun e he => k.cl e (h1 e he))
theorem Least.one {n k : Nat} {es : List (Nat × Nat)} {f f' x z : Nat → Int} (h : Least n es f x) (q : Least n es f' z) (hf : ∀ i, i < n → i ≠ k → f' i = f i) (hk : ∀ i, i < n → f i ≤ f' i) (hes : ∀ e ∈ es, e.1 < n ∧ e.2 < n) : ∀ i, i < n → z i ≤ x i ∨ z i = f' k := by
 have hxz := h.mono q (fun _ h => h) hk
 have h1 : ∀ i, i < n → z i ≤ max (x i) (f' k) := q.le (fun i => max (x i) (f' k)) (fun i hi => by
  by_cases e : i = k
  ·subst e; omega
  ·rw [hf i hi e]; have := h.ge i hi; omega) (fun e he => by have := h.cl e he; omega)
 have h2 : ∀ i, i < n → z i ≤ (if f' k ≤ z i then z i else x i) := q.le (fun i => if f' k ≤ z i then z i else x i) (fun i hi => by
  by_cases e : i = k
  ·subst e
   rw [if_pos (q.ge i hi)];exact q.ge i hi
  ·skip
   rw [hf i hi e];have := h.ge i hi;have := hxz i hi
   split <;> omega) (fun e he => by
  have a1 := h.cl e he;have a2 := q.cl e he;have a3 := hxz e.2 (hes e he).2
  split <;> split <;> omega)
 intro i hi;have b1 := h1 i hi;have b2 := h2 i hi
 by_cases e : f' k ≤ z i
 ·by_cases e2 : z i ≤ x i
  ·exact .inl e2
  ·exact .inr (by omega)
 ·rw [if_neg e] at b2
  exact .inl b2
end Go.Proofs.YtncondlfngeilaaGreatDoor
namespace Go.Proofs.YtncondlfngeilaaGreatDoor
open Go.ChangeShapes Go.WideShapes Go.ChangeAt Go.RowKit Go.Proofs.Tryz
set_option linter.unusedSimpArgs false
set_option linter.unusedVariables false
set_option maxHeartbeats 4000000

def wrOps : List Int := [2, 3, 4, 5, 6, 8, 9, 10, 13]
def writesF (op d : Int) : Int := if op ∈ wrOps then d else -1
theorem op_cases (op : Int) : op = 1 ∨ op = 2 ∨ op = 3 ∨ op = 4 ∨ op = 5 ∨ op = 6 ∨ op = 7 ∨ op = 8 ∨ op = 9 ∨ op = 10 ∨ op = 11 ∨ op = 12 ∨ op = 13 ∨ op = 14 ∨ (op < 1 ∨ 14 < op) := by omega

theorem rWrites_any (op sub a b d k : Int) (v : Value) (s t : Int) (w : World) : Calls prog 34 #[insV op sub a b d k v s t] w (retP (.int .i64 (writesF op d)) w) := by
 unfold insV

 rcases op_cases op with rfl | rfl | rfl | rfl | rfl | rfl | rfl | rfl | rfl | rfl | rfl | rfl | rfl | rfl | ho
 ·go_enter func34, ntmps34
  go_wp2;go_ret;exact ⟨by first | rfl | (simp [writesF, wrOps]; done), (by repeat (first | with_reducible exact Below.refl _ _ | with_reducible refine bel_alloc ?_ _ | with_reducible refine bel_set ?_ (by first | exact Nat.le_refl _ | (simp; done) | (simp; omega)) _ | with_reducible refine Below.drew ?_ | refine bel_trans ?_ (by assumption)))⟩
 ·go_enter func34, ntmps34
  go_wp2;go_ret;exact ⟨by first | rfl | (simp [writesF, wrOps]; done), (by repeat (first | with_reducible exact Below.refl _ _ | with_reducible refine bel_alloc ?_ _ | with_reducible refine bel_set ?_ (by first | exact Nat.le_refl _ | (simp; done) | (simp; omega)) _ | with_reducible refine Below.drew ?_ | refine bel_trans ?_ (by assumption)))⟩
 ·go_enter func34, ntmps34
  go_wp2;go_ret;exact ⟨by first | rfl | (simp [writesF, wrOps]; done), (by repeat (first | with_reducible exact Below.refl _ _ | with_reducible refine bel_alloc ?_ _ | with_reducible refine bel_set ?_ (by first | exact Nat.le_refl _ | (simp; done) | (simp; omega)) _ | with_reducible refine Below.drew ?_ | refine bel_trans ?_ (by assumption)))⟩
 ·go_enter func34, ntmps34
  go_wp2;go_ret;exact ⟨by first | rfl | (simp [writesF, wrOps]; done), (by repeat (first | with_reducible exact Below.refl _ _ | with_reducible refine bel_alloc ?_ _ | with_reducible refine bel_set ?_ (by first | exact Nat.le_refl _ | (simp; done) | (simp; omega)) _ | with_reducible refine Below.drew ?_ | refine bel_trans ?_ (by assumption)))⟩
 ·go_enter func34, ntmps34
  go_wp2;go_ret;exact ⟨by first | rfl | (simp [writesF, wrOps]; done), (by repeat (first | with_reducible exact Below.refl _ _ | with_reducible refine bel_alloc ?_ _ | with_reducible refine bel_set ?_ (by first | exact Nat.le_refl _ | (simp; done) | (simp; omega)) _ | with_reducible refine Below.drew ?_ | refine bel_trans ?_ (by assumption)))⟩
 ·go_enter func34, ntmps34
  go_wp2;go_ret;exact ⟨by first | rfl | (simp [writesF, wrOps]; done), (by repeat (first | with_reducible exact Below.refl _ _ | with_reducible refine bel_alloc ?_ _ | with_reducible refine bel_set ?_ (by first | exact Nat.le_refl _ | (simp; done) | (simp; omega)) _ | with_reducible refine Below.drew ?_ | refine bel_trans ?_ (by assumption)))⟩
 ·go_enter func34, ntmps34
  go_wp2;go_ret;exact ⟨by first | rfl | (simp [writesF, wrOps]; done), (by repeat (first | with_reducible exact Below.refl _ _ | with_reducible refine bel_alloc ?_ _ | with_reducible refine bel_set ?_ (by first | exact Nat.le_refl _ | (simp; done) | (simp; omega)) _ | with_reducible refine Below.drew ?_ | refine bel_trans ?_ (by assumption)))⟩
 ·go_enter func34, ntmps34
  go_wp2;go_ret;exact ⟨by first | rfl | (simp [writesF, wrOps]; done), (by repeat (first | with_reducible exact Below.refl _ _ | with_reducible refine bel_alloc ?_ _ | with_reducible refine bel_set ?_ (by first | exact Nat.le_refl _ | (simp; done) | (simp; omega)) _ | with_reducible refine Below.drew ?_ | refine bel_trans ?_ (by assumption)))⟩
 ·go_enter func34, ntmps34
  go_wp2;go_ret;exact ⟨by first | rfl | (simp [writesF, wrOps]; done), (by repeat (first | with_reducible exact Below.refl _ _ | with_reducible refine bel_alloc ?_ _ | with_reducible refine bel_set ?_ (by first | exact Nat.le_refl _ | (simp; done) | (simp; omega)) _ | with_reducible refine Below.drew ?_ | refine bel_trans ?_ (by assumption)))⟩
 ·go_enter func34, ntmps34
  go_wp2;go_ret;exact ⟨by first | rfl | (simp [writesF, wrOps]; done), (by repeat (first | with_reducible exact Below.refl _ _ | with_reducible refine bel_alloc ?_ _ | with_reducible refine bel_set ?_ (by first | exact Nat.le_refl _ | (simp; done) | (simp; omega)) _ | with_reducible refine Below.drew ?_ | refine bel_trans ?_ (by assumption)))⟩
 ·go_enter func34, ntmps34
  go_wp2;go_ret;exact ⟨by first | rfl | (simp [writesF, wrOps]; done), (by repeat (first | with_reducible exact Below.refl _ _ | with_reducible refine bel_alloc ?_ _ | with_reducible refine bel_set ?_ (by first | exact Nat.le_refl _ | (simp; done) | (simp; omega)) _ | with_reducible refine Below.drew ?_ | refine bel_trans ?_ (by assumption)))⟩
 ·go_enter func34, ntmps34
  go_wp2;go_ret;exact ⟨by first | rfl | (simp [writesF, wrOps]; done), (by repeat (first | with_reducible exact Below.refl _ _ | with_reducible refine bel_alloc ?_ _ | with_reducible refine bel_set ?_ (by first | exact Nat.le_refl _ | (simp; done) | (simp; omega)) _ | with_reducible refine Below.drew ?_ | refine bel_trans ?_ (by assumption)))⟩
 ·go_enter func34, ntmps34
  go_wp2;go_ret;exact ⟨by first | rfl | (simp [writesF, wrOps]; done), (by repeat (first | with_reducible exact Below.refl _ _ | with_reducible refine bel_alloc ?_ _ | with_reducible refine bel_set ?_ (by first | exact Nat.le_refl _ | (simp; done) | (simp; omega)) _ | with_reducible refine Below.drew ?_ | refine bel_trans ?_ (by assumption)))⟩
 ·go_enter func34, ntmps34
  go_wp2;go_ret;exact ⟨by first | rfl | (simp [writesF, wrOps]; done), (by repeat (first | with_reducible exact Below.refl _ _ | with_reducible refine bel_alloc ?_ _ | with_reducible refine bel_set ?_ (by first | exact Nat.le_refl _ | (simp; done) | (simp; omega)) _ | with_reducible refine Below.drew ?_ | refine bel_trans ?_ (by assumption)))⟩
 ·have e1 : (op == 1) = false := by simp; omega
  have e2 : (op == 2) = false := by simp; omega
  have e3 : (op == 3) = false := by simp; omega
  have e4 : (op == 4) = false := by simp; omega
  have e5 : (op == 5) = false := by simp; omega
  have e6 : (op == 6) = false := by simp; omega
  have e7 : (op == 7) = false := by simp; omega
  have e8 : (op == 8) = false := by simp; omega
  have e9 : (op == 9) = false := by simp; omega
  have e10 : (op == 10) = false := by simp; omega
  have e11 : (op == 11) = false := by simp; omega
  have e12 : (op == 12) = false := by simp; omega
  have e13 : (op == 13) = false := by simp; omega
  have e14 : (op == 14) = false := by simp; omega
  have hw : writesF op d = -1 := by unfold writesF wrOps; rw [if_neg]; simp; omega
  rw [hw];clear hw ho
  go_enter func34, ntmps34
  go_wp2;go_ret;exact ⟨rfl, (by repeat (first | with_reducible exact Below.refl _ _ | with_reducible refine bel_alloc ?_ _ | with_reducible refine bel_set ?_ (by first | exact Nat.le_refl _ | (simp; done) | (simp; omega)) _ | with_reducible refine Below.drew ?_ | refine bel_trans ?_ (by assumption)))⟩

end Go.Proofs.YtncondlfngeilaaGreatDoor
namespace Go.Proofs.YtncondlfngeilaaGreatDoor
open Go.ChangeShapes Go.WideShapes Go.ChangeAt Go.RowKit Go.Proofs.Tryz
set_option linter.unusedSimpArgs false
set_option linter.unusedVariables false
set_option maxHeartbeats 4000000

def retI (l : List Int) (w : World) : Ending → World → Prop := fun e w' => ∃ v, e = .returned v ∧ IL w' v l ∧ Below w.heap.size w w'
def succsF (op s t : Int) : List Int := if op = 12 then [] else if op = 11 then [s, t] else [s]
def needA (op : Int) : Bool := decide (op ∈ [3, 4, 5, 6, 7, 11, 14])
def needB (op : Int) : Bool := decide (op = 7)
def needD (op : Int) : Bool := decide (op ∈ [3, 4, 5, 6, 2, 8, 9, 13])
theorem end_T {P : Program} {fn : Func} {a : Act} {w w' : World} {x y z : Bool} (hr : (results fn a.tmps).run P w' = .ok (.tuple #[.bool x, .bool y, .bool z]) w') (hd : a.defers = []) (hb : Below w.heap.size w w') :
  bodyPost P fn (retP (.tuple #[.bool x, .bool y, .bool z]) w) .ret a w' := bodyPost_ret hr hd ⟨rfl, hb⟩
theorem IL.nil (w : World) : IL w (.slice none 0 0) [] := ⟨none, 0, rfl, by simp, fun _ => ⟨rfl, rfl⟩, fun h => absurd rfl h⟩
theorem IL.one {w : World} {b cap : Nat} {x : Int} (h : w.cell? ⟨b, 0, none⟩ = some (.int .i64 x)) : IL w (.slice (some ⟨b, 0, none⟩) 1 cap) [x] :=
 ⟨_, cap, rfl, by simp, (fun h => by cases h), fun _ => ⟨b, 0, rfl, fun i y hy => by
  match i, hy with
  | 0, hy => simp at hy; subst hy; exact h⟩⟩
theorem IL.two {w : World} {b cap : Nat} {x y : Int} (h : w.cell? ⟨b, 0, none⟩ = some (.int .i64 x)) (k : w.cell? ⟨b, 1, none⟩ = some (.int .i64 y)) : IL w (.slice (some ⟨b, 0, none⟩) 2 cap) [x, y] :=
 ⟨_, cap, rfl, by simp, (fun h => by cases h), fun _ => ⟨b, 0, rfl, fun i z hz => by
  match i, hz with
  | 0, hz => simp at hz; subst hz; exact h
  | 1, hz => simp at hz; subst hz; exact k⟩⟩

theorem rSuccs_any (op sub a b d k : Int) (v : Value) (s t : Int) (w : World) : Calls prog 36 #[insV op sub a b d k v s t] w (retI (succsF op s t) w) := by
 unfold insV
 by_cases h12 : op = 12
 ·subst h12
  go_enter func36, ntmps36
  go_wp2;go_ret;exact ⟨_, rfl, IL.nil _, (by repeat (first | with_reducible exact Below.refl _ _ | with_reducible refine bel_alloc ?_ _ | with_reducible refine bel_set ?_ (by first | exact Nat.le_refl _ | (simp; done) | (simp; omega)) _ | with_reducible refine Below.drew ?_ | refine bel_trans ?_ (by assumption)))⟩
 ·by_cases h11 : op = 11
  ·subst h11
   go_enter func36, ntmps36
   go_wp2;go_ret;exact ⟨_, rfl, IL.two (by simp) (by simp), (by repeat (first | with_reducible exact Below.refl _ _ | with_reducible refine bel_alloc ?_ _ | with_reducible refine bel_set ?_ (by first | exact Nat.le_refl _ | (simp; done) | (simp; omega)) _ | with_reducible refine Below.drew ?_ | refine bel_trans ?_ (by assumption)))⟩
  ·have e1 : (op == 12) = false := by simpa using h12
   have e2 : (op == 11) = false := by simpa using h11
   have hs : succsF op s t = [s] := by unfold succsF; rw [if_neg h12, if_neg h11]
   rw [hs];clear hs h11 h12
   go_enter func36, ntmps36
   go_wp2;go_ret;exact ⟨_, rfl, IL.one (by simp), (by repeat (first | with_reducible exact Below.refl _ _ | with_reducible refine bel_alloc ?_ _ | with_reducible refine bel_set ?_ (by first | exact Nat.le_refl _ | (simp; done) | (simp; omega)) _ | with_reducible refine Below.drew ?_ | refine bel_trans ?_ (by assumption)))⟩

theorem rNeeds_any (op sub a b d k : Int) (v : Value) (s t : Int) (w : World) : Calls prog 33 #[insV op sub a b d k v s t] w (retP (.tuple #[.bool (needA op), .bool (needB op), .bool (needD op)]) w) := by
 unfold insV
 rcases op_cases op with rfl | rfl | rfl | rfl | rfl | rfl | rfl | rfl | rfl | rfl | rfl | rfl | rfl | rfl | ho
 ·go_enter func33, ntmps33
  go_wp2;exact end_T (by simp [results, results33, go_sem, needA, needB, needD]) rfl (by repeat (first | with_reducible exact Below.refl _ _ | with_reducible refine bel_alloc ?_ _ | with_reducible refine bel_set ?_ (by first | exact Nat.le_refl _ | (simp; done) | (simp; omega)) _ | with_reducible refine Below.drew ?_ | refine bel_trans ?_ (by assumption)))
 ·go_enter func33, ntmps33
  go_wp2;exact end_T (by simp [results, results33, go_sem, needA, needB, needD]) rfl (by repeat (first | with_reducible exact Below.refl _ _ | with_reducible refine bel_alloc ?_ _ | with_reducible refine bel_set ?_ (by first | exact Nat.le_refl _ | (simp; done) | (simp; omega)) _ | with_reducible refine Below.drew ?_ | refine bel_trans ?_ (by assumption)))
 ·go_enter func33, ntmps33
  go_wp2;exact end_T (by simp [results, results33, go_sem, needA, needB, needD]) rfl (by repeat (first | with_reducible exact Below.refl _ _ | with_reducible refine bel_alloc ?_ _ | with_reducible refine bel_set ?_ (by first | exact Nat.le_refl _ | (simp; done) | (simp; omega)) _ | with_reducible refine Below.drew ?_ | refine bel_trans ?_ (by assumption)))
 ·go_enter func33, ntmps33
  go_wp2;exact end_T (by simp [results, results33, go_sem, needA, needB, needD]) rfl (by repeat (first | with_reducible exact Below.refl _ _ | with_reducible refine bel_alloc ?_ _ | with_reducible refine bel_set ?_ (by first | exact Nat.le_refl _ | (simp; done) | (simp; omega)) _ | with_reducible refine Below.drew ?_ | refine bel_trans ?_ (by assumption)))
 ·go_enter func33, ntmps33
  go_wp2;exact end_T (by simp [results, results33, go_sem, needA, needB, needD]) rfl (by repeat (first | with_reducible exact Below.refl _ _ | with_reducible refine bel_alloc ?_ _ | with_reducible refine bel_set ?_ (by first | exact Nat.le_refl _ | (simp; done) | (simp; omega)) _ | with_reducible refine Below.drew ?_ | refine bel_trans ?_ (by assumption)))
 ·go_enter func33, ntmps33
  go_wp2;exact end_T (by simp [results, results33, go_sem, needA, needB, needD]) rfl (by repeat (first | with_reducible exact Below.refl _ _ | with_reducible refine bel_alloc ?_ _ | with_reducible refine bel_set ?_ (by first | exact Nat.le_refl _ | (simp; done) | (simp; omega)) _ | with_reducible refine Below.drew ?_ | refine bel_trans ?_ (by assumption)))
 ·go_enter func33, ntmps33
  go_wp2;exact end_T (by simp [results, results33, go_sem, needA, needB, needD]) rfl (by repeat (first | with_reducible exact Below.refl _ _ | with_reducible refine bel_alloc ?_ _ | with_reducible refine bel_set ?_ (by first | exact Nat.le_refl _ | (simp; done) | (simp; omega)) _ | with_reducible refine Below.drew ?_ | refine bel_trans ?_ (by assumption)))
 ·go_enter func33, ntmps33
  go_wp2;exact end_T (by simp [results, results33, go_sem, needA, needB, needD]) rfl (by repeat (first | with_reducible exact Below.refl _ _ | with_reducible refine bel_alloc ?_ _ | with_reducible refine bel_set ?_ (by first | exact Nat.le_refl _ | (simp; done) | (simp; omega)) _ | with_reducible refine Below.drew ?_ | refine bel_trans ?_ (by assumption)))
 ·go_enter func33, ntmps33
  go_wp2;exact end_T (by simp [results, results33, go_sem, needA, needB, needD]) rfl (by repeat (first | with_reducible exact Below.refl _ _ | with_reducible refine bel_alloc ?_ _ | with_reducible refine bel_set ?_ (by first | exact Nat.le_refl _ | (simp; done) | (simp; omega)) _ | with_reducible refine Below.drew ?_ | refine bel_trans ?_ (by assumption)))
 ·go_enter func33, ntmps33
  go_wp2;exact end_T (by simp [results, results33, go_sem, needA, needB, needD]) rfl (by repeat (first | with_reducible exact Below.refl _ _ | with_reducible refine bel_alloc ?_ _ | with_reducible refine bel_set ?_ (by first | exact Nat.le_refl _ | (simp; done) | (simp; omega)) _ | with_reducible refine Below.drew ?_ | refine bel_trans ?_ (by assumption)))
 ·go_enter func33, ntmps33
  go_wp2;exact end_T (by simp [results, results33, go_sem, needA, needB, needD]) rfl (by repeat (first | with_reducible exact Below.refl _ _ | with_reducible refine bel_alloc ?_ _ | with_reducible refine bel_set ?_ (by first | exact Nat.le_refl _ | (simp; done) | (simp; omega)) _ | with_reducible refine Below.drew ?_ | refine bel_trans ?_ (by assumption)))
 ·go_enter func33, ntmps33
  go_wp2;exact end_T (by simp [results, results33, go_sem, needA, needB, needD]) rfl (by repeat (first | with_reducible exact Below.refl _ _ | with_reducible refine bel_alloc ?_ _ | with_reducible refine bel_set ?_ (by first | exact Nat.le_refl _ | (simp; done) | (simp; omega)) _ | with_reducible refine Below.drew ?_ | refine bel_trans ?_ (by assumption)))
 ·go_enter func33, ntmps33
  go_wp2;exact end_T (by simp [results, results33, go_sem, needA, needB, needD]) rfl (by repeat (first | with_reducible exact Below.refl _ _ | with_reducible refine bel_alloc ?_ _ | with_reducible refine bel_set ?_ (by first | exact Nat.le_refl _ | (simp; done) | (simp; omega)) _ | with_reducible refine Below.drew ?_ | refine bel_trans ?_ (by assumption)))
 ·go_enter func33, ntmps33
  go_wp2;exact end_T (by simp [results, results33, go_sem, needA, needB, needD]) rfl (by repeat (first | with_reducible exact Below.refl _ _ | with_reducible refine bel_alloc ?_ _ | with_reducible refine bel_set ?_ (by first | exact Nat.le_refl _ | (simp; done) | (simp; omega)) _ | with_reducible refine Below.drew ?_ | refine bel_trans ?_ (by assumption)))
 ·have e1 : (op == 1) = false := by simp; omega
  have e2 : (op == 2) = false := by simp; omega
  have e3 : (op == 3) = false := by simp; omega
  have e4 : (op == 4) = false := by simp; omega
  have e5 : (op == 5) = false := by simp; omega
  have e6 : (op == 6) = false := by simp; omega
  have e7 : (op == 7) = false := by simp; omega
  have e8 : (op == 8) = false := by simp; omega
  have e9 : (op == 9) = false := by simp; omega
  have e10 : (op == 10) = false := by simp; omega
  have e11 : (op == 11) = false := by simp; omega
  have e12 : (op == 12) = false := by simp; omega
  have e13 : (op == 13) = false := by simp; omega
  have e14 : (op == 14) = false := by simp; omega
  have h1 : needA op = false := by unfold needA; rw [decide_eq_false_iff_not]; simp; omega
  have h2 : needB op = false := by unfold needB; rw [decide_eq_false_iff_not]; omega
  have h3 : needD op = false := by unfold needD; rw [decide_eq_false_iff_not]; simp; omega
  rw [h1, h2, h3];clear h1 h2 h3 ho
  go_enter func33, ntmps33
  go_wp2;exact end_T (by simp [results, results33, go_sem]) rfl (by repeat (first | with_reducible exact Below.refl _ _ | with_reducible refine bel_alloc ?_ _ | with_reducible refine bel_set ?_ (by first | exact Nat.le_refl _ | (simp; done) | (simp; omega)) _ | with_reducible refine Below.drew ?_ | refine bel_trans ?_ (by assumption)))
end Go.Proofs.YtncondlfngeilaaGreatDoor
