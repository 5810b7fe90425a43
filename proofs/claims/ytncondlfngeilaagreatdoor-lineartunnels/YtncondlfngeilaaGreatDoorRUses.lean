
import Derived.Test.YtncondlfngeilaaGreatDoorTzC
import Derived.Laws.AppendOwn
namespace Go.Proofs.YtncondlfngeilaaGreatDoor
open Go.ChangeShapes Go.WideShapes Go.ChangeAt Go.RowKit Go.Proofs.Tryz
set_option linter.unusedSimpArgs false
set_option linter.unusedVariables false
set_option maxHeartbeats 4000000

def ints (l : List Int) : List Value := l.map fun n => .int .i64 n
theorem ints_length (l : List Int) : (ints l).length = l.length := List.length_map _
theorem IL.own {w : World} {B : Nat} {v : Value} {l : List Int} (h : w.ownsRow B 3 1 v l.length (ints l)) (hb : l.length * 8 ≤ 140737488355328) : IL w v l := by
 rcases h.2 with ⟨h1, h2⟩ | ⟨g, cap, cur, h1, h2, h3, h4, h5, h6, h7⟩
 ·have : l = [] := List.length_eq_zero_iff.1 h2
  subst this;exact ⟨none, 0, h1, hb, fun _ => ⟨rfl, rfl⟩, fun h => absurd rfl h⟩
 ·refine ⟨_, cap, h1, hb, (fun h => by cases h), fun hl => ⟨g, 0, rfl, fun i x hx => ?_⟩⟩
  have := h.cells (g := g) (by rw [h1]; rfl) i (.int .i64 x) (by simp [ints, hx]);rw [show (⟨g, 0, none⟩ : Addr).add i = ⟨g, 0 + i, none⟩ from Addr.add_mid _ _ _] at this;exact this
def retO (l : List Int) (w : World) : Ending → World → Prop := fun e w' => ∃ v, e = .returned v ∧ w'.ownsRow (w.heap.size + 1) 3 1 v l.length (ints l) ∧ l.length * 8 ≤ 140737488355328 ∧ Below w.heap.size w w'
theorem retO.list {l : List Int} {w w' : World} {e : Ending} (h : retO l w e w') : retI l w e w' := by
 obtain ⟨v, h1, h2, h3, h4⟩ := h;exact ⟨v, h1, IL.own h2 h3, h4⟩
def useA (op : Int) : Bool := decide (op ∈ [3, 4, 5, 6, 7, 11, 12, 14])
def useB (op : Int) : Bool := decide (op ∈ [5, 7, 11])
def usesF (op a b : Int) (args : List Int) : List Int := (if useA op = true ∧ a ≠ -1 then [a] else []) ++ (if useB op = true ∧ b ≠ -1 then [b] else []) ++ (if op = 10 then args else [])

theorem uses1 (sub a b d k : Int) (v : Value) (s t : Int) (w : World) : Calls prog 35 #[insV 1 sub a b d k v s t] w (retO [] w) := by
 obtain ⟨i0, hi, hz0, hz1, hz2⟩ : ∃ i0, prog.info? 3 = some i0 ∧ i0.zero = some (.int .i64 0) ∧ i0.size = 1 ∧ i0.bytes = 8 := info_parts (by kernel_rfl);unfold insV
 go_enter func35, ntmps35
 go_wp2;go_ret;exact ⟨_, rfl, World.ownsRow_nil _ _ _ _, by simp, (by repeat (first | with_reducible exact Below.refl _ _ | with_reducible refine bel_alloc ?_ _ | with_reducible refine bel_set ?_ (by first | exact Nat.le_refl _ | (simp; done) | (simp; omega)) _ | with_reducible refine Below.drew ?_ | refine bel_trans ?_ (by assumption)))⟩

theorem uses2 (sub a b d k : Int) (v : Value) (s t : Int) (w : World) : Calls prog 35 #[insV 2 sub a b d k v s t] w (retO [] w) := by
 obtain ⟨i0, hi, hz0, hz1, hz2⟩ : ∃ i0, prog.info? 3 = some i0 ∧ i0.zero = some (.int .i64 0) ∧ i0.size = 1 ∧ i0.bytes = 8 := info_parts (by kernel_rfl);unfold insV
 go_enter func35, ntmps35
 go_wp2;go_ret;exact ⟨_, rfl, World.ownsRow_nil _ _ _ _, by simp, (by repeat (first | with_reducible exact Below.refl _ _ | with_reducible refine bel_alloc ?_ _ | with_reducible refine bel_set ?_ (by first | exact Nat.le_refl _ | (simp; done) | (simp; omega)) _ | with_reducible refine Below.drew ?_ | refine bel_trans ?_ (by assumption)))⟩

theorem uses8 (sub a b d k : Int) (v : Value) (s t : Int) (w : World) : Calls prog 35 #[insV 8 sub a b d k v s t] w (retO [] w) := by
 obtain ⟨i0, hi, hz0, hz1, hz2⟩ : ∃ i0, prog.info? 3 = some i0 ∧ i0.zero = some (.int .i64 0) ∧ i0.size = 1 ∧ i0.bytes = 8 := info_parts (by kernel_rfl);unfold insV
 go_enter func35, ntmps35
 go_wp2;go_ret;exact ⟨_, rfl, World.ownsRow_nil _ _ _ _, by simp, (by repeat (first | with_reducible exact Below.refl _ _ | with_reducible refine bel_alloc ?_ _ | with_reducible refine bel_set ?_ (by first | exact Nat.le_refl _ | (simp; done) | (simp; omega)) _ | with_reducible refine Below.drew ?_ | refine bel_trans ?_ (by assumption)))⟩

theorem uses9 (sub a b d k : Int) (v : Value) (s t : Int) (w : World) : Calls prog 35 #[insV 9 sub a b d k v s t] w (retO [] w) := by
 obtain ⟨i0, hi, hz0, hz1, hz2⟩ : ∃ i0, prog.info? 3 = some i0 ∧ i0.zero = some (.int .i64 0) ∧ i0.size = 1 ∧ i0.bytes = 8 := info_parts (by kernel_rfl);unfold insV
 go_enter func35, ntmps35
 go_wp2;go_ret;exact ⟨_, rfl, World.ownsRow_nil _ _ _ _, by simp, (by repeat (first | with_reducible exact Below.refl _ _ | with_reducible refine bel_alloc ?_ _ | with_reducible refine bel_set ?_ (by first | exact Nat.le_refl _ | (simp; done) | (simp; omega)) _ | with_reducible refine Below.drew ?_ | refine bel_trans ?_ (by assumption)))⟩

theorem uses13 (sub a b d k : Int) (v : Value) (s t : Int) (w : World) : Calls prog 35 #[insV 13 sub a b d k v s t] w (retO [] w) := by
 obtain ⟨i0, hi, hz0, hz1, hz2⟩ : ∃ i0, prog.info? 3 = some i0 ∧ i0.zero = some (.int .i64 0) ∧ i0.size = 1 ∧ i0.bytes = 8 := info_parts (by kernel_rfl);unfold insV
 go_enter func35, ntmps35
 go_wp2;go_ret;exact ⟨_, rfl, World.ownsRow_nil _ _ _ _, by simp, (by repeat (first | with_reducible exact Below.refl _ _ | with_reducible refine bel_alloc ?_ _ | with_reducible refine bel_set ?_ (by first | exact Nat.le_refl _ | (simp; done) | (simp; omega)) _ | with_reducible refine Below.drew ?_ | refine bel_trans ?_ (by assumption)))⟩

theorem uses3 (sub b d k : Int) (v : Value) (s t : Int) (w : World) : Calls prog 35 #[insV 3 sub (-1) b d k v s t] w (retO [] w) := by
 obtain ⟨i0, hi, hz0, hz1, hz2⟩ : ∃ i0, prog.info? 3 = some i0 ∧ i0.zero = some (.int .i64 0) ∧ i0.size = 1 ∧ i0.bytes = 8 := info_parts (by kernel_rfl);unfold insV
 go_enter func35, ntmps35
 go_wp2;go_ret;exact ⟨_, rfl, World.ownsRow_nil _ _ _ _, by simp, (by repeat (first | with_reducible exact Below.refl _ _ | with_reducible refine bel_alloc ?_ _ | with_reducible refine bel_set ?_ (by first | exact Nat.le_refl _ | (simp; done) | (simp; omega)) _ | with_reducible refine Below.drew ?_ | refine bel_trans ?_ (by assumption)))⟩

theorem uses3a (sub a b d k : Int) (v : Value) (s t : Int) (w : World) (ha : (a == -1) = false) (ha2 : (a != -1) = true) : Calls prog 35 #[insV 3 sub a b d k v s t] w (retO [a] w) := by
 obtain ⟨i0, hi, hz0, hz1, hz2⟩ : ∃ i0, prog.info? 3 = some i0 ∧ i0.zero = some (.int .i64 0) ∧ i0.size = 1 ∧ i0.bytes = 8 := info_parts (by kernel_rfl);unfold insV
 go_enter func35, ntmps35
 go_wp2_with (at_builtin; refine wpList_append_own _ rfl _ _ 22 rfl (w.heap.size + 1) 3 i0 (.int .i64 0) 1 8 underlying22 hi hz0 hz1 hz2 rfl (by decide) _ 0 (ints []) rfl (World.ownsRow_nil _ _ _ _) ⟨w.heap.size + 1, 0, none⟩ 1 1 [.int .i64 a] rfl rfl ?c11 ?c21 ?c31 ?c41 ?c51 ?_)
 case c11 =>
  intro j u hj
  match j, hj with
  | 0, hj => simp at hj; subst hj; simp [Addr.add]
 case c21 => intro u hu; simp at hu; subst hu; rfl
 case c31 => unfold maxLen; omega
 case c41 => omega
 case c51 => first | (simp; done) | (simp; omega)
 intro v1 w1 hown1 hgrow1 _
 have HO1 : Hid (w1.ownsRow (w.heap.size + 1) 3 1 v1 1 (ints [a])) := by
  show World.ownsRow _ _ _ _ _ _ _
  simpa [ints] using hown1
 have HB1 : Hid (Below w.heap.size w w1) := by
  show Below _ _ _
  exact (((Below.refl w.heap.size w).alloc (Nat.le_refl _) _).alloc (by simp) _).grown hgrow1 (by first | (simp; done) | (simp; omega)) (fun k hk => by simp [Value.ownBlock] at hk)
 have HX1 : Hid (Below (w.heap.size + 1) (w.alloc (.cells #[.int .i64 3, .int .i64 sub, .int .i64 a, .int .i64 b, .int .i64 d, .int .i64 k, v, .int .i64 s, .int .i64 t] 38 (0, 0))) w1) := by
  show Below _ _ _
  exact ((Below.refl (w.heap.size + 1) (w.alloc (.cells #[.int .i64 3, .int .i64 sub, .int .i64 a, .int .i64 b, .int .i64 d, .int .i64 k, v, .int .i64 s, .int .i64 t] 38 (0, 0)))).alloc (by simp) _).grown hgrow1 (by first | (simp; done) | (simp; omega)) (fun k hk => by simp [Value.ownBlock] at hk)
 have cx01 : w1.cell? ⟨w.heap.size, 0, none⟩ = some (.int .i64 3) := by rw [HX1.out.cell (p := ⟨w.heap.size, 0, none⟩) (by show w.heap.size < w.heap.size + 1; omega)]; simp
 have cx31 : w1.cell? ⟨w.heap.size, 3, none⟩ = some (.int .i64 b) := by rw [HX1.out.cell (p := ⟨w.heap.size, 3, none⟩) (by show w.heap.size < w.heap.size + 1; omega)]; simp
 have hs1 : w.heap.size + 1 ≤ w1.heap.size := by have := HX1.out.size; simp at this; omega
 clear hown1 hgrow1;go_wp2;go_ret;exact ⟨_, rfl, HO1.out, by simp, HB1.out⟩

theorem uses4 (sub b d k : Int) (v : Value) (s t : Int) (w : World) : Calls prog 35 #[insV 4 sub (-1) b d k v s t] w (retO [] w) := by
 obtain ⟨i0, hi, hz0, hz1, hz2⟩ : ∃ i0, prog.info? 3 = some i0 ∧ i0.zero = some (.int .i64 0) ∧ i0.size = 1 ∧ i0.bytes = 8 := info_parts (by kernel_rfl);unfold insV
 go_enter func35, ntmps35
 go_wp2;go_ret;exact ⟨_, rfl, World.ownsRow_nil _ _ _ _, by simp, (by repeat (first | with_reducible exact Below.refl _ _ | with_reducible refine bel_alloc ?_ _ | with_reducible refine bel_set ?_ (by first | exact Nat.le_refl _ | (simp; done) | (simp; omega)) _ | with_reducible refine Below.drew ?_ | refine bel_trans ?_ (by assumption)))⟩

theorem uses4a (sub a b d k : Int) (v : Value) (s t : Int) (w : World) (ha : (a == -1) = false) (ha2 : (a != -1) = true) : Calls prog 35 #[insV 4 sub a b d k v s t] w (retO [a] w) := by
 obtain ⟨i0, hi, hz0, hz1, hz2⟩ : ∃ i0, prog.info? 3 = some i0 ∧ i0.zero = some (.int .i64 0) ∧ i0.size = 1 ∧ i0.bytes = 8 := info_parts (by kernel_rfl);unfold insV
 go_enter func35, ntmps35
 go_wp2_with (at_builtin; refine wpList_append_own _ rfl _ _ 22 rfl (w.heap.size + 1) 3 i0 (.int .i64 0) 1 8 underlying22 hi hz0 hz1 hz2 rfl (by decide) _ 0 (ints []) rfl (World.ownsRow_nil _ _ _ _) ⟨w.heap.size + 1, 0, none⟩ 1 1 [.int .i64 a] rfl rfl ?c11 ?c21 ?c31 ?c41 ?c51 ?_)
 case c11 =>
  intro j u hj
  match j, hj with
  | 0, hj => simp at hj; subst hj; simp [Addr.add]
 case c21 => intro u hu; simp at hu; subst hu; rfl
 case c31 => unfold maxLen; omega
 case c41 => omega
 case c51 => first | (simp; done) | (simp; omega)
 intro v1 w1 hown1 hgrow1 _
 have HO1 : Hid (w1.ownsRow (w.heap.size + 1) 3 1 v1 1 (ints [a])) := by
  show World.ownsRow _ _ _ _ _ _ _
  simpa [ints] using hown1
 have HB1 : Hid (Below w.heap.size w w1) := by
  show Below _ _ _
  exact (((Below.refl w.heap.size w).alloc (Nat.le_refl _) _).alloc (by simp) _).grown hgrow1 (by first | (simp; done) | (simp; omega)) (fun k hk => by simp [Value.ownBlock] at hk)
 have HX1 : Hid (Below (w.heap.size + 1) (w.alloc (.cells #[.int .i64 4, .int .i64 sub, .int .i64 a, .int .i64 b, .int .i64 d, .int .i64 k, v, .int .i64 s, .int .i64 t] 38 (0, 0))) w1) := by
  show Below _ _ _
  exact ((Below.refl (w.heap.size + 1) (w.alloc (.cells #[.int .i64 4, .int .i64 sub, .int .i64 a, .int .i64 b, .int .i64 d, .int .i64 k, v, .int .i64 s, .int .i64 t] 38 (0, 0)))).alloc (by simp) _).grown hgrow1 (by first | (simp; done) | (simp; omega)) (fun k hk => by simp [Value.ownBlock] at hk)
 have cx01 : w1.cell? ⟨w.heap.size, 0, none⟩ = some (.int .i64 4) := by rw [HX1.out.cell (p := ⟨w.heap.size, 0, none⟩) (by show w.heap.size < w.heap.size + 1; omega)]; simp
 have cx31 : w1.cell? ⟨w.heap.size, 3, none⟩ = some (.int .i64 b) := by rw [HX1.out.cell (p := ⟨w.heap.size, 3, none⟩) (by show w.heap.size < w.heap.size + 1; omega)]; simp
 have hs1 : w.heap.size + 1 ≤ w1.heap.size := by have := HX1.out.size; simp at this; omega
 clear hown1 hgrow1;go_wp2;go_ret;exact ⟨_, rfl, HO1.out, by simp, HB1.out⟩

theorem uses6 (sub b d k : Int) (v : Value) (s t : Int) (w : World) : Calls prog 35 #[insV 6 sub (-1) b d k v s t] w (retO [] w) := by
 obtain ⟨i0, hi, hz0, hz1, hz2⟩ : ∃ i0, prog.info? 3 = some i0 ∧ i0.zero = some (.int .i64 0) ∧ i0.size = 1 ∧ i0.bytes = 8 := info_parts (by kernel_rfl);unfold insV
 go_enter func35, ntmps35
 go_wp2;go_ret;exact ⟨_, rfl, World.ownsRow_nil _ _ _ _, by simp, (by repeat (first | with_reducible exact Below.refl _ _ | with_reducible refine bel_alloc ?_ _ | with_reducible refine bel_set ?_ (by first | exact Nat.le_refl _ | (simp; done) | (simp; omega)) _ | with_reducible refine Below.drew ?_ | refine bel_trans ?_ (by assumption)))⟩

theorem uses6a (sub a b d k : Int) (v : Value) (s t : Int) (w : World) (ha : (a == -1) = false) (ha2 : (a != -1) = true) : Calls prog 35 #[insV 6 sub a b d k v s t] w (retO [a] w) := by
 obtain ⟨i0, hi, hz0, hz1, hz2⟩ : ∃ i0, prog.info? 3 = some i0 ∧ i0.zero = some (.int .i64 0) ∧ i0.size = 1 ∧ i0.bytes = 8 := info_parts (by kernel_rfl);unfold insV
 go_enter func35, ntmps35
 go_wp2_with (at_builtin; refine wpList_append_own _ rfl _ _ 22 rfl (w.heap.size + 1) 3 i0 (.int .i64 0) 1 8 underlying22 hi hz0 hz1 hz2 rfl (by decide) _ 0 (ints []) rfl (World.ownsRow_nil _ _ _ _) ⟨w.heap.size + 1, 0, none⟩ 1 1 [.int .i64 a] rfl rfl ?c11 ?c21 ?c31 ?c41 ?c51 ?_)
 case c11 =>
  intro j u hj
  match j, hj with
  | 0, hj => simp at hj; subst hj; simp [Addr.add]
 case c21 => intro u hu; simp at hu; subst hu; rfl
 case c31 => unfold maxLen; omega
 case c41 => omega
 case c51 => first | (simp; done) | (simp; omega)
 intro v1 w1 hown1 hgrow1 _
 have HO1 : Hid (w1.ownsRow (w.heap.size + 1) 3 1 v1 1 (ints [a])) := by
  show World.ownsRow _ _ _ _ _ _ _
  simpa [ints] using hown1
 have HB1 : Hid (Below w.heap.size w w1) := by
  show Below _ _ _
  exact (((Below.refl w.heap.size w).alloc (Nat.le_refl _) _).alloc (by simp) _).grown hgrow1 (by first | (simp; done) | (simp; omega)) (fun k hk => by simp [Value.ownBlock] at hk)
 have HX1 : Hid (Below (w.heap.size + 1) (w.alloc (.cells #[.int .i64 6, .int .i64 sub, .int .i64 a, .int .i64 b, .int .i64 d, .int .i64 k, v, .int .i64 s, .int .i64 t] 38 (0, 0))) w1) := by
  show Below _ _ _
  exact ((Below.refl (w.heap.size + 1) (w.alloc (.cells #[.int .i64 6, .int .i64 sub, .int .i64 a, .int .i64 b, .int .i64 d, .int .i64 k, v, .int .i64 s, .int .i64 t] 38 (0, 0)))).alloc (by simp) _).grown hgrow1 (by first | (simp; done) | (simp; omega)) (fun k hk => by simp [Value.ownBlock] at hk)
 have cx01 : w1.cell? ⟨w.heap.size, 0, none⟩ = some (.int .i64 6) := by rw [HX1.out.cell (p := ⟨w.heap.size, 0, none⟩) (by show w.heap.size < w.heap.size + 1; omega)]; simp
 have cx31 : w1.cell? ⟨w.heap.size, 3, none⟩ = some (.int .i64 b) := by rw [HX1.out.cell (p := ⟨w.heap.size, 3, none⟩) (by show w.heap.size < w.heap.size + 1; omega)]; simp
 have hs1 : w.heap.size + 1 ≤ w1.heap.size := by have := HX1.out.size; simp at this; omega
 clear hown1 hgrow1;go_wp2;go_ret;exact ⟨_, rfl, HO1.out, by simp, HB1.out⟩

theorem uses12 (sub b d k : Int) (v : Value) (s t : Int) (w : World) : Calls prog 35 #[insV 12 sub (-1) b d k v s t] w (retO [] w) := by
 obtain ⟨i0, hi, hz0, hz1, hz2⟩ : ∃ i0, prog.info? 3 = some i0 ∧ i0.zero = some (.int .i64 0) ∧ i0.size = 1 ∧ i0.bytes = 8 := info_parts (by kernel_rfl);unfold insV
 go_enter func35, ntmps35
 go_wp2;go_ret;exact ⟨_, rfl, World.ownsRow_nil _ _ _ _, by simp, (by repeat (first | with_reducible exact Below.refl _ _ | with_reducible refine bel_alloc ?_ _ | with_reducible refine bel_set ?_ (by first | exact Nat.le_refl _ | (simp; done) | (simp; omega)) _ | with_reducible refine Below.drew ?_ | refine bel_trans ?_ (by assumption)))⟩

theorem uses12a (sub a b d k : Int) (v : Value) (s t : Int) (w : World) (ha : (a == -1) = false) (ha2 : (a != -1) = true) : Calls prog 35 #[insV 12 sub a b d k v s t] w (retO [a] w) := by
 obtain ⟨i0, hi, hz0, hz1, hz2⟩ : ∃ i0, prog.info? 3 = some i0 ∧ i0.zero = some (.int .i64 0) ∧ i0.size = 1 ∧ i0.bytes = 8 := info_parts (by kernel_rfl);unfold insV
 go_enter func35, ntmps35
 go_wp2_with (at_builtin; refine wpList_append_own _ rfl _ _ 22 rfl (w.heap.size + 1) 3 i0 (.int .i64 0) 1 8 underlying22 hi hz0 hz1 hz2 rfl (by decide) _ 0 (ints []) rfl (World.ownsRow_nil _ _ _ _) ⟨w.heap.size + 1, 0, none⟩ 1 1 [.int .i64 a] rfl rfl ?c11 ?c21 ?c31 ?c41 ?c51 ?_)
 case c11 =>
  intro j u hj
  match j, hj with
  | 0, hj => simp at hj; subst hj; simp [Addr.add]
 case c21 => intro u hu; simp at hu; subst hu; rfl
 case c31 => unfold maxLen; omega
 case c41 => omega
 case c51 => first | (simp; done) | (simp; omega)
 intro v1 w1 hown1 hgrow1 _
 have HO1 : Hid (w1.ownsRow (w.heap.size + 1) 3 1 v1 1 (ints [a])) := by
  show World.ownsRow _ _ _ _ _ _ _
  simpa [ints] using hown1
 have HB1 : Hid (Below w.heap.size w w1) := by
  show Below _ _ _
  exact (((Below.refl w.heap.size w).alloc (Nat.le_refl _) _).alloc (by simp) _).grown hgrow1 (by first | (simp; done) | (simp; omega)) (fun k hk => by simp [Value.ownBlock] at hk)
 have HX1 : Hid (Below (w.heap.size + 1) (w.alloc (.cells #[.int .i64 12, .int .i64 sub, .int .i64 a, .int .i64 b, .int .i64 d, .int .i64 k, v, .int .i64 s, .int .i64 t] 38 (0, 0))) w1) := by
  show Below _ _ _
  exact ((Below.refl (w.heap.size + 1) (w.alloc (.cells #[.int .i64 12, .int .i64 sub, .int .i64 a, .int .i64 b, .int .i64 d, .int .i64 k, v, .int .i64 s, .int .i64 t] 38 (0, 0)))).alloc (by simp) _).grown hgrow1 (by first | (simp; done) | (simp; omega)) (fun k hk => by simp [Value.ownBlock] at hk)
 have cx01 : w1.cell? ⟨w.heap.size, 0, none⟩ = some (.int .i64 12) := by rw [HX1.out.cell (p := ⟨w.heap.size, 0, none⟩) (by show w.heap.size < w.heap.size + 1; omega)]; simp
 have cx31 : w1.cell? ⟨w.heap.size, 3, none⟩ = some (.int .i64 b) := by rw [HX1.out.cell (p := ⟨w.heap.size, 3, none⟩) (by show w.heap.size < w.heap.size + 1; omega)]; simp
 have hs1 : w.heap.size + 1 ≤ w1.heap.size := by have := HX1.out.size; simp at this; omega
 clear hown1 hgrow1;go_wp2;go_ret;exact ⟨_, rfl, HO1.out, by simp, HB1.out⟩

theorem uses14 (sub b d k : Int) (v : Value) (s t : Int) (w : World) : Calls prog 35 #[insV 14 sub (-1) b d k v s t] w (retO [] w) := by
 obtain ⟨i0, hi, hz0, hz1, hz2⟩ : ∃ i0, prog.info? 3 = some i0 ∧ i0.zero = some (.int .i64 0) ∧ i0.size = 1 ∧ i0.bytes = 8 := info_parts (by kernel_rfl);unfold insV
 go_enter func35, ntmps35
 go_wp2;go_ret;exact ⟨_, rfl, World.ownsRow_nil _ _ _ _, by simp, (by repeat (first | with_reducible exact Below.refl _ _ | with_reducible refine bel_alloc ?_ _ | with_reducible refine bel_set ?_ (by first | exact Nat.le_refl _ | (simp; done) | (simp; omega)) _ | with_reducible refine Below.drew ?_ | refine bel_trans ?_ (by assumption)))⟩

theorem uses14a (sub a b d k : Int) (v : Value) (s t : Int) (w : World) (ha : (a == -1) = false) (ha2 : (a != -1) = true) : Calls prog 35 #[insV 14 sub a b d k v s t] w (retO [a] w) := by
 obtain ⟨i0, hi, hz0, hz1, hz2⟩ : ∃ i0, prog.info? 3 = some i0 ∧ i0.zero = some (.int .i64 0) ∧ i0.size = 1 ∧ i0.bytes = 8 := info_parts (by kernel_rfl);unfold insV
 go_enter func35, ntmps35
 go_wp2_with (at_builtin; refine wpList_append_own _ rfl _ _ 22 rfl (w.heap.size + 1) 3 i0 (.int .i64 0) 1 8 underlying22 hi hz0 hz1 hz2 rfl (by decide) _ 0 (ints []) rfl (World.ownsRow_nil _ _ _ _) ⟨w.heap.size + 1, 0, none⟩ 1 1 [.int .i64 a] rfl rfl ?c11 ?c21 ?c31 ?c41 ?c51 ?_)
 case c11 =>
  intro j u hj
  match j, hj with
  | 0, hj => simp at hj; subst hj; simp [Addr.add]
 case c21 => intro u hu; simp at hu; subst hu; rfl
 case c31 => unfold maxLen; omega
 case c41 => omega
 case c51 => first | (simp; done) | (simp; omega)
 intro v1 w1 hown1 hgrow1 _
 have HO1 : Hid (w1.ownsRow (w.heap.size + 1) 3 1 v1 1 (ints [a])) := by
  show World.ownsRow _ _ _ _ _ _ _
  simpa [ints] using hown1
 have HB1 : Hid (Below w.heap.size w w1) := by
  show Below _ _ _
  exact (((Below.refl w.heap.size w).alloc (Nat.le_refl _) _).alloc (by simp) _).grown hgrow1 (by first | (simp; done) | (simp; omega)) (fun k hk => by simp [Value.ownBlock] at hk)
 have HX1 : Hid (Below (w.heap.size + 1) (w.alloc (.cells #[.int .i64 14, .int .i64 sub, .int .i64 a, .int .i64 b, .int .i64 d, .int .i64 k, v, .int .i64 s, .int .i64 t] 38 (0, 0))) w1) := by
  show Below _ _ _
  exact ((Below.refl (w.heap.size + 1) (w.alloc (.cells #[.int .i64 14, .int .i64 sub, .int .i64 a, .int .i64 b, .int .i64 d, .int .i64 k, v, .int .i64 s, .int .i64 t] 38 (0, 0)))).alloc (by simp) _).grown hgrow1 (by first | (simp; done) | (simp; omega)) (fun k hk => by simp [Value.ownBlock] at hk)
 have cx01 : w1.cell? ⟨w.heap.size, 0, none⟩ = some (.int .i64 14) := by rw [HX1.out.cell (p := ⟨w.heap.size, 0, none⟩) (by show w.heap.size < w.heap.size + 1; omega)]; simp
 have cx31 : w1.cell? ⟨w.heap.size, 3, none⟩ = some (.int .i64 b) := by rw [HX1.out.cell (p := ⟨w.heap.size, 3, none⟩) (by show w.heap.size < w.heap.size + 1; omega)]; simp
 have hs1 : w.heap.size + 1 ≤ w1.heap.size := by have := HX1.out.size; simp at this; omega
 clear hown1 hgrow1;go_wp2;go_ret;exact ⟨_, rfl, HO1.out, by simp, HB1.out⟩

theorem uses5 (sub d k : Int) (v : Value) (s t : Int) (w : World) : Calls prog 35 #[insV 5 sub (-1) (-1) d k v s t] w (retO [] w) := by
 obtain ⟨i0, hi, hz0, hz1, hz2⟩ : ∃ i0, prog.info? 3 = some i0 ∧ i0.zero = some (.int .i64 0) ∧ i0.size = 1 ∧ i0.bytes = 8 := info_parts (by kernel_rfl);unfold insV
 go_enter func35, ntmps35
 go_wp2;go_ret;exact ⟨_, rfl, World.ownsRow_nil _ _ _ _, by simp, (by repeat (first | with_reducible exact Below.refl _ _ | with_reducible refine bel_alloc ?_ _ | with_reducible refine bel_set ?_ (by first | exact Nat.le_refl _ | (simp; done) | (simp; omega)) _ | with_reducible refine Below.drew ?_ | refine bel_trans ?_ (by assumption)))⟩

theorem uses5b (sub b d k : Int) (v : Value) (s t : Int) (w : World) (hb : (b == -1) = false) (hb2 : (b != -1) = true) : Calls prog 35 #[insV 5 sub (-1) b d k v s t] w (retO [b] w) := by
 obtain ⟨i0, hi, hz0, hz1, hz2⟩ : ∃ i0, prog.info? 3 = some i0 ∧ i0.zero = some (.int .i64 0) ∧ i0.size = 1 ∧ i0.bytes = 8 := info_parts (by kernel_rfl);unfold insV
 go_enter func35, ntmps35
 go_wp2_with (at_builtin; refine wpList_append_own _ rfl _ _ 22 rfl (w.heap.size + 1) 3 i0 (.int .i64 0) 1 8 underlying22 hi hz0 hz1 hz2 rfl (by decide) _ 0 (ints []) rfl (World.ownsRow_nil _ _ _ _) ⟨w.heap.size + 1, 0, none⟩ 1 1 [.int .i64 b] rfl rfl ?c11 ?c21 ?c31 ?c41 ?c51 ?_)
 case c11 =>
  intro j u hj
  match j, hj with
  | 0, hj => simp at hj; subst hj; simp [Addr.add]
 case c21 => intro u hu; simp at hu; subst hu; rfl
 case c31 => unfold maxLen; omega
 case c41 => omega
 case c51 => first | (simp; done) | (simp; omega)
 intro v1 w1 hown1 hgrow1 _
 have HO1 : Hid (w1.ownsRow (w.heap.size + 1) 3 1 v1 1 (ints [b])) := by
  show World.ownsRow _ _ _ _ _ _ _
  simpa [ints] using hown1
 have HB1 : Hid (Below w.heap.size w w1) := by
  show Below _ _ _
  exact (((Below.refl w.heap.size w).alloc (Nat.le_refl _) _).alloc (by simp) _).grown hgrow1 (by first | (simp; done) | (simp; omega)) (fun k hk => by simp [Value.ownBlock] at hk)
 have HX1 : Hid (Below (w.heap.size + 1) (w.alloc (.cells #[.int .i64 5, .int .i64 sub, .int .i64 (-1), .int .i64 b, .int .i64 d, .int .i64 k, v, .int .i64 s, .int .i64 t] 38 (0, 0))) w1) := by
  show Below _ _ _
  exact ((Below.refl (w.heap.size + 1) (w.alloc (.cells #[.int .i64 5, .int .i64 sub, .int .i64 (-1), .int .i64 b, .int .i64 d, .int .i64 k, v, .int .i64 s, .int .i64 t] 38 (0, 0)))).alloc (by simp) _).grown hgrow1 (by first | (simp; done) | (simp; omega)) (fun k hk => by simp [Value.ownBlock] at hk)
 have cx01 : w1.cell? ⟨w.heap.size, 0, none⟩ = some (.int .i64 5) := by rw [HX1.out.cell (p := ⟨w.heap.size, 0, none⟩) (by show w.heap.size < w.heap.size + 1; omega)]; simp
 have cx31 : w1.cell? ⟨w.heap.size, 3, none⟩ = some (.int .i64 b) := by rw [HX1.out.cell (p := ⟨w.heap.size, 3, none⟩) (by show w.heap.size < w.heap.size + 1; omega)]; simp
 have hs1 : w.heap.size + 1 ≤ w1.heap.size := by have := HX1.out.size; simp at this; omega
 clear hown1 hgrow1;go_wp2;go_ret;exact ⟨_, rfl, HO1.out, by simp, HB1.out⟩

theorem uses5a (sub a d k : Int) (v : Value) (s t : Int) (w : World) (ha : (a == -1) = false) (ha2 : (a != -1) = true) : Calls prog 35 #[insV 5 sub a (-1) d k v s t] w (retO [a] w) := by
 obtain ⟨i0, hi, hz0, hz1, hz2⟩ : ∃ i0, prog.info? 3 = some i0 ∧ i0.zero = some (.int .i64 0) ∧ i0.size = 1 ∧ i0.bytes = 8 := info_parts (by kernel_rfl);unfold insV
 go_enter func35, ntmps35
 go_wp2_with (at_builtin; refine wpList_append_own _ rfl _ _ 22 rfl (w.heap.size + 1) 3 i0 (.int .i64 0) 1 8 underlying22 hi hz0 hz1 hz2 rfl (by decide) _ 0 (ints []) rfl (World.ownsRow_nil _ _ _ _) ⟨w.heap.size + 1, 0, none⟩ 1 1 [.int .i64 a] rfl rfl ?c11 ?c21 ?c31 ?c41 ?c51 ?_)
 case c11 =>
  intro j u hj
  match j, hj with
  | 0, hj => simp at hj; subst hj; simp [Addr.add]
 case c21 => intro u hu; simp at hu; subst hu; rfl
 case c31 => unfold maxLen; omega
 case c41 => omega
 case c51 => first | (simp; done) | (simp; omega)
 intro v1 w1 hown1 hgrow1 _
 have HO1 : Hid (w1.ownsRow (w.heap.size + 1) 3 1 v1 1 (ints [a])) := by
  show World.ownsRow _ _ _ _ _ _ _
  simpa [ints] using hown1
 have HB1 : Hid (Below w.heap.size w w1) := by
  show Below _ _ _
  exact (((Below.refl w.heap.size w).alloc (Nat.le_refl _) _).alloc (by simp) _).grown hgrow1 (by first | (simp; done) | (simp; omega)) (fun k hk => by simp [Value.ownBlock] at hk)
 have HX1 : Hid (Below (w.heap.size + 1) (w.alloc (.cells #[.int .i64 5, .int .i64 sub, .int .i64 a, .int .i64 (-1), .int .i64 d, .int .i64 k, v, .int .i64 s, .int .i64 t] 38 (0, 0))) w1) := by
  show Below _ _ _
  exact ((Below.refl (w.heap.size + 1) (w.alloc (.cells #[.int .i64 5, .int .i64 sub, .int .i64 a, .int .i64 (-1), .int .i64 d, .int .i64 k, v, .int .i64 s, .int .i64 t] 38 (0, 0)))).alloc (by simp) _).grown hgrow1 (by first | (simp; done) | (simp; omega)) (fun k hk => by simp [Value.ownBlock] at hk)
 have cx01 : w1.cell? ⟨w.heap.size, 0, none⟩ = some (.int .i64 5) := by rw [HX1.out.cell (p := ⟨w.heap.size, 0, none⟩) (by show w.heap.size < w.heap.size + 1; omega)]; simp
 have cx31 : w1.cell? ⟨w.heap.size, 3, none⟩ = some (.int .i64 (-1)) := by rw [HX1.out.cell (p := ⟨w.heap.size, 3, none⟩) (by show w.heap.size < w.heap.size + 1; omega)]; simp
 have hs1 : w.heap.size + 1 ≤ w1.heap.size := by have := HX1.out.size; simp at this; omega
 clear hown1 hgrow1;go_wp2;go_ret;exact ⟨_, rfl, HO1.out, by simp, HB1.out⟩

theorem uses5ab (sub a b d k : Int) (v : Value) (s t : Int) (w : World) (ha : (a == -1) = false) (ha2 : (a != -1) = true) (hb : (b == -1) = false) (hb2 : (b != -1) = true) : Calls prog 35 #[insV 5 sub a b d k v s t] w (retO [a, b] w) := by
 obtain ⟨i0, hi, hz0, hz1, hz2⟩ : ∃ i0, prog.info? 3 = some i0 ∧ i0.zero = some (.int .i64 0) ∧ i0.size = 1 ∧ i0.bytes = 8 := info_parts (by kernel_rfl);unfold insV
 go_enter func35, ntmps35
 go_wp2_with (at_builtin; refine wpList_append_own _ rfl _ _ 22 rfl (w.heap.size + 1) 3 i0 (.int .i64 0) 1 8 underlying22 hi hz0 hz1 hz2 rfl (by decide) _ 0 (ints []) rfl (World.ownsRow_nil _ _ _ _) ⟨w.heap.size + 1, 0, none⟩ 1 1 [.int .i64 a] rfl rfl ?c11 ?c21 ?c31 ?c41 ?c51 ?_)
 case c11 =>
  intro j u hj
  match j, hj with
  | 0, hj => simp at hj; subst hj; simp [Addr.add]
 case c21 => intro u hu; simp at hu; subst hu; rfl
 case c31 => unfold maxLen; omega
 case c41 => omega
 case c51 => first | (simp; done) | (simp; omega)
 intro v1 w1 hown1 hgrow1 _
 have HO1 : Hid (w1.ownsRow (w.heap.size + 1) 3 1 v1 1 (ints [a])) := by
  show World.ownsRow _ _ _ _ _ _ _
  simpa [ints] using hown1
 have HB1 : Hid (Below w.heap.size w w1) := by
  show Below _ _ _
  exact (((Below.refl w.heap.size w).alloc (Nat.le_refl _) _).alloc (by simp) _).grown hgrow1 (by first | (simp; done) | (simp; omega)) (fun k hk => by simp [Value.ownBlock] at hk)
 have HX1 : Hid (Below (w.heap.size + 1) (w.alloc (.cells #[.int .i64 5, .int .i64 sub, .int .i64 a, .int .i64 b, .int .i64 d, .int .i64 k, v, .int .i64 s, .int .i64 t] 38 (0, 0))) w1) := by
  show Below _ _ _
  exact ((Below.refl (w.heap.size + 1) (w.alloc (.cells #[.int .i64 5, .int .i64 sub, .int .i64 a, .int .i64 b, .int .i64 d, .int .i64 k, v, .int .i64 s, .int .i64 t] 38 (0, 0)))).alloc (by simp) _).grown hgrow1 (by first | (simp; done) | (simp; omega)) (fun k hk => by simp [Value.ownBlock] at hk)
 have cx01 : w1.cell? ⟨w.heap.size, 0, none⟩ = some (.int .i64 5) := by rw [HX1.out.cell (p := ⟨w.heap.size, 0, none⟩) (by show w.heap.size < w.heap.size + 1; omega)]; simp
 have cx31 : w1.cell? ⟨w.heap.size, 3, none⟩ = some (.int .i64 b) := by rw [HX1.out.cell (p := ⟨w.heap.size, 3, none⟩) (by show w.heap.size < w.heap.size + 1; omega)]; simp
 have hs1 : w.heap.size + 1 ≤ w1.heap.size := by have := HX1.out.size; simp at this; omega
 clear hown1 hgrow1
 go_wp2_with (at_builtin; refine wpList_append_own _ rfl _ _ 22 rfl (w.heap.size + 1) 3 i0 (.int .i64 0) 1 8 underlying22 hi hz0 hz1 hz2 rfl (by decide) _ 1 (ints [a]) rfl (World.ownsRow.alloc HO1.out _) ⟨w1.heap.size, 0, none⟩ 1 1 [.int .i64 b] rfl rfl ?c12 ?c22 ?c32 ?c42 ?c52 ?_)
 case c12 =>
  intro j u hj
  match j, hj with
  | 0, hj => simp at hj; subst hj; simp [Addr.add]
 case c22 => intro u hu; simp at hu; subst hu; rfl
 case c32 => unfold maxLen; omega
 case c42 => omega
 case c52 => first | (simp; done) | (simp; omega)
 intro v2 w2 hown2 hgrow2 _
 have HO2 : Hid (w2.ownsRow (w.heap.size + 1) 3 1 v2 2 (ints [a, b])) := by
  show World.ownsRow _ _ _ _ _ _ _
  simpa [ints] using hown2
 have HB2 : Hid (Below w.heap.size w w2) := by
  show Below _ _ _
  exact (HB1.out.alloc (by omega) _).grown hgrow2 (by first | (simp; done) | (simp; omega)) (fun k hk => by have := (HO1.out.lt k hk).1; omega)
 have HX2 : Hid (Below (w.heap.size + 1) (w.alloc (.cells #[.int .i64 5, .int .i64 sub, .int .i64 a, .int .i64 b, .int .i64 d, .int .i64 k, v, .int .i64 s, .int .i64 t] 38 (0, 0))) w2) := by
  show Below _ _ _
  exact (HX1.out.alloc (by omega) _).grown hgrow2 (by first | (simp; done) | (simp; omega)) (fun k hk => (HO1.out.lt k hk).1)
 have cx02 : w2.cell? ⟨w.heap.size, 0, none⟩ = some (.int .i64 5) := by rw [HX2.out.cell (p := ⟨w.heap.size, 0, none⟩) (by show w.heap.size < w.heap.size + 1; omega)]; simp
 have cx32 : w2.cell? ⟨w.heap.size, 3, none⟩ = some (.int .i64 b) := by rw [HX2.out.cell (p := ⟨w.heap.size, 3, none⟩) (by show w.heap.size < w.heap.size + 1; omega)]; simp
 have hs2 : w.heap.size + 1 ≤ w2.heap.size := by have := HX2.out.size; simp at this; omega
 clear hown2 hgrow2;go_wp2;go_ret;exact ⟨_, rfl, HO2.out, by simp, HB2.out⟩

theorem uses7 (sub d k : Int) (v : Value) (s t : Int) (w : World) : Calls prog 35 #[insV 7 sub (-1) (-1) d k v s t] w (retO [] w) := by
 obtain ⟨i0, hi, hz0, hz1, hz2⟩ : ∃ i0, prog.info? 3 = some i0 ∧ i0.zero = some (.int .i64 0) ∧ i0.size = 1 ∧ i0.bytes = 8 := info_parts (by kernel_rfl);unfold insV
 go_enter func35, ntmps35
 go_wp2;go_ret;exact ⟨_, rfl, World.ownsRow_nil _ _ _ _, by simp, (by repeat (first | with_reducible exact Below.refl _ _ | with_reducible refine bel_alloc ?_ _ | with_reducible refine bel_set ?_ (by first | exact Nat.le_refl _ | (simp; done) | (simp; omega)) _ | with_reducible refine Below.drew ?_ | refine bel_trans ?_ (by assumption)))⟩

theorem uses7b (sub b d k : Int) (v : Value) (s t : Int) (w : World) (hb : (b == -1) = false) (hb2 : (b != -1) = true) : Calls prog 35 #[insV 7 sub (-1) b d k v s t] w (retO [b] w) := by
 obtain ⟨i0, hi, hz0, hz1, hz2⟩ : ∃ i0, prog.info? 3 = some i0 ∧ i0.zero = some (.int .i64 0) ∧ i0.size = 1 ∧ i0.bytes = 8 := info_parts (by kernel_rfl);unfold insV
 go_enter func35, ntmps35
 go_wp2_with (at_builtin; refine wpList_append_own _ rfl _ _ 22 rfl (w.heap.size + 1) 3 i0 (.int .i64 0) 1 8 underlying22 hi hz0 hz1 hz2 rfl (by decide) _ 0 (ints []) rfl (World.ownsRow_nil _ _ _ _) ⟨w.heap.size + 1, 0, none⟩ 1 1 [.int .i64 b] rfl rfl ?c11 ?c21 ?c31 ?c41 ?c51 ?_)
 case c11 =>
  intro j u hj
  match j, hj with
  | 0, hj => simp at hj; subst hj; simp [Addr.add]
 case c21 => intro u hu; simp at hu; subst hu; rfl
 case c31 => unfold maxLen; omega
 case c41 => omega
 case c51 => first | (simp; done) | (simp; omega)
 intro v1 w1 hown1 hgrow1 _
 have HO1 : Hid (w1.ownsRow (w.heap.size + 1) 3 1 v1 1 (ints [b])) := by
  show World.ownsRow _ _ _ _ _ _ _
  simpa [ints] using hown1
 have HB1 : Hid (Below w.heap.size w w1) := by
  show Below _ _ _
  exact (((Below.refl w.heap.size w).alloc (Nat.le_refl _) _).alloc (by simp) _).grown hgrow1 (by first | (simp; done) | (simp; omega)) (fun k hk => by simp [Value.ownBlock] at hk)
 have HX1 : Hid (Below (w.heap.size + 1) (w.alloc (.cells #[.int .i64 7, .int .i64 sub, .int .i64 (-1), .int .i64 b, .int .i64 d, .int .i64 k, v, .int .i64 s, .int .i64 t] 38 (0, 0))) w1) := by
  show Below _ _ _
  exact ((Below.refl (w.heap.size + 1) (w.alloc (.cells #[.int .i64 7, .int .i64 sub, .int .i64 (-1), .int .i64 b, .int .i64 d, .int .i64 k, v, .int .i64 s, .int .i64 t] 38 (0, 0)))).alloc (by simp) _).grown hgrow1 (by first | (simp; done) | (simp; omega)) (fun k hk => by simp [Value.ownBlock] at hk)
 have cx01 : w1.cell? ⟨w.heap.size, 0, none⟩ = some (.int .i64 7) := by rw [HX1.out.cell (p := ⟨w.heap.size, 0, none⟩) (by show w.heap.size < w.heap.size + 1; omega)]; simp
 have cx31 : w1.cell? ⟨w.heap.size, 3, none⟩ = some (.int .i64 b) := by rw [HX1.out.cell (p := ⟨w.heap.size, 3, none⟩) (by show w.heap.size < w.heap.size + 1; omega)]; simp
 have hs1 : w.heap.size + 1 ≤ w1.heap.size := by have := HX1.out.size; simp at this; omega
 clear hown1 hgrow1;go_wp2;go_ret;exact ⟨_, rfl, HO1.out, by simp, HB1.out⟩

theorem uses7a (sub a d k : Int) (v : Value) (s t : Int) (w : World) (ha : (a == -1) = false) (ha2 : (a != -1) = true) : Calls prog 35 #[insV 7 sub a (-1) d k v s t] w (retO [a] w) := by
 obtain ⟨i0, hi, hz0, hz1, hz2⟩ : ∃ i0, prog.info? 3 = some i0 ∧ i0.zero = some (.int .i64 0) ∧ i0.size = 1 ∧ i0.bytes = 8 := info_parts (by kernel_rfl);unfold insV
 go_enter func35, ntmps35
 go_wp2_with (at_builtin; refine wpList_append_own _ rfl _ _ 22 rfl (w.heap.size + 1) 3 i0 (.int .i64 0) 1 8 underlying22 hi hz0 hz1 hz2 rfl (by decide) _ 0 (ints []) rfl (World.ownsRow_nil _ _ _ _) ⟨w.heap.size + 1, 0, none⟩ 1 1 [.int .i64 a] rfl rfl ?c11 ?c21 ?c31 ?c41 ?c51 ?_)
 case c11 =>
  intro j u hj
  match j, hj with
  | 0, hj => simp at hj; subst hj; simp [Addr.add]
 case c21 => intro u hu; simp at hu; subst hu; rfl
 case c31 => unfold maxLen; omega
 case c41 => omega
 case c51 => first | (simp; done) | (simp; omega)
 intro v1 w1 hown1 hgrow1 _
 have HO1 : Hid (w1.ownsRow (w.heap.size + 1) 3 1 v1 1 (ints [a])) := by
  show World.ownsRow _ _ _ _ _ _ _
  simpa [ints] using hown1
 have HB1 : Hid (Below w.heap.size w w1) := by
  show Below _ _ _
  exact (((Below.refl w.heap.size w).alloc (Nat.le_refl _) _).alloc (by simp) _).grown hgrow1 (by first | (simp; done) | (simp; omega)) (fun k hk => by simp [Value.ownBlock] at hk)
 have HX1 : Hid (Below (w.heap.size + 1) (w.alloc (.cells #[.int .i64 7, .int .i64 sub, .int .i64 a, .int .i64 (-1), .int .i64 d, .int .i64 k, v, .int .i64 s, .int .i64 t] 38 (0, 0))) w1) := by
  show Below _ _ _
  exact ((Below.refl (w.heap.size + 1) (w.alloc (.cells #[.int .i64 7, .int .i64 sub, .int .i64 a, .int .i64 (-1), .int .i64 d, .int .i64 k, v, .int .i64 s, .int .i64 t] 38 (0, 0)))).alloc (by simp) _).grown hgrow1 (by first | (simp; done) | (simp; omega)) (fun k hk => by simp [Value.ownBlock] at hk)
 have cx01 : w1.cell? ⟨w.heap.size, 0, none⟩ = some (.int .i64 7) := by rw [HX1.out.cell (p := ⟨w.heap.size, 0, none⟩) (by show w.heap.size < w.heap.size + 1; omega)]; simp
 have cx31 : w1.cell? ⟨w.heap.size, 3, none⟩ = some (.int .i64 (-1)) := by rw [HX1.out.cell (p := ⟨w.heap.size, 3, none⟩) (by show w.heap.size < w.heap.size + 1; omega)]; simp
 have hs1 : w.heap.size + 1 ≤ w1.heap.size := by have := HX1.out.size; simp at this; omega
 clear hown1 hgrow1;go_wp2;go_ret;exact ⟨_, rfl, HO1.out, by simp, HB1.out⟩

theorem uses7ab (sub a b d k : Int) (v : Value) (s t : Int) (w : World) (ha : (a == -1) = false) (ha2 : (a != -1) = true) (hb : (b == -1) = false) (hb2 : (b != -1) = true) : Calls prog 35 #[insV 7 sub a b d k v s t] w (retO [a, b] w) := by
 obtain ⟨i0, hi, hz0, hz1, hz2⟩ : ∃ i0, prog.info? 3 = some i0 ∧ i0.zero = some (.int .i64 0) ∧ i0.size = 1 ∧ i0.bytes = 8 := info_parts (by kernel_rfl);unfold insV
 go_enter func35, ntmps35
 go_wp2_with (at_builtin; refine wpList_append_own _ rfl _ _ 22 rfl (w.heap.size + 1) 3 i0 (.int .i64 0) 1 8 underlying22 hi hz0 hz1 hz2 rfl (by decide) _ 0 (ints []) rfl (World.ownsRow_nil _ _ _ _) ⟨w.heap.size + 1, 0, none⟩ 1 1 [.int .i64 a] rfl rfl ?c11 ?c21 ?c31 ?c41 ?c51 ?_)
 case c11 =>
  intro j u hj
  match j, hj with
  | 0, hj => simp at hj; subst hj; simp [Addr.add]
 case c21 => intro u hu; simp at hu; subst hu; rfl
 case c31 => unfold maxLen; omega
 case c41 => omega
 case c51 => first | (simp; done) | (simp; omega)
 intro v1 w1 hown1 hgrow1 _
 have HO1 : Hid (w1.ownsRow (w.heap.size + 1) 3 1 v1 1 (ints [a])) := by
  show World.ownsRow _ _ _ _ _ _ _
  simpa [ints] using hown1
 have HB1 : Hid (Below w.heap.size w w1) := by
  show Below _ _ _
  exact (((Below.refl w.heap.size w).alloc (Nat.le_refl _) _).alloc (by simp) _).grown hgrow1 (by first | (simp; done) | (simp; omega)) (fun k hk => by simp [Value.ownBlock] at hk)
 have HX1 : Hid (Below (w.heap.size + 1) (w.alloc (.cells #[.int .i64 7, .int .i64 sub, .int .i64 a, .int .i64 b, .int .i64 d, .int .i64 k, v, .int .i64 s, .int .i64 t] 38 (0, 0))) w1) := by
  show Below _ _ _
  exact ((Below.refl (w.heap.size + 1) (w.alloc (.cells #[.int .i64 7, .int .i64 sub, .int .i64 a, .int .i64 b, .int .i64 d, .int .i64 k, v, .int .i64 s, .int .i64 t] 38 (0, 0)))).alloc (by simp) _).grown hgrow1 (by first | (simp; done) | (simp; omega)) (fun k hk => by simp [Value.ownBlock] at hk)
 have cx01 : w1.cell? ⟨w.heap.size, 0, none⟩ = some (.int .i64 7) := by rw [HX1.out.cell (p := ⟨w.heap.size, 0, none⟩) (by show w.heap.size < w.heap.size + 1; omega)]; simp
 have cx31 : w1.cell? ⟨w.heap.size, 3, none⟩ = some (.int .i64 b) := by rw [HX1.out.cell (p := ⟨w.heap.size, 3, none⟩) (by show w.heap.size < w.heap.size + 1; omega)]; simp
 have hs1 : w.heap.size + 1 ≤ w1.heap.size := by have := HX1.out.size; simp at this; omega
 clear hown1 hgrow1
 go_wp2_with (at_builtin; refine wpList_append_own _ rfl _ _ 22 rfl (w.heap.size + 1) 3 i0 (.int .i64 0) 1 8 underlying22 hi hz0 hz1 hz2 rfl (by decide) _ 1 (ints [a]) rfl (World.ownsRow.alloc HO1.out _) ⟨w1.heap.size, 0, none⟩ 1 1 [.int .i64 b] rfl rfl ?c12 ?c22 ?c32 ?c42 ?c52 ?_)
 case c12 =>
  intro j u hj
  match j, hj with
  | 0, hj => simp at hj; subst hj; simp [Addr.add]
 case c22 => intro u hu; simp at hu; subst hu; rfl
 case c32 => unfold maxLen; omega
 case c42 => omega
 case c52 => first | (simp; done) | (simp; omega)
 intro v2 w2 hown2 hgrow2 _
 have HO2 : Hid (w2.ownsRow (w.heap.size + 1) 3 1 v2 2 (ints [a, b])) := by
  show World.ownsRow _ _ _ _ _ _ _
  simpa [ints] using hown2
 have HB2 : Hid (Below w.heap.size w w2) := by
  show Below _ _ _
  exact (HB1.out.alloc (by omega) _).grown hgrow2 (by first | (simp; done) | (simp; omega)) (fun k hk => by have := (HO1.out.lt k hk).1; omega)
 have HX2 : Hid (Below (w.heap.size + 1) (w.alloc (.cells #[.int .i64 7, .int .i64 sub, .int .i64 a, .int .i64 b, .int .i64 d, .int .i64 k, v, .int .i64 s, .int .i64 t] 38 (0, 0))) w2) := by
  show Below _ _ _
  exact (HX1.out.alloc (by omega) _).grown hgrow2 (by first | (simp; done) | (simp; omega)) (fun k hk => (HO1.out.lt k hk).1)
 have cx02 : w2.cell? ⟨w.heap.size, 0, none⟩ = some (.int .i64 7) := by rw [HX2.out.cell (p := ⟨w.heap.size, 0, none⟩) (by show w.heap.size < w.heap.size + 1; omega)]; simp
 have cx32 : w2.cell? ⟨w.heap.size, 3, none⟩ = some (.int .i64 b) := by rw [HX2.out.cell (p := ⟨w.heap.size, 3, none⟩) (by show w.heap.size < w.heap.size + 1; omega)]; simp
 have hs2 : w.heap.size + 1 ≤ w2.heap.size := by have := HX2.out.size; simp at this; omega
 clear hown2 hgrow2;go_wp2;go_ret;exact ⟨_, rfl, HO2.out, by simp, HB2.out⟩

theorem uses11 (sub d k : Int) (v : Value) (s t : Int) (w : World) : Calls prog 35 #[insV 11 sub (-1) (-1) d k v s t] w (retO [] w) := by
 obtain ⟨i0, hi, hz0, hz1, hz2⟩ : ∃ i0, prog.info? 3 = some i0 ∧ i0.zero = some (.int .i64 0) ∧ i0.size = 1 ∧ i0.bytes = 8 := info_parts (by kernel_rfl);unfold insV
 go_enter func35, ntmps35
 go_wp2;go_ret;exact ⟨_, rfl, World.ownsRow_nil _ _ _ _, by simp, (by repeat (first | with_reducible exact Below.refl _ _ | with_reducible refine bel_alloc ?_ _ | with_reducible refine bel_set ?_ (by first | exact Nat.le_refl _ | (simp; done) | (simp; omega)) _ | with_reducible refine Below.drew ?_ | refine bel_trans ?_ (by assumption)))⟩

theorem uses11b (sub b d k : Int) (v : Value) (s t : Int) (w : World) (hb : (b == -1) = false) (hb2 : (b != -1) = true) : Calls prog 35 #[insV 11 sub (-1) b d k v s t] w (retO [b] w) := by
 obtain ⟨i0, hi, hz0, hz1, hz2⟩ : ∃ i0, prog.info? 3 = some i0 ∧ i0.zero = some (.int .i64 0) ∧ i0.size = 1 ∧ i0.bytes = 8 := info_parts (by kernel_rfl);unfold insV
 go_enter func35, ntmps35
 go_wp2_with (at_builtin; refine wpList_append_own _ rfl _ _ 22 rfl (w.heap.size + 1) 3 i0 (.int .i64 0) 1 8 underlying22 hi hz0 hz1 hz2 rfl (by decide) _ 0 (ints []) rfl (World.ownsRow_nil _ _ _ _) ⟨w.heap.size + 1, 0, none⟩ 1 1 [.int .i64 b] rfl rfl ?c11 ?c21 ?c31 ?c41 ?c51 ?_)
 case c11 =>
  intro j u hj
  match j, hj with
  | 0, hj => simp at hj; subst hj; simp [Addr.add]
 case c21 => intro u hu; simp at hu; subst hu; rfl
 case c31 => unfold maxLen; omega
 case c41 => omega
 case c51 => first | (simp; done) | (simp; omega)
 intro v1 w1 hown1 hgrow1 _
 have HO1 : Hid (w1.ownsRow (w.heap.size + 1) 3 1 v1 1 (ints [b])) := by
  show World.ownsRow _ _ _ _ _ _ _
  simpa [ints] using hown1
 have HB1 : Hid (Below w.heap.size w w1) := by
  show Below _ _ _
  exact (((Below.refl w.heap.size w).alloc (Nat.le_refl _) _).alloc (by simp) _).grown hgrow1 (by first | (simp; done) | (simp; omega)) (fun k hk => by simp [Value.ownBlock] at hk)
 have HX1 : Hid (Below (w.heap.size + 1) (w.alloc (.cells #[.int .i64 11, .int .i64 sub, .int .i64 (-1), .int .i64 b, .int .i64 d, .int .i64 k, v, .int .i64 s, .int .i64 t] 38 (0, 0))) w1) := by
  show Below _ _ _
  exact ((Below.refl (w.heap.size + 1) (w.alloc (.cells #[.int .i64 11, .int .i64 sub, .int .i64 (-1), .int .i64 b, .int .i64 d, .int .i64 k, v, .int .i64 s, .int .i64 t] 38 (0, 0)))).alloc (by simp) _).grown hgrow1 (by first | (simp; done) | (simp; omega)) (fun k hk => by simp [Value.ownBlock] at hk)
 have cx01 : w1.cell? ⟨w.heap.size, 0, none⟩ = some (.int .i64 11) := by rw [HX1.out.cell (p := ⟨w.heap.size, 0, none⟩) (by show w.heap.size < w.heap.size + 1; omega)]; simp
 have cx31 : w1.cell? ⟨w.heap.size, 3, none⟩ = some (.int .i64 b) := by rw [HX1.out.cell (p := ⟨w.heap.size, 3, none⟩) (by show w.heap.size < w.heap.size + 1; omega)]; simp
 have hs1 : w.heap.size + 1 ≤ w1.heap.size := by have := HX1.out.size; simp at this; omega
 clear hown1 hgrow1;go_wp2;go_ret;exact ⟨_, rfl, HO1.out, by simp, HB1.out⟩

theorem uses11a (sub a d k : Int) (v : Value) (s t : Int) (w : World) (ha : (a == -1) = false) (ha2 : (a != -1) = true) : Calls prog 35 #[insV 11 sub a (-1) d k v s t] w (retO [a] w) := by
 obtain ⟨i0, hi, hz0, hz1, hz2⟩ : ∃ i0, prog.info? 3 = some i0 ∧ i0.zero = some (.int .i64 0) ∧ i0.size = 1 ∧ i0.bytes = 8 := info_parts (by kernel_rfl);unfold insV
 go_enter func35, ntmps35
 go_wp2_with (at_builtin; refine wpList_append_own _ rfl _ _ 22 rfl (w.heap.size + 1) 3 i0 (.int .i64 0) 1 8 underlying22 hi hz0 hz1 hz2 rfl (by decide) _ 0 (ints []) rfl (World.ownsRow_nil _ _ _ _) ⟨w.heap.size + 1, 0, none⟩ 1 1 [.int .i64 a] rfl rfl ?c11 ?c21 ?c31 ?c41 ?c51 ?_)
 case c11 =>
  intro j u hj
  match j, hj with
  | 0, hj => simp at hj; subst hj; simp [Addr.add]
 case c21 => intro u hu; simp at hu; subst hu; rfl
 case c31 => unfold maxLen; omega
 case c41 => omega
 case c51 => first | (simp; done) | (simp; omega)
 intro v1 w1 hown1 hgrow1 _
 have HO1 : Hid (w1.ownsRow (w.heap.size + 1) 3 1 v1 1 (ints [a])) := by
  show World.ownsRow _ _ _ _ _ _ _
  simpa [ints] using hown1
 have HB1 : Hid (Below w.heap.size w w1) := by
  show Below _ _ _
  exact (((Below.refl w.heap.size w).alloc (Nat.le_refl _) _).alloc (by simp) _).grown hgrow1 (by first | (simp; done) | (simp; omega)) (fun k hk => by simp [Value.ownBlock] at hk)
 have HX1 : Hid (Below (w.heap.size + 1) (w.alloc (.cells #[.int .i64 11, .int .i64 sub, .int .i64 a, .int .i64 (-1), .int .i64 d, .int .i64 k, v, .int .i64 s, .int .i64 t] 38 (0, 0))) w1) := by
  show Below _ _ _
  exact ((Below.refl (w.heap.size + 1) (w.alloc (.cells #[.int .i64 11, .int .i64 sub, .int .i64 a, .int .i64 (-1), .int .i64 d, .int .i64 k, v, .int .i64 s, .int .i64 t] 38 (0, 0)))).alloc (by simp) _).grown hgrow1 (by first | (simp; done) | (simp; omega)) (fun k hk => by simp [Value.ownBlock] at hk)
 have cx01 : w1.cell? ⟨w.heap.size, 0, none⟩ = some (.int .i64 11) := by rw [HX1.out.cell (p := ⟨w.heap.size, 0, none⟩) (by show w.heap.size < w.heap.size + 1; omega)]; simp
 have cx31 : w1.cell? ⟨w.heap.size, 3, none⟩ = some (.int .i64 (-1)) := by rw [HX1.out.cell (p := ⟨w.heap.size, 3, none⟩) (by show w.heap.size < w.heap.size + 1; omega)]; simp
 have hs1 : w.heap.size + 1 ≤ w1.heap.size := by have := HX1.out.size; simp at this; omega
 clear hown1 hgrow1;go_wp2;go_ret;exact ⟨_, rfl, HO1.out, by simp, HB1.out⟩

theorem uses11ab (sub a b d k : Int) (v : Value) (s t : Int) (w : World) (ha : (a == -1) = false) (ha2 : (a != -1) = true) (hb : (b == -1) = false) (hb2 : (b != -1) = true) : Calls prog 35 #[insV 11 sub a b d k v s t] w (retO [a, b] w) := by
 obtain ⟨i0, hi, hz0, hz1, hz2⟩ : ∃ i0, prog.info? 3 = some i0 ∧ i0.zero = some (.int .i64 0) ∧ i0.size = 1 ∧ i0.bytes = 8 := info_parts (by kernel_rfl);unfold insV
 go_enter func35, ntmps35
 go_wp2_with (at_builtin; refine wpList_append_own _ rfl _ _ 22 rfl (w.heap.size + 1) 3 i0 (.int .i64 0) 1 8 underlying22 hi hz0 hz1 hz2 rfl (by decide) _ 0 (ints []) rfl (World.ownsRow_nil _ _ _ _) ⟨w.heap.size + 1, 0, none⟩ 1 1 [.int .i64 a] rfl rfl ?c11 ?c21 ?c31 ?c41 ?c51 ?_)
 case c11 =>
  intro j u hj
  match j, hj with
  | 0, hj => simp at hj; subst hj; simp [Addr.add]
 case c21 => intro u hu; simp at hu; subst hu; rfl
 case c31 => unfold maxLen; omega
 case c41 => omega
 case c51 => first | (simp; done) | (simp; omega)
 intro v1 w1 hown1 hgrow1 _
 have HO1 : Hid (w1.ownsRow (w.heap.size + 1) 3 1 v1 1 (ints [a])) := by
  show World.ownsRow _ _ _ _ _ _ _
  simpa [ints] using hown1
 have HB1 : Hid (Below w.heap.size w w1) := by
  show Below _ _ _
  exact (((Below.refl w.heap.size w).alloc (Nat.le_refl _) _).alloc (by simp) _).grown hgrow1 (by first | (simp; done) | (simp; omega)) (fun k hk => by simp [Value.ownBlock] at hk)
 have HX1 : Hid (Below (w.heap.size + 1) (w.alloc (.cells #[.int .i64 11, .int .i64 sub, .int .i64 a, .int .i64 b, .int .i64 d, .int .i64 k, v, .int .i64 s, .int .i64 t] 38 (0, 0))) w1) := by
  show Below _ _ _
  exact ((Below.refl (w.heap.size + 1) (w.alloc (.cells #[.int .i64 11, .int .i64 sub, .int .i64 a, .int .i64 b, .int .i64 d, .int .i64 k, v, .int .i64 s, .int .i64 t] 38 (0, 0)))).alloc (by simp) _).grown hgrow1 (by first | (simp; done) | (simp; omega)) (fun k hk => by simp [Value.ownBlock] at hk)
 have cx01 : w1.cell? ⟨w.heap.size, 0, none⟩ = some (.int .i64 11) := by rw [HX1.out.cell (p := ⟨w.heap.size, 0, none⟩) (by show w.heap.size < w.heap.size + 1; omega)]; simp
 have cx31 : w1.cell? ⟨w.heap.size, 3, none⟩ = some (.int .i64 b) := by rw [HX1.out.cell (p := ⟨w.heap.size, 3, none⟩) (by show w.heap.size < w.heap.size + 1; omega)]; simp
 have hs1 : w.heap.size + 1 ≤ w1.heap.size := by have := HX1.out.size; simp at this; omega
 clear hown1 hgrow1
 go_wp2_with (at_builtin; refine wpList_append_own _ rfl _ _ 22 rfl (w.heap.size + 1) 3 i0 (.int .i64 0) 1 8 underlying22 hi hz0 hz1 hz2 rfl (by decide) _ 1 (ints [a]) rfl (World.ownsRow.alloc HO1.out _) ⟨w1.heap.size, 0, none⟩ 1 1 [.int .i64 b] rfl rfl ?c12 ?c22 ?c32 ?c42 ?c52 ?_)
 case c12 =>
  intro j u hj
  match j, hj with
  | 0, hj => simp at hj; subst hj; simp [Addr.add]
 case c22 => intro u hu; simp at hu; subst hu; rfl
 case c32 => unfold maxLen; omega
 case c42 => omega
 case c52 => first | (simp; done) | (simp; omega)
 intro v2 w2 hown2 hgrow2 _
 have HO2 : Hid (w2.ownsRow (w.heap.size + 1) 3 1 v2 2 (ints [a, b])) := by
  show World.ownsRow _ _ _ _ _ _ _
  simpa [ints] using hown2
 have HB2 : Hid (Below w.heap.size w w2) := by
  show Below _ _ _
  exact (HB1.out.alloc (by omega) _).grown hgrow2 (by first | (simp; done) | (simp; omega)) (fun k hk => by have := (HO1.out.lt k hk).1; omega)
 have HX2 : Hid (Below (w.heap.size + 1) (w.alloc (.cells #[.int .i64 11, .int .i64 sub, .int .i64 a, .int .i64 b, .int .i64 d, .int .i64 k, v, .int .i64 s, .int .i64 t] 38 (0, 0))) w2) := by
  show Below _ _ _
  exact (HX1.out.alloc (by omega) _).grown hgrow2 (by first | (simp; done) | (simp; omega)) (fun k hk => (HO1.out.lt k hk).1)
 have cx02 : w2.cell? ⟨w.heap.size, 0, none⟩ = some (.int .i64 11) := by rw [HX2.out.cell (p := ⟨w.heap.size, 0, none⟩) (by show w.heap.size < w.heap.size + 1; omega)]; simp
 have cx32 : w2.cell? ⟨w.heap.size, 3, none⟩ = some (.int .i64 b) := by rw [HX2.out.cell (p := ⟨w.heap.size, 3, none⟩) (by show w.heap.size < w.heap.size + 1; omega)]; simp
 have hs2 : w.heap.size + 1 ≤ w2.heap.size := by have := HX2.out.size; simp at this; omega
 clear hown2 hgrow2;go_wp2;go_ret;exact ⟨_, rfl, HO2.out, by simp, HB2.out⟩

end Go.Proofs.YtncondlfngeilaaGreatDoor
