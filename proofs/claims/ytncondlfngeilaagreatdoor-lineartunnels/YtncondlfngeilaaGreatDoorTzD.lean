import Derived.Test.YtncondlfngeilaaGreatDoorRUses
import Derived.Test.YtncondlfngeilaaGreatDoorTzC
namespace Go.Proofs.YtncondlfngeilaaGreatDoor
open Go.ChangeShapes Go.WideShapes Go.ChangeAt Go.RowKit Go.Proofs.Tryz
set_option linter.unusedSimpArgs false
set_option linter.unusedVariables false
set_option maxHeartbeats 4000000

theorem uses10n (sub a b d k : Int) (s t : Int) (w : World) : Calls prog 35 #[insV 10 sub a b d k (.slice none 0 0) s t] w (retO [] w) := by
 obtain ⟨i0, hi, hz0, hz1, hz2⟩ : ∃ i0, prog.info? 3 = some i0 ∧ i0.zero = some (.int .i64 0) ∧ i0.size = 1 ∧ i0.bytes = 8 := info_parts (by kernel_rfl);unfold insV
 go_enter func35, ntmps35
 go_wp2;go_ret;exact ⟨_, rfl, World.ownsRow_nil _ _ _ _, by simp, (by repeat (first | with_reducible exact Below.refl _ _ | with_reducible refine bel_alloc ?_ _ | with_reducible refine bel_set ?_ (by first | exact Nat.le_refl _ | (simp; done) | (simp; omega)) _ | with_reducible refine Below.drew ?_ | refine bel_trans ?_ (by assumption)))⟩
theorem uses10s (sub a b d k : Int) (ad : Addr) (n cap : Nat) (l : List Int) (s t : Int) (w : World) (HN : Hid (l.length = n)) (hn : n * 8 ≤ 140737488355328) (HC : Hid (∀ i x, l[i]? = some x → w.cell? (ad.add i) = some (.int .i64 x))) : Calls prog 35 #[insV 10 sub a b d k (.slice (some ad) n cap) s t] w (retO l w) := by
 obtain ⟨i0, hi, hz0, hz1, hz2⟩ : ∃ i0, prog.info? 3 = some i0 ∧ i0.zero = some (.int .i64 0) ∧ i0.size = 1 ∧ i0.bytes = 8 := info_parts (by kernel_rfl);unfold insV
 go_enter func35, ntmps35
 go_wp2_with (at_builtin; refine wpList_append_own _ rfl _ _ 22 rfl (w.heap.size + 1) 3 i0 (.int .i64 0) 1 8 underlying22 hi hz0 hz1 hz2 rfl (by decide) _ 0 (ints []) rfl (World.ownsRow_nil _ _ _ _) ad n cap (ints l) rfl (by rw [ints_length, Nat.mul_one]; exact HN.out) ?c1 ?c2 ?c3 ?c4 ?c5 ?_)
 case c1 =>
  intro j u hj;simp only [ints, List.getElem?_map, Option.map_eq_some_iff] at hj;obtain ⟨x, hx, rfl⟩ := hj;exact keep_alloc (HC.out j x hx) _
 case c2 => intro u hu; simp only [ints, List.mem_map] at hu; obtain ⟨x, _, rfl⟩ := hu; rfl
 case c3 => unfold maxLen; omega
 case c4 => omega
 case c5 => simp
 intro v1 w1 hown1 hgrow1 _
 have HO1 : Hid (w1.ownsRow (w.heap.size + 1) 3 1 v1 l.length (ints l)) := by
  show World.ownsRow _ _ _ _ _ _ _
  rw [HN.out];simpa [ints] using hown1
 have HB1 : Hid (Below w.heap.size w w1) := by
  show Below _ _ _
  exact ((Below.refl w.heap.size w).alloc (Nat.le_refl _) _).grown hgrow1 (by simp) (fun k hk => by simp [Value.ownBlock] at hk)
 clear hown1 hgrow1;go_wp2;go_ret;exact ⟨_, rfl, HO1.out, (by rw [HN.out]; exact hn), HB1.out⟩
theorem usesX (op sub a b d k : Int) (v : Value) (s t : Int) (w : World) (ho : op < 1 ∨ 14 < op) : Calls prog 35 #[insV op sub a b d k v s t] w (retO [] w) := by
 unfold insV;have e1 : (op == 1) = false := by simp; omega
 have e2 : (op == 2) = false := by simp; omega
 have e3 : (op == 3) = false := by simp; omega
 have e4 : (op == 4) = false := by simp; omega
 have e5 : (op == 5) = false := by simp; omega
 have e6 : (op == 6) = false := by simp; omega
 have e7 : (op == 7) = false := by simp; omega
 have e8 : (op == 8) = false := by simp; omega
 have e9 : (op == 9) = false := by simp; omega
 have e10 : (op == 10) = false := by simp; omega
 have e11 : (op == 11) = false := by simp; omega
 have e12 : (op == 12) = false := by simp; omega
 have e13 : (op == 13) = false := by simp; omega
 have e14 : (op == 14) = false := by simp; omega
 clear ho
 go_enter func35, ntmps35
 go_wp2;go_ret;exact ⟨_, rfl, World.ownsRow_nil _ _ _ _, by simp, (by repeat (first | with_reducible exact Below.refl _ _ | with_reducible refine bel_alloc ?_ _ | with_reducible refine bel_set ?_ (by first | exact Nat.le_refl _ | (simp; done) | (simp; omega)) _ | with_reducible refine Below.drew ?_ | refine bel_trans ?_ (by assumption)))⟩
theorem rUsesO_any (op sub a b d k : Int) (v : Value) (args : List Int) (s t : Int) (w : World) (h : IL w v args) : Calls prog 35 #[insV op sub a b d k v s t] w (retO (usesF op a b args) w) := by
 rcases op_cases op with rfl | rfl | rfl | rfl | rfl | rfl | rfl | rfl | rfl | rfl | rfl | rfl | rfl | rfl | ho
 ·have hu : usesF 1 a b args = [] := by simp [usesF, useA, useB]
  rw [hu];exact uses1 sub a b d k v s t w
 ·have hu : usesF 2 a b args = [] := by simp [usesF, useA, useB]
  rw [hu];exact uses2 sub a b d k v s t w
 ·by_cases ha : a = -1
  ·subst ha
   have hu : usesF 3 (-1) b args = [] := by simp [usesF, useA, useB]
   rw [hu];exact uses3 sub b d k v s t w
  ·have hu : usesF 3 a b args = [a] := by simp [usesF, useA, useB, ha]
   rw [hu];exact uses3a sub a b d k v s t w (by simpa using ha) (by simpa using ha)
 ·by_cases ha : a = -1
  ·subst ha
   have hu : usesF 4 (-1) b args = [] := by simp [usesF, useA, useB]
   rw [hu];exact uses4 sub b d k v s t w
  ·have hu : usesF 4 a b args = [a] := by simp [usesF, useA, useB, ha]
   rw [hu];exact uses4a sub a b d k v s t w (by simpa using ha) (by simpa using ha)
 ·by_cases ha : a = -1
  ·subst ha
   by_cases hb : b = -1
   ·subst hb
    have hu : usesF 5 (-1) (-1) args = [] := by simp [usesF, useA, useB]
    rw [hu];exact uses5 sub d k v s t w
   ·have hu : usesF 5 (-1) b args = [b] := by simp [usesF, useA, useB, hb]
    rw [hu];exact uses5b sub b d k v s t w (by simpa using hb) (by simpa using hb)
  ·by_cases hb : b = -1
   ·subst hb
    have hu : usesF 5 a (-1) args = [a] := by simp [usesF, useA, useB, ha]
    rw [hu];exact uses5a sub a d k v s t w (by simpa using ha) (by simpa using ha)
   ·have hu : usesF 5 a b args = [a, b] := by simp [usesF, useA, useB, ha, hb]
    rw [hu];exact uses5ab sub a b d k v s t w (by simpa using ha) (by simpa using ha) (by simpa using hb) (by simpa using hb)
 ·by_cases ha : a = -1
  ·subst ha
   have hu : usesF 6 (-1) b args = [] := by simp [usesF, useA, useB]
   rw [hu];exact uses6 sub b d k v s t w
  ·have hu : usesF 6 a b args = [a] := by simp [usesF, useA, useB, ha]
   rw [hu];exact uses6a sub a b d k v s t w (by simpa using ha) (by simpa using ha)
 ·by_cases ha : a = -1
  ·subst ha
   by_cases hb : b = -1
   ·subst hb
    have hu : usesF 7 (-1) (-1) args = [] := by simp [usesF, useA, useB]
    rw [hu];exact uses7 sub d k v s t w
   ·have hu : usesF 7 (-1) b args = [b] := by simp [usesF, useA, useB, hb]
    rw [hu];exact uses7b sub b d k v s t w (by simpa using hb) (by simpa using hb)
  ·by_cases hb : b = -1
   ·subst hb
    have hu : usesF 7 a (-1) args = [a] := by simp [usesF, useA, useB, ha]
    rw [hu];exact uses7a sub a d k v s t w (by simpa using ha) (by simpa using ha)
   ·have hu : usesF 7 a b args = [a, b] := by simp [usesF, useA, useB, ha, hb]
    rw [hu];exact uses7ab sub a b d k v s t w (by simpa using ha) (by simpa using ha) (by simpa using hb) (by simpa using hb)
 ·have hu : usesF 8 a b args = [] := by simp [usesF, useA, useB]
  rw [hu];exact uses8 sub a b d k v s t w
 ·have hu : usesF 9 a b args = [] := by simp [usesF, useA, useB]
  rw [hu];exact uses9 sub a b d k v s t w
 ·have hu : usesF 10 a b args = args := by simp [usesF, useA, useB]
  rw [hu];obtain ⟨ad, cap, rfl, h1, h0, h2⟩ := h
  cases ad with
  | none =>
   obtain ⟨rfl, rfl⟩ := h0 rfl;exact uses10n sub a b d k s t w
  | some ad =>
   refine uses10s sub a b d k ad _ cap args s t w rfl h1 (fun i x hx => ?_);obtain ⟨b', off, e, hc⟩ := h2 (fun e => by rw [e] at hx; simp at hx)
   cases e
   rw [Addr.add_mid];exact hc i x hx
 ·by_cases ha : a = -1
  ·subst ha
   by_cases hb : b = -1
   ·subst hb
    have hu : usesF 11 (-1) (-1) args = [] := by simp [usesF, useA, useB]
    rw [hu];exact uses11 sub d k v s t w
   ·have hu : usesF 11 (-1) b args = [b] := by simp [usesF, useA, useB, hb]
    rw [hu];exact uses11b sub b d k v s t w (by simpa using hb) (by simpa using hb)
  ·by_cases hb : b = -1
   ·subst hb
    have hu : usesF 11 a (-1) args = [a] := by simp [usesF, useA, useB, ha]
    rw [hu];exact uses11a sub a d k v s t w (by simpa using ha) (by simpa using ha)
   ·have hu : usesF 11 a b args = [a, b] := by simp [usesF, useA, useB, ha, hb]
    rw [hu];exact uses11ab sub a b d k v s t w (by simpa using ha) (by simpa using ha) (by simpa using hb) (by simpa using hb)
 ·by_cases ha : a = -1
  ·subst ha
   have hu : usesF 12 (-1) b args = [] := by simp [usesF, useA, useB]
   rw [hu];exact uses12 sub b d k v s t w
  ·have hu : usesF 12 a b args = [a] := by simp [usesF, useA, useB, ha]
   rw [hu];exact uses12a sub a b d k v s t w (by simpa using ha) (by simpa using ha)
 ·have hu : usesF 13 a b args = [] := by simp [usesF, useA, useB]
  rw [hu];exact uses13 sub a b d k v s t w
 ·by_cases ha : a = -1
  ·subst ha
   have hu : usesF 14 (-1) b args = [] := by simp [usesF, useA, useB]
   rw [hu];exact uses14 sub b d k v s t w
  ·have hu : usesF 14 a b args = [a] := by simp [usesF, useA, useB, ha]
   rw [hu];exact uses14a sub a b d k v s t w (by simpa using ha) (by simpa using ha)
 ·have hu : usesF op a b args = [] := by
   have h1 : useA op = false := by unfold useA; rw [decide_eq_false_iff_not]; simp; omega
   have h2 : useB op = false := by unfold useB; rw [decide_eq_false_iff_not]; simp; omega
   have h3 : ¬ op = 10 := by omega
   simp [usesF, h1, h2, h3]
  rw [hu];exact usesX op sub a b d k v s t w ho
theorem rUses_any (op sub a b d k : Int) (v : Value) (args : List Int) (s t : Int) (w : World) (h : IL w v args) : Calls prog 35 #[insV op sub a b d k v s t] w (retI (usesF op a b args) w) := (rUsesO_any op sub a b d k v args s t w h).mono fun _ _ h => h.list
end Go.Proofs.YtncondlfngeilaaGreatDoor
namespace Go.Proofs.YtncondlfngeilaaGreatDoor
open Go.ChangeShapes Go.WideShapes Go.ChangeAt Go.RowKit
set_option linter.unusedSimpArgs false
set_option linter.unusedVariables false

def InsAt (w : World) (b off : Nat) (i : Ins) : Prop := ∃ v, IL w v i.args ∧ w.cell? ⟨b, off, none⟩ = some (.int .i64 i.op) ∧ w.cell? ⟨b, off + 1, none⟩ = some (.int .i64 i.sub) ∧ w.cell? ⟨b, off + 2, none⟩ = some (.int .i64 i.a) ∧ w.cell? ⟨b, off + 3, none⟩ = some (.int .i64 i.b) ∧
 w.cell? ⟨b, off + 4, none⟩ = some (.int .i64 i.d) ∧ w.cell? ⟨b, off + 5, none⟩ = some (.int .i64 i.k) ∧ w.cell? ⟨b, off + 6, none⟩ = some v ∧ w.cell? ⟨b, off + 7, none⟩ = some (.int .i64 i.s) ∧ w.cell? ⟨b, off + 8, none⟩ = some (.int .i64 i.t)
def CodeAt (w : World) (v : Value) (l : List Ins) : Prop := ∃ (a : Option Addr) (cap : Nat), v = .slice a l.length cap ∧ l.length * 88 ≤ 140737488355328 ∧ (a = none → l = [] ∧ cap = 0) ∧ (l ≠ [] → ∃ b off : Nat, a = some ⟨b, off, none⟩ ∧ ∀ (i : Nat) (x : Ins), l[i]? = some x → InsAt w b (off + i * 9) x)
def FnAt (w : World) (b off : Nat) (f : Fn) : Prop := ∃ pv cv, IL w pv f.params ∧ CodeAt w cv f.code ∧ f.name.size ≤ 140737488355328 ∧ w.cell? ⟨b, off, none⟩ = some (.string f.name) ∧ w.cell? ⟨b, off + 1, none⟩ = some pv ∧ w.cell? ⟨b, off + 2, none⟩ = some (.int .i64 f.regs) ∧ w.cell? ⟨b, off + 3, none⟩ = some (.int .i64 f.frame) ∧
 w.cell? ⟨b, off + 4, none⟩ = some (.int .i64 f.entry) ∧ w.cell? ⟨b, off + 5, none⟩ = some cv
def FnsAt (w : World) (v : Value) (l : List Fn) : Prop := ∃ (a : Option Addr) (cap : Nat), v = .slice a l.length cap ∧ l.length * 88 ≤ 140737488355328 ∧ (a = none → l = [] ∧ cap = 0) ∧ (l ≠ [] → ∃ b off : Nat, a = some ⟨b, off, none⟩ ∧ ∀ (i : Nat) (x : Fn), l[i]? = some x → FnAt w b (off + i * 6) x)
def FnV (w : World) (v : Value) (f : Fn) : Prop := ∃ pv cv, v = .agg #[.string f.name, pv, .int .i64 f.regs, .int .i64 f.frame, .int .i64 f.entry, cv] ∧ IL w pv f.params ∧ CodeAt w cv f.code ∧ f.name.size ≤ 140737488355328
def PgV (w : World) (v : Value) (p : Pg) : Prop := ∃ gv fv, v = .agg #[gv, fv, .int .i64 p.main] ∧ IL w gv p.globals ∧ FnsAt w fv p.funcs

theorem InsAt.keep {w w' : World} {b off : Nat} {i : Ins} (h : InsAt w b off i) (hb : Below w.heap.size w w') : InsAt w' b off i := by
 obtain ⟨v, h0, h1, h2, h3, h4, h5, h6, h7, h8, h9⟩ := h;exact ⟨v, h0.keep hb, keep_cell hb h1, keep_cell hb h2, keep_cell hb h3, keep_cell hb h4, keep_cell hb h5, keep_cell hb h6, keep_cell hb h7, keep_cell hb h8, keep_cell hb h9⟩
theorem CodeAt.keep {w w' : World} {v : Value} {l : List Ins} (h : CodeAt w v l) (hb : Below w.heap.size w w') : CodeAt w' v l := by
 obtain ⟨a, cap, hv, h1, h0, h2⟩ := h;refine ⟨a, cap, hv, h1, h0, fun hl => ?_⟩;obtain ⟨b, off, e, hc⟩ := h2 hl;exact ⟨b, off, e, fun i x hx => (hc i x hx).keep hb⟩
theorem FnAt.keep {w w' : World} {b off : Nat} {f : Fn} (h : FnAt w b off f) (hb : Below w.heap.size w w') : FnAt w' b off f := by
 obtain ⟨pv, cv, h0, h1, h2, h3, h4, h5, h6, h7, h8⟩ := h;exact ⟨pv, cv, h0.keep hb, h1.keep hb, h2, keep_cell hb h3, keep_cell hb h4, keep_cell hb h5, keep_cell hb h6, keep_cell hb h7, keep_cell hb h8⟩
theorem FnsAt.keep {w w' : World} {v : Value} {l : List Fn} (h : FnsAt w v l) (hb : Below w.heap.size w w') : FnsAt w' v l := by
 obtain ⟨a, cap, hv, h1, h0, h2⟩ := h;refine ⟨a, cap, hv, h1, h0, fun hl => ?_⟩;obtain ⟨b, off, e, hc⟩ := h2 hl;exact ⟨b, off, e, fun i x hx => (hc i x hx).keep hb⟩
theorem FnV.keep {w w' : World} {v : Value} {f : Fn} (h : FnV w v f) (hb : Below w.heap.size w w') : FnV w' v f := by
 obtain ⟨pv, cv, hv, h0, h1, h2⟩ := h;exact ⟨pv, cv, hv, h0.keep hb, h1.keep hb, h2⟩
theorem PgV.keep {w w' : World} {v : Value} {p : Pg} (h : PgV w v p) (hb : Below w.heap.size w w') : PgV w' v p := by
 obtain ⟨gv, fv, hv, h0, h1⟩ := h;exact ⟨gv, fv, hv, h0.keep hb, h1.keep hb⟩
end Go.Proofs.YtncondlfngeilaaGreatDoor
namespace Go.Proofs.YtncondlfngeilaaGreatDoor
set_option linter.unusedSimpArgs false
set_option linter.unusedVariables false

theorem nodup_bound : ∀ {n : Nat} {l : List Nat}, l.Nodup → (∀ x ∈ l, x < n) → l.length ≤ n
 | 0, l, _, h => by
  cases l with
  | nil => simp
  | cons a t => exact absurd (h a (by simp)) (by omega)
 | n + 1, l, hd, h => by
  have ih := nodup_bound (n := n) (l := l.erase n) (hd.erase n) (fun x hx => by
   have h1 := (hd.mem_erase_iff.1 hx);have := h x h1.2;have := h1.1
   omega)
  have h2 : l.length ≤ (l.erase n).length + 1 := by
   rw [List.length_erase]
   split <;> omega
  omega
inductive Ld (code : List Ins) : Nat → Nat → Nat → Prop
 | here {n : Nat} {x : Ins} : code[n]? = some x → x.op ≠ 1 → Ld code 0 n n
 | on {d n e : Nat} {x : Ins} : code[n]? = some x → x.op = 1 → Ld code d x.s.toNat e → Ld code (d + 1) n e
theorem Ld.one {code : List Ins} {d n e : Nat} (h : Ld code d n e) : ∀ {d' e' : Nat}, Ld code d' n e' → d = d' ∧ e = e' := by
 induction h with
 | here h1 h2 =>
  intro d' e' h'
  cases h' with
  | here h3 h4 => exact ⟨rfl, rfl⟩
  | on h3 h4 h5 =>
   rw [h1] at h3
   cases h3
   exact absurd h4 h2
 | on h1 h2 h3 ih =>
  intro d' e' h'
  cases h' with
  | here h4 h5 =>
   rw [h1] at h4
   cases h4
   exact absurd h2 h5
  | on h4 h5 h6 =>
   rw [h1] at h4
   cases h4
   obtain ⟨q1, q2⟩ := ih h6;exact ⟨by rw [q1], q2⟩
theorem Ld.lt {code : List Ins} {d n e : Nat} (h : Ld code d n e) : n < code.length := by
 cases h with
 | here h1 _ => exact (List.getElem?_eq_some_iff.1 h1).1
 | on h1 _ _ => exact (List.getElem?_eq_some_iff.1 h1).1
theorem Ld.stop {code : List Ins} {d n e : Nat} (h : Ld code d n e) : ∃ x, code[e]? = some x ∧ x.op ≠ 1 := by
 induction h with
 | here h1 h2 => exact ⟨_, h1, h2⟩
 | on _ _ _ ih => exact ih
theorem Ld.way {code : List Ins} {d n e : Nat} (h : Ld code d n e) : ∃ l : List Nat, l.length = d + 1 ∧ l.Nodup ∧ ∀ x ∈ l, ∃ d', d' ≤ d ∧ Ld code d' x e := by
 induction h with
 | @here n x h1 h2 => exact ⟨[n], rfl, by simp, fun y hy => ⟨0, Nat.le_refl _, by cases List.mem_singleton.1 hy; exact .here h1 h2⟩⟩
 | @on d n e x h1 h2 h3 ih =>
  obtain ⟨l, hl, hn, hx⟩ := ih;refine ⟨n :: l, by simp [hl], List.nodup_cons.2 ⟨fun hm => ?_, hn⟩, fun y hy => ?_⟩
  ·obtain ⟨d', hd, h4⟩ := hx n hm
   have := (h4.one (.on h1 h2 h3)).1
   omega
  ·rcases List.mem_cons.1 hy with rfl | hy
   ·exact ⟨d + 1, Nat.le_refl _, .on h1 h2 h3⟩
   ·obtain ⟨d', hd, h4⟩ := hx y hy
    exact ⟨d', by omega, h4⟩
theorem Ld.few {code : List Ins} {d n e : Nat} (h : Ld code d n e) : d < code.length := by
 obtain ⟨l, hl, hn, hx⟩ := h.way
 have := nodup_bound (n := code.length) hn (fun x hm => by
  obtain ⟨d', _, h4⟩ := hx x hm;exact h4.lt)
 omega
def goalN (code : List Ins) : Nat → Nat → Option Nat
 | 0, _ => none
 | f + 1, n => match code[n]? with
  | some x => if x.op = 1 then goalN code f x.s.toNat else some n
  | none => none
theorem goalN_some {code : List Ins} {d n e : Nat} (h : Ld code d n e) : ∀ f, d < f → goalN code f n = some e := by
 induction h with
 | here h1 h2 =>
  intro f hf;obtain ⟨f, rfl⟩ : ∃ g, f = g + 1 := ⟨f - 1, by omega⟩;unfold goalN;rw [h1];simp [h2]
 | on h1 h2 h3 ih =>
  intro f hf;obtain ⟨f, rfl⟩ : ∃ g, f = g + 1 := ⟨f - 1, by omega⟩;unfold goalN;rw [h1];simp only [h2, if_true];exact ih f (by omega)
theorem goalN_ld {code : List Ins} : ∀ {f n e : Nat}, goalN code f n = some e → ∃ d, Ld code d n e
 | 0, n, e, h => by cases h
 | f + 1, n, e, h => by
  unfold goalN at h
  cases hx : code[n]? with
  | none => rw [hx] at h; cases h
  | some x =>
   rw [hx] at h;dsimp only at h
   by_cases h1 : x.op = 1
   ·rw [if_pos h1] at h
    obtain ⟨d, hd⟩ := goalN_ld h;exact ⟨d + 1, .on hx h1 hd⟩
   ·rw [if_neg h1] at h
    cases h
    exact ⟨0, .here hx h1⟩
def goalF (code : List Ins) (n : Nat) : Nat := (goalN code (code.length + 1) n).getD n
theorem goalF_ld {code : List Ins} {d n e : Nat} (h : Ld code d n e) : goalF code n = e := by
 unfold goalF;rw [goalN_some h _ (by have := h.few; omega)]
 rfl
theorem goalF_none {code : List Ins} {n : Nat} (h : ∀ d e, ¬ Ld code d n e) : goalF code n = n := by
 unfold goalF
 cases hg : goalN code (code.length + 1) n with
 | none => rfl
 | some e =>
  obtain ⟨d, hd⟩ := goalN_ld hg;exact absurd hd (h d e)
def nopE (x : Ins) (i : Nat) : List (Nat × Nat) := if x.op = 1 then [(x.s.toNat, i)] else []
def esN (code : List Ins) : Nat → List (Nat × Nat)
 | 0 => []
 | i + 1 => esN code i ++ ((code[i]?).map (fun x => nopE x i)).getD []
theorem esN_succ {code : List Ins} {i : Nat} {x : Ins} (h : code[i]? = some x) : esN code (i + 1) = esN code i ++ nopE x i := by
 show esN code i ++ ((code[i]?).map (fun x => nopE x i)).getD [] = _
 rw [h]
 rfl
theorem esN_length (code : List Ins) : ∀ i, (esN code i).length ≤ i
 | 0 => by simp [esN]
 | i + 1 => by
  have h1 := esN_length code i;unfold esN;rw [List.length_append]
  have : (((code[i]?).map (fun x => nopE x i)).getD []).length ≤ 1 := by
   cases code[i]? with
   | none => simp
   | some x =>
    show (nopE x i).length ≤ 1
    unfold nopE
    split <;> simp
  omega
theorem mem_esN {code : List Ins} {t n : Nat} : ∀ {i : Nat}, (t, n) ∈ esN code i ↔ n < i ∧ ∃ x, code[n]? = some x ∧ x.op = 1 ∧ x.s.toNat = t
 | 0 => by simp [esN]
 | i + 1 => by
  unfold esN;rw [List.mem_append, mem_esN]
  constructor
  ·rintro (⟨h1, h2⟩ | h)
   ·exact ⟨by omega, h2⟩
   ·cases hx : code[i]? with
    | none => rw [hx] at h; simp at h
    | some x =>
     rw [hx] at h;have h : (t, n) ∈ nopE x i := h;unfold nopE at h
     split at h
     ·rename_i h1
      cases List.mem_singleton.1 h
      exact ⟨by omega, x, hx, h1, rfl⟩
     ·cases h
  ·rintro ⟨h1, x, hx, h2, h3⟩
   by_cases e : n = i
   ·subst e
    right
    rw [hx]
    show (t, n) ∈ nopE x n
    unfold nopE;rw [if_pos h2];simp [h3]
   ·exact .inl ⟨by omega, x, hx, h2, h3⟩
structure TnI (code : List Ins) (N i : Nat) (m : Nat → Bool) (L : Nat → Nat) : Prop where
 met : ∀ n, n < N → (m n = true ↔ ∃ d e, e < i ∧ Ld code d n e)
 hit : ∀ n d e, n < N → e < i → Ld code d n e → L n = e
 own : ∀ n, n < N → (∀ d e, e < i → ¬ Ld code d n e) → L n = n
theorem TnI.start {code : List Ins} {N : Nat} : TnI code N 0 (fun _ => false) (fun n => n) :=
 ⟨fun n _ => ⟨(fun h => by cases h), fun ⟨_, _, h, _⟩ => absurd h (Nat.not_lt_zero _)⟩, fun n d e _ h => absurd h (Nat.not_lt_zero _), fun n _ _ => rfl⟩
theorem TnI.skip {code : List Ins} {N i : Nat} {m : Nat → Bool} {L : Nat → Nat} {x : Ins} (h : TnI code N i m L) (hx : code[i]? = some x) (h1 : x.op = 1) : TnI code N (i + 1) m L := by
 have hne : ∀ d n e, Ld code d n e → e ≠ i := fun d n e hd he => by
  obtain ⟨y, hy, h2⟩ := hd.stop;rw [he, hx] at hy
  cases hy
  exact h2 h1
 refine ⟨fun n hn => ?_, fun n d e hn he hd => ?_, fun n hn hall => ?_⟩
 ·rw [h.met n hn]
  constructor
  ·rintro ⟨d, e, he, hd⟩
   exact ⟨d, e, by omega, hd⟩
  ·rintro ⟨d, e, he, hd⟩
   exact ⟨d, e, by have := hne d n e hd; omega, hd⟩
 ·exact h.hit n d e hn (by have := hne d n e hd; omega) hd
 ·exact h.own n hn (fun d e he hd => hall d e (by omega) hd)
theorem TnI.search {code : List Ins} {N i : Nat} {m m' : Nat → Bool} {L : Nat → Nat} {x : Ins} {o : List Nat} (h : TnI code N i m L) (hN : code.length = N) (hS : ∀ x ∈ code, x.op = 1 → x.s.toNat < N) (hx : code[i]? = some x) (h1 : x.op ≠ 1) (hs : SR N (gOf (esN code N)) m [i] m' o) :
  (∀ n, n ∈ o ↔ ∃ d, Ld code d n i) ∧ (∀ L' : Nat → Nat, (∀ n, n ∈ o → L' n = i) → (∀ n, n ∉ o → L' n = L n) → TnI code N (i + 1) m' L') := by
 have hiN : i < N := by rw [← hN]; exact (List.getElem?_eq_some_iff.1 hx).1
 have hself : Ld code 0 i i := .here hx h1
 have hm0 : ∀ n d, n < N → Ld code d n i → m n = false := fun n d hn hd => by
  cases hm : m n with
  | false => rfl
  | true =>
   obtain ⟨d', e, he, hd'⟩ := (h.met n hn).1 hm;have := (hd.one hd').2
   omega
 have hin : ∀ n d e, Ld code d n e → e = i → n ∈ o := by
  intro n d e hd
  induction hd with
  | @here n y h2 h3 =>
   intro e;subst e;have hst := hs.st n (by simp)
   rcases (hs.si.mem n).1 hst with q | q | q
   ·rw [hm0 n 0 hiN hself] at q; cases q
   ·exact q
   ·cases q
  | @on d n e y h2 h3 h4 ih =>
   intro e;subst e;have hyo := ih rfl;have hy := hS y (List.mem_of_getElem? h2) h3;have hnN : n < N := by rw [← hN]; exact (List.getElem?_eq_some_iff.1 h2).1
   have hcl := hs.cl _ hyo n (mem_gOf.2 (mem_esN.2 ⟨hnN, y, h2, h3, rfl⟩))
   rcases (hs.si.mem n).1 hcl with q | q | q
   ·rw [hm0 n (d + 1) hnN (.on h2 h3 h4)] at q; cases q
   ·exact q
   ·cases q
 have ho : ∀ n, n ∈ o ↔ ∃ d, Ld code d n i := fun n => by
  constructor
  ·intro hn
   refine hs.si.re (fun n => ∃ d, Ld code d n i) (fun s hs' => ?_) (fun y ⟨d, hd⟩ _ t ht => ?_) n (.inl hn)
   ·cases List.mem_singleton.1 hs'
    exact ⟨0, hself⟩
   ·obtain ⟨_, z, hz, hz1, hz2⟩ := mem_esN.1 (mem_gOf.1 ht)
    exact ⟨d + 1, .on hz hz1 (by rw [hz2]; exact hd)⟩
  ·rintro ⟨d, hd⟩
   exact hin n d i hd rfl
 refine ⟨ho, fun L' hL1 hL2 => ⟨fun n hn => ?_, fun n d e hn he hd => ?_, fun n hn hall => ?_⟩⟩
 ·rw [hs.si.mem n, h.met n hn, ho n]
  constructor
  ·rintro (⟨d, e, he, hd⟩ | ⟨d, hd⟩ | q)
   ·exact ⟨d, e, by omega, hd⟩
   ·exact ⟨d, i, by omega, hd⟩
   ·cases q
  ·rintro ⟨d, e, he, hd⟩
   by_cases q : e = i
   ·subst q; exact .inr (.inl ⟨d, hd⟩)
   ·exact .inl ⟨d, e, by omega, hd⟩
 ·by_cases q : e = i
  ·subst q
   exact hL1 n ((ho n).2 ⟨d, hd⟩)
  ·rw [hL2 n (fun hno => by
    obtain ⟨d', hd'⟩ := (ho n).1 hno;exact q (hd.one hd').2)]
   exact h.hit n d e hn (by omega) hd
 ·rw [hL2 n (fun hno => by
   obtain ⟨d', hd'⟩ := (ho n).1 hno;exact hall d' i (by omega) hd')]
  exact h.own n hn (fun d e he hd => hall d e (by omega) hd)
theorem TnI.done {code : List Ins} {N : Nat} {m : Nat → Bool} {L : Nat → Nat} (h : TnI code N N m L) (hN : code.length = N) : ∀ n, n < N → L n = goalF code n := by
 intro n hn
 by_cases q : ∃ d e, Ld code d n e
 ·obtain ⟨d, e, hd⟩ := q
  obtain ⟨x, hx, _⟩ := hd.stop;rw [goalF_ld hd];exact h.hit n d e hn (by rw [← hN]; exact (List.getElem?_eq_some_iff.1 hx).1) hd
 ·rw [goalF_none (fun d e hd => q ⟨d, e, hd⟩)]
  exact h.own n hn (fun d e _ hd => q ⟨d, e, hd⟩)
end Go.Proofs.YtncondlfngeilaaGreatDoor
