/- Package types: a table in memory; contracts of shapeOf, pointer, single. -/
import Derived.Test.YtpedfnfangaelaaDoorYMap
namespace Go.Proofs.YtpedfnfangaelaaDoor
open Go.ChangeShapes Go.WideShapes Go.ChangeAt Go.RowKit
set_option linter.unusedSimpArgs false
set_option linter.unusedVariables false

/-- A field's place; a struct that is laid out; a table. -/
structure Pl where
  name : ByteArray
  typ : ByteArray
  off : Int
structure Shp where
  places : List Pl
  size : Int
  align : Int
structure Tab where
  names : List ByteArray
  shapes : List Shp
def ixOf (names : List ByteArray) (s : ByteArray) : Option Nat := names.findIdx? (fun x => decide (x = s))
/-- The value is a slice that holds these places. -/
def PlL (w : World) (a : Option Addr) (l : List Pl) : Prop := l ≠ [] → ∃ b off : Nat, a = some ⟨b, off, none⟩ ∧ ∀ (i : Nat) (x : Pl), l[i]? = some x → w.cell? ⟨b, off + i * 3, none⟩ = some (.string x.name) ∧ w.cell? ⟨b, off + i * 3 + 1, none⟩ = some (.string x.typ) ∧ w.cell? ⟨b, off + i * 3 + 2, none⟩ = some (.int .i64 x.off)
def PlsAt (w : World) (v : Value) (l : List Pl) : Prop := ∃ (a : Option Addr) (cap : Nat), v = .slice a l.length cap ∧ l.length ≤ cap ∧ (cap : Int) ≤ 9223372036854775807 ∧ PlL w a l
def ShL (w : World) (a : Option Addr) (l : List Shp) : Prop := l ≠ [] → ∃ b off : Nat, a = some ⟨b, off, none⟩ ∧ ∀ (i : Nat) (x : Shp), l[i]? = some x → ∃ pv, w.cell? ⟨b, off + i * 3, none⟩ = some pv ∧ PlsAt w pv x.places ∧ w.cell? ⟨b, off + i * 3 + 1, none⟩ = some (.int .i64 x.size) ∧ w.cell? ⟨b, off + i * 3 + 2, none⟩ = some (.int .i64 x.align)
def ShAt (w : World) (v : Value) (l : List Shp) : Prop := ∃ (a : Option Addr) (cap : Nat), v = .slice a l.length cap ∧ l.length ≤ cap ∧ (cap : Int) ≤ 9223372036854775807 ∧ ShL w a l
theorem PlL.keep {w w' : World} {a : Option Addr} {l : List Pl} (h : PlL w a l) (hb : Below w.heap.size w w') : PlL w' a l := fun hl => by
  obtain ⟨b, off, rfl, hc⟩ := h hl
  exact ⟨b, off, rfl, fun i x hx => ⟨keep_cell hb (hc i x hx).1, keep_cell hb (hc i x hx).2.1, keep_cell hb (hc i x hx).2.2⟩⟩
theorem PlsAt.keep {w w' : World} {v : Value} {l : List Pl} (h : PlsAt w v l) (hb : Below w.heap.size w w') : PlsAt w' v l := by
  obtain ⟨a, cap, hv, h1, h2, h3⟩ := h
  exact ⟨a, cap, hv, h1, h2, h3.keep hb⟩
theorem ShL.keep {w w' : World} {a : Option Addr} {l : List Shp} (h : ShL w a l) (hb : Below w.heap.size w w') : ShL w' a l := fun hl => by
  obtain ⟨b, off, rfl, hc⟩ := h hl
  refine ⟨b, off, rfl, fun i x hx => ?_⟩
  obtain ⟨pv, h1, h2, h3, h4⟩ := hc i x hx
  exact ⟨pv, keep_cell hb h1, h2.keep hb, keep_cell hb h3, keep_cell hb h4⟩
theorem ShAt.keep {w w' : World} {v : Value} {l : List Shp} (h : ShAt w v l) (hb : Below w.heap.size w w') : ShAt w' v l := by
  obtain ⟨a, cap, hv, h1, h2, h3⟩ := h
  exact ⟨a, cap, hv, h1, h2, h3.keep hb⟩
/-- The table lies in that block. -/
def TabAt (w : World) (tb : Nat) (T : Tab) : Prop := ∃ (bm n : Nat) (sv : Value), w.cell? ⟨tb, 0, none⟩ = some (.map (some bm)) ∧ w.cell? ⟨tb, 1, none⟩ = some sv ∧ NumMap w bm n (ixOf T.names) ∧ ShAt w sv T.shapes
theorem TabAt.keep {w w' : World} {tb : Nat} {T : Tab} (h : TabAt w tb T) (hb : Below w.heap.size w w') : TabAt w' tb T := by
  obtain ⟨bm, n, sv, h1, h2, h3, h4⟩ := h
  exact ⟨bm, n, sv, keep_cell hb h1, keep_cell hb h2, h3.keep hb, h4.keep hb⟩
theorem bel_new (w : World) (o : Obj) : Below w.heap.size w (w.alloc o) := (Below.refl _ _).alloc (Nat.le_refl _) o
/-- The struct of a name, where it is laid out. -/
def shF (T : Tab) (s : ByteArray) : Shp × Bool :=
  match ixOf T.names s with
  | none => (⟨[], 0, 0⟩, false)
  | some j => match T.shapes[j]? with
    | none => (⟨[], 0, 0⟩, false)
    | some x => (x, true)
theorem PlsAt.nil (w : World) : PlsAt w (.slice none 0 0) [] := ⟨none, 0, rfl, Nat.le_refl _, by omega, fun h => absurd rfl h⟩
/-- The answer is this struct, and whether it is one. -/
def retS (x : Shp) (ok : Bool) (w : World) : Ending → World → Prop := fun e w' =>
  ∃ pv, e = .returned (.tuple #[.agg #[pv, .int .i64 x.size, .int .i64 x.align], .bool ok]) ∧ PlsAt w' pv x.places ∧ Below w.heap.size w w'
theorem end_S {P : Program} {fn : Func} {a : Act} {w w' : World} {x : Shp} {ok : Bool} (pv : Value) (hr : (results fn a.tmps).run P w' = .ok (.tuple #[.agg #[pv, .int .i64 x.size, .int .i64 x.align], .bool ok]) w') (hd : a.defers = []) (hp : PlsAt w' pv x.places) (hb : Below w.heap.size w w') :
    bodyPost P fn (retS x ok w) .ret a w' := bodyPost_ret hr hd ⟨pv, rfl, hp, hb⟩
set_option maxHeartbeats 2000000 in
theorem shapeOf_any (tb : Nat) (T : Tab) (s : ByteArray) (hs : s.size ≤ maxLen) (w : World) (h : TabAt w tb T) :
    Calls Tryd.prog 28 #[.pointer (some ⟨tb, 0, none⟩), .string s] w (retS (shF T s).1 (shF T s).2 w) := by
  obtain ⟨bm, n, sv, c0, c1, hm, a, cap, rfl, hl1, hl2, hsh⟩ := h
  have d0 : ∀ o, (w.alloc o).cell? ⟨tb, 0, none⟩ = some (.map (some bm)) := fun o => keep_cell (bel_new w o) c0
  have d1 : ∀ o, (w.alloc o).cell? ⟨tb, 1, none⟩ = some (.slice a T.shapes.length cap) := fun o => keep_cell (bel_new w o) c1
  have lk : ∀ o, (Instr.lookup 58 (.map (some bm)) (.string s) true).run Tryd.prog (w.alloc o) = .ok (.tuple #[.int .i64 (((ixOf T.names s).getD 0 : Nat) : Int), .bool (ixOf T.names s).isSome]) (w.alloc o) := fun o => (hm.keep (bel_new w o)).look hs
  clear hm c0 c1
  unfold shF
  cases hi : ixOf T.names s with
  | none =>
    simp only [hi, Option.isSome_none, Option.getD_none] at lk
    clear hi
    dsimp only
    go_enter Tryd.func28, Tryd.ntmps28
    go_wp2
    exact end_S (.slice none 0 0) (by simp [results, Tryd.results28, go_sem]) rfl (PlsAt.nil _) (by repeat (first | with_reducible exact Below.refl _ _ | with_reducible refine bel_alloc ?_ _ | with_reducible refine bel_set ?_ (by first | exact Nat.le_refl _ | (simp; done) | (simp; omega)) _ | with_reducible refine Below.drew ?_ | refine bel_trans ?_ (by assumption)))
  | some j =>
    simp only [hi, Option.isSome_some, Option.getD_some] at lk
    clear hi
    dsimp only
    by_cases hj : j < T.shapes.length
    · have hx := List.getElem?_eq_getElem hj
      obtain ⟨x, hx'⟩ : ∃ x, T.shapes[j] = x := ⟨_, rfl⟩
      rw [hx'] at hx
      rw [hx]
      obtain ⟨b, off, rfl, hc⟩ := hsh (fun e => by rw [e] at hx; simp at hx)
      obtain ⟨pv, e0, ⟨pa, pc, rfl, hp⟩, e1, e2⟩ := hc j x hx
      have HP : PlsAt w (.slice pa x.places.length pc) x.places := ⟨pa, pc, rfl, hp⟩
      clear hp
      have q1 : decide ((T.shapes.length : Int) ≤ (j : Int)) = false := by simp; omega
      have j0 : (0 : Int) ≤ j := by omega
      have j1 : (j : Int) < T.shapes.length := by omega
      have g0 : ∀ o, (w.alloc o).cell? ⟨b, off + j * 3, none⟩ = some (.slice pa x.places.length pc) := fun o => keep_cell (bel_new w o) e0
      have g1 : ∀ o, (w.alloc o).cell? ⟨b, off + j * 3 + 1, none⟩ = some (.int .i64 x.size) := fun o => keep_cell (bel_new w o) e1
      have g2 : ∀ o, (w.alloc o).cell? ⟨b, off + j * 3 + 2, none⟩ = some (.int .i64 x.align) := fun o => keep_cell (bel_new w o) e2
      have HPl : Hid (PlsAt w (.slice pa x.places.length pc) x.places) := HP
      clear hx hx' hc e0 e1 e2 HP hsh
      dsimp only
      go_enter Tryd.func28, Tryd.ntmps28
      go_wp2
      exact end_S _ (by simp [results, Tryd.results28, go_sem]) rfl (HPl.out.keep (by repeat (first | with_reducible exact Below.refl _ _ | with_reducible refine bel_alloc ?_ _ | with_reducible refine bel_set ?_ (by first | exact Nat.le_refl _ | (simp; done) | (simp; omega)) _ | with_reducible refine Below.drew ?_ | refine bel_trans ?_ (by assumption)))) (by repeat (first | with_reducible exact Below.refl _ _ | with_reducible refine bel_alloc ?_ _ | with_reducible refine bel_set ?_ (by first | exact Nat.le_refl _ | (simp; done) | (simp; omega)) _ | with_reducible refine Below.drew ?_ | refine bel_trans ?_ (by assumption)))
    · rw [List.getElem?_eq_none (by omega)]
      have q1 : decide ((T.shapes.length : Int) ≤ (j : Int)) = true := by simp; omega
      clear hsh
      dsimp only
      go_enter Tryd.func28, Tryd.ntmps28
      go_wp2
      exact end_S (.slice none 0 0) (by simp [results, Tryd.results28, go_sem]) rfl (PlsAt.nil _) (by repeat (first | with_reducible exact Below.refl _ _ | with_reducible refine bel_alloc ?_ _ | with_reducible refine bel_set ?_ (by first | exact Nat.le_refl _ | (simp; done) | (simp; omega)) _ | with_reducible refine Below.drew ?_ | refine bel_trans ?_ (by assumption)))

/-- A pointer's size, if it is one. -/
def ptF (T : Tab) (f : Fm) : Int × Int × Bool := if isS f.word cStruct && (ixOf T.names f.name).isNone then (0, 0, false) else (8, 8, true)
set_option maxHeartbeats 2000000 in
theorem pointer_any (tb : Nat) (T : Tab) (f : Fm) (hs : f.name.size ≤ maxLen) (w : World) (h : TabAt w tb T) :
    Calls Tryd.prog 45 #[.pointer (some ⟨tb, 0, none⟩), f.v] w (retP (.tuple #[.int .i64 (ptF T f).1, .int .i64 (ptF T f).2.1, .bool (ptF T f).2.2]) w) := by
  obtain ⟨bm, n, sv, c0, c1, hm, hsh⟩ := h
  obtain ⟨wd, nm, st, ct⟩ := f
  have d0 : ∀ o, (w.alloc o).cell? ⟨tb, 0, none⟩ = some (.map (some bm)) := fun o => keep_cell (bel_new w o) c0
  have lk : ∀ o n, (Instr.lookup 58 (.map (some bm)) (.string nm) true).run Tryd.prog ((w.alloc o).drewN n) = .ok (.tuple #[.int .i64 (((ixOf T.names nm).getD 0 : Nat) : Int), .bool (ixOf T.names nm).isSome]) ((w.alloc o).drewN n) := fun o n => (hm.keep (bel_drewN (bel_new w o) n)).look hs
  clear hm c0 c1 hsh hs
  unfold ptF
  dsimp only
  cases hw : isS wd cStruct
  · simp only [Bool.false_and, Bool.false_eq_true, if_false, Fm.v]
    simp only [isS_eq, cStruct] at hw
    go_enter Tryd.func45, Tryd.ntmps45
    go_wp2
    go_ret3
    exact ⟨rfl, (by repeat (first | with_reducible exact Below.refl _ _ | with_reducible refine bel_alloc ?_ _ | with_reducible refine bel_set ?_ (by first | exact Nat.le_refl _ | (simp; done) | (simp; omega)) _ | with_reducible refine Below.drew ?_ | refine bel_trans ?_ (by assumption)))⟩
  · simp only [isS_eq, cStruct] at hw
    generalize ((ixOf T.names nm).getD 0) = j at *
    cases hi : ixOf T.names nm with
    | none =>
      simp only [hi, Option.isSome_none] at lk
      simp only [Option.isNone_none, Bool.true_and, if_true, Fm.v]
      clear hi
      go_enter Tryd.func45, Tryd.ntmps45
      go_wp2
      go_quiet (fail)
      go_wp2
      go_ret3
      exact ⟨rfl, (by repeat (first | with_reducible exact Below.refl _ _ | assumption | with_reducible refine bel_alloc ?_ _ | with_reducible refine Below.drew ?_ | with_reducible refine bel_drewN ?_ _ | with_reducible refine bel_set ?_ (by go_light; first | (simp; done) | (simp; omega) | omega) _ | refine bel_trans ?_ (by assumption)))⟩
    | some k =>
      simp only [hi, Option.isSome_some] at lk
      simp only [Option.isNone_some, Bool.and_false, Bool.false_eq_true, if_false, Fm.v]
      clear hi
      go_enter Tryd.func45, Tryd.ntmps45
      go_wp2
      go_quiet (fail)
      go_wp2
      go_ret3
      exact ⟨rfl, (by repeat (first | with_reducible exact Below.refl _ _ | assumption | with_reducible refine bel_alloc ?_ _ | with_reducible refine Below.drew ?_ | with_reducible refine bel_drewN ?_ _ | with_reducible refine bel_set ?_ (by go_light; first | (simp; done) | (simp; omega) | omega) _ | refine bel_trans ?_ (by assumption)))⟩

end Go.Proofs.YtpedfnfangaelaaDoor
