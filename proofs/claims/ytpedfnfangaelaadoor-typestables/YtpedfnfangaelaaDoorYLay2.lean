/- Package types: rows of three cells; contracts of slices.Clone over places, of Layout. -/
import Derived.Test.YtpedfnfangaelaaDoorYLay
namespace Go.Proofs.YtpedfnfangaelaaDoor
open Go.ChangeShapes Go.WideShapes Go.ChangeAt Go.RowKit
set_option linter.unusedSimpArgs false
set_option linter.unusedVariables false

/-- The cells of a row, three to an element. -/
def flat3 {α : Type} (f : α → Value × Value × Value) : List α → List Value
  | [] => []
  | x :: l => (f x).1 :: (f x).2.1 :: (f x).2.2 :: flat3 f l
theorem flat3_len {α : Type} (f : α → Value × Value × Value) : ∀ l : List α, (flat3 f l).length = l.length * 3
  | [] => rfl
  | x :: l => by simp only [flat3, List.length_cons, flat3_len f l]; omega
theorem flat3_append {α : Type} (f : α → Value × Value × Value) : ∀ l m : List α, flat3 f (l ++ m) = flat3 f l ++ flat3 f m
  | [], m => rfl
  | x :: l, m => by simp only [flat3, List.cons_append, flat3_append f l m]
theorem flat3_get {α : Type} (f : α → Value × Value × Value) : ∀ (l : List α) (i : Nat) (x : α), l[i]? = some x → (flat3 f l)[i * 3]? = some (f x).1 ∧ (flat3 f l)[i * 3 + 1]? = some (f x).2.1 ∧ (flat3 f l)[i * 3 + 2]? = some (f x).2.2
  | [], i, x, h => by simp at h
  | y :: l, 0, x, h => by
    simp only [List.getElem?_cons_zero, Option.some.injEq] at h
    subst h
    exact ⟨rfl, rfl, rfl⟩
  | y :: l, i + 1, x, h => by
    rw [List.getElem?_cons_succ] at h
    have := flat3_get f l i x h
    rw [show (i + 1) * 3 = i * 3 + 1 + 1 + 1 by omega]
    exact this
theorem flat3_inv {α : Type} (f : α → Value × Value × Value) : ∀ (l : List α) (j : Nat) (u : Value), (flat3 f l)[j]? = some u → ∃ i x, l[i]? = some x ∧ ((j = i * 3 ∧ u = (f x).1) ∨ (j = i * 3 + 1 ∧ u = (f x).2.1) ∨ (j = i * 3 + 2 ∧ u = (f x).2.2))
  | [], j, u, h => by simp [flat3] at h
  | y :: l, j, u, h => by
    match j, h with
    | 0, h => exact ⟨0, y, rfl, .inl ⟨rfl, by simpa [flat3] using h.symm⟩⟩
    | 1, h => exact ⟨0, y, rfl, .inr (.inl ⟨rfl, by simpa [flat3] using h.symm⟩)⟩
    | 2, h => exact ⟨0, y, rfl, .inr (.inr ⟨rfl, by simpa [flat3] using h.symm⟩)⟩
    | j + 3, h =>
      obtain ⟨i, x, hx, hc⟩ := flat3_inv f l j u (by simpa [flat3] using h)
      refine ⟨i + 1, x, by simpa using hx, ?_⟩
      rcases hc with ⟨h1, h2⟩ | ⟨h1, h2⟩ | ⟨h1, h2⟩
      · exact .inl ⟨by omega, h2⟩
      · exact .inr (.inl ⟨by omega, h2⟩)
      · exact .inr (.inr ⟨by omega, h2⟩)
/-- A place's three cells. -/
def plV (x : Pl) : Value × Value × Value := (.string x.name, .string x.typ, .int .i64 x.off)
theorem row_get {w : World} {base e n : Nat} {v : Value} {xs : List Value} (h : w.ownsRow base e 3 v n xs) {g cap m : Nat} (hv : v = .slice (some ⟨g, 0, none⟩) m cap) {j : Nat} {u : Value} (hj : xs[j]? = some u) : w.cell? ⟨g, j, none⟩ = some u := by
  obtain ⟨hl, ⟨e0, _⟩ | ⟨g2, c2, cur, e0, hb, hh, h4, h5, h6, h7⟩⟩ := h
  · rw [e0] at hv; cases hv
  · rw [e0] at hv
    cases hv
    refine heap_cell hh ?_
    rw [← h7, List.getElem?_take] at hj
    split at hj
    · simpa using hj
    · cases hj
theorem owns_pls {w : World} {base n : Nat} {v : Value} {l : List Pl} (h : w.ownsRow base 49 3 v n (flat3 plV l)) : PlsAt w v l := by
  have hl := h.1
  rw [flat3_len] at hl
  obtain rfl : l.length = n := by omega
  obtain ⟨_, ⟨e0, h0⟩ | ⟨g2, c2, cur, e0, hb, hh, h4, h5, h6, h7⟩⟩ := id h
  · have : l = [] := List.eq_nil_of_length_eq_zero h0
    subst this
    rw [e0]
    exact PlsAt.nil w
  · refine ⟨some ⟨g2, 0, none⟩, c2, e0, h4, by unfold maxLen at h5; omega, fun _ => ⟨g2, 0, rfl, fun i x hx => ?_⟩⟩
    have hg := flat3_get plV l i x hx
    rw [Nat.zero_add]
    exact ⟨row_get h e0 hg.1, row_get h e0 hg.2.1, row_get h e0 hg.2.2⟩
theorem plL_cells {w : World} {b off : Nat} {l : List Pl} (h : ∀ (i : Nat) (x : Pl), l[i]? = some x → w.cell? ⟨b, off + i * 3, none⟩ = some (.string x.name) ∧ w.cell? ⟨b, off + i * 3 + 1, none⟩ = some (.string x.typ) ∧ w.cell? ⟨b, off + i * 3 + 2, none⟩ = some (.int .i64 x.off)) (j : Nat) (u : Value) (hj : (flat3 plV l)[j]? = some u) : w.cell? ((⟨b, off, none⟩ : Addr).add j) = some u := by
  obtain ⟨i, x, hx, hc⟩ := flat3_inv plV l j u hj
  have := h i x hx
  rw [show (⟨b, off, none⟩ : Addr).add j = ⟨b, off + j, none⟩ by simp [Addr.add]]
  rcases hc with ⟨rfl, rfl⟩ | ⟨rfl, rfl⟩ | ⟨rfl, rfl⟩
  · exact this.1
  · exact this.2.1
  · exact this.2.2
theorem nilC (w : World) (a : Option Addr) (n c n' c' : Nat) : (binOp .eql 31 (.slice a n c) (.slice none n' c')).run Tryd.prog w = .ok (.bool a.isNone) w :=
  Lib.run_eql_slice_nil w _ _ a n c n' c' Tryd.underlying31
theorem infoPl : (Tryd.prog.info? 49).map (fun i => (i.zero, i.size, i.bytes)) = some (some (.agg #[.string ⟨#[]⟩, .string ⟨#[]⟩, .int .i64 0]), 3, 40) := by kernel_rfl
theorem keep_alloc {w : World} {p : Addr} {v : Value} (h : w.cell? p = some v) (o : Obj) : (w.alloc o).cell? p = some v := keep_cell (bel_new w o) h
theorem one_pl (l : List Pl) : ∀ u ∈ flat3 plV l, u.oneCell' = true := fun u hu => by
  obtain ⟨j, hj⟩ := List.mem_iff_getElem?.1 hu
  obtain ⟨i, x, hx, hc⟩ := flat3_inv plV l j u hj
  rcases hc with ⟨_, rfl⟩ | ⟨_, rfl⟩ | ⟨_, rfl⟩ <;> rfl
/-- The answer is a slice of these places. -/
def retL (l : List Pl) (w : World) : Ending → World → Prop := fun e w' => ∃ v, e = .returned v ∧ PlsAt w' v l ∧ Below w.heap.size w w'
set_option maxHeartbeats 1000000 in
theorem clonePl_any (v : Value) (l : List Pl) (w : World) (h : PlsAt w v l) (hl : l.length ≤ 65536) (hne : l ≠ []) :
    Calls Tryd.prog 29 #[v] w (retL l w) := by
  obtain ⟨a, cap, rfl, h1, h2, h3⟩ := h
  obtain ⟨b, off, rfl, hc⟩ := h3 hne
  have hn : 0 < l.length := by
    cases l with
    | nil => exact absurd rfl hne
    | cons x l => simp
  obtain ⟨i0, hi, hz0, hz1, hz2⟩ := info_parts infoPl
  have HI : Hid (Tryd.prog.info? 49 = some i0 ∧ i0.zero = some (.agg #[.string ⟨#[]⟩, .string ⟨#[]⟩, .int .i64 0]) ∧ i0.size = 3 ∧ i0.bytes = 40) := ⟨hi, hz0, hz1, hz2⟩
  clear hi hz0 hz1 hz2
  have HL : Hid ((flat3 plV l).length = l.length * 3) := flat3_len plV l
  have HC : Hid (∀ j u, (flat3 plV l)[j]? = some u → (w.alloc (.cells #[] 49)).cell? ((⟨b, off, none⟩ : Addr).add j) = some u) := fun j u hj => keep_alloc (plL_cells hc j u hj) _
  have H2 : Hid (∀ u ∈ flat3 plV l, u.oneCell' = true) := one_pl l
  have HO : Hid ((w.alloc (.cells #[] 49)).ownsRow w.heap.size 49 3 (.slice (some ⟨w.heap.size, 0, none⟩) 0 0) 0 []) := World.ownsRow_made w #[] 0 (Nat.le_refl _) (Nat.zero_le _) rfl
  have q := nilC
  clear hc h3
  go_enter Tryd.func29, Tryd.ntmps29
  go_wp2_with (at_builtin; refine wpList_append_lies _ (by rfl) _ _ 31 (by rfl) w.heap.size 49 i0 (.agg #[.string ⟨#[]⟩, .string ⟨#[]⟩, .int .i64 0]) 3 40 Tryd.underlying31 HI.out.1 HI.out.2.1 HI.out.2.2.1 HI.out.2.2.2 rfl (by omega) (.slice (some ⟨w.heap.size, 0, none⟩) 0 0) 0 [] (by rfl) HO.out ⟨b, off, none⟩ l.length cap (flat3 plV l) (by rfl) HL.out HC.out H2.out hn ?c3 ?c4 (by simp) (w.heap.size + 1) (by simp) ?_)
  case c3 => unfold maxLen; omega
  case c4 => omega
  intro g cap w1 hown hgrow hat hlt
  have HG : Hid (PlsAt w1 (.slice (some ⟨g, 0, none⟩) (0 + l.length) cap) l ∧ Below w.heap.size w w1) := by
    refine ⟨owns_pls (by simpa using hown), ((Below.refl _ w).alloc (Nat.le_refl _) _).grown hgrow (by simp) (by intro k hk; simp [Value.ownBlock] at hk; omega)⟩
  clear hown hgrow hat hlt
  go_wp2
  go_ret
  exact ⟨_, rfl, by simpa using HG.out.1, HG.out.2⟩
/-- The answer of Layout. -/
def retLy (l : List Pl) (ok : Bool) (w : World) : Ending → World → Prop := fun e w' => ∃ v, e = .returned (.tuple #[v, .int .i64 (if ok = true then 0 else 6)]) ∧ PlsAt w' v l ∧ Below w.heap.size w w'
set_option maxHeartbeats 1000000 in
theorem layout_any (tb : Nat) (T : Tab) (s : ByteArray) (hs : s.size ≤ maxLen) (w : World) (h : TabAt w tb T) (hg : (shF T s).2 = true → (shF T s).1.places ≠ [] ∧ (shF T s).1.places.length ≤ 65536) :
    Calls Tryd.prog 11 #[.pointer (some ⟨tb, 0, none⟩), .string s] w (retLy (if (shF T s).2 = true then (shF T s).1.places else []) (shF T s).2 w) := by
  have HF : Hid (Calls Tryd.prog 28 #[.pointer (some ⟨tb, 0, none⟩), .string s] w (retS (shF T s).1 (shF T s).2 w)) := shapeOf_any tb T s hs w h
  clear h hs
  generalize shF T s = sh at *
  obtain ⟨⟨pls, sz, al⟩, ok⟩ := sh
  cases ok
  · simp only [Bool.false_eq_true, if_false]
    go_enter Tryd.func11, Tryd.ntmps11
    go_wp2_with fail
    refine HF.out.mono ?_
    rintro e w1 ⟨pv, rfl, ⟨pa, pc, rfl, hp⟩, hb1⟩
    clear hp
    go_wp2
    go_ret2
    exact ⟨_, by simp, PlsAt.nil _, (by repeat (first | with_reducible exact Below.refl _ _ | assumption | with_reducible refine bel_alloc ?_ _ | with_reducible refine Below.drew ?_ | with_reducible refine bel_drewN ?_ _ | with_reducible refine bel_set ?_ (by go_light; first | (simp; done) | (simp; omega) | omega) _ | refine bel_trans ?_ (by assumption)))⟩
  · simp only [if_true]
    obtain ⟨g1, g2⟩ := hg rfl
    have HC : Hid (∀ w v, PlsAt w v pls → Calls Tryd.prog 29 #[v] w (retL pls w)) := fun w v h => clonePl_any v pls w h g2 g1
    clear g1 g2 hg
    go_enter Tryd.func11, Tryd.ntmps11
    go_wp2_with fail
    refine HF.out.mono ?_
    rintro e w1 ⟨pv, rfl, ⟨pa, pc, rfl, hp⟩, hb1⟩
    have HPl : Hid (PlsAt w1 (.slice pa pls.length pc) pls) := ⟨pa, pc, rfl, hp⟩
    clear hp
    dsimp only
    go_wp2_with fail
    refine (HC.out _ _ (HPl.out.keep (by repeat (first | with_reducible exact Below.refl _ _ | assumption | with_reducible refine bel_alloc ?_ _ | with_reducible refine Below.drew ?_ | with_reducible refine bel_drewN ?_ _ | with_reducible refine bel_set ?_ (by go_light; first | (simp; done) | (simp; omega) | omega) _ | refine bel_trans ?_ (by assumption))))).mono ?_
    rintro e w2 ⟨v2, rfl, hp2, hb2⟩
    have HPv : Hid (PlsAt w2 v2 pls) := hp2
    clear hp2
    go_wp2
    go_ret2
    exact ⟨_, by simp, HPv.out, (by repeat (first | with_reducible exact Below.refl _ _ | assumption | with_reducible refine bel_alloc ?_ _ | with_reducible refine Below.drew ?_ | with_reducible refine bel_drewN ?_ _ | with_reducible refine bel_set ?_ (by go_light; first | (simp; done) | (simp; omega) | omega) _ | refine bel_trans ?_ (by assumption)))⟩

end Go.Proofs.YtpedfnfangaelaaDoor
