/- Programs in memory, and the blocks that they lie in: what leaves those alone leaves the programs. -/
import Derived.Test.YtfepkekielopmaaGreatDoorRData
namespace Go.Proofs.YtfepkekielopmaaGreatDoor
open Go.ChangeShapes Go.WideShapes Go.ChangeAt Go.RowKit
set_option linter.unusedSimpArgs false
set_option linter.unusedVariables false

/-- What lies in Q's blocks is kept. -/
def Kc (Q : Nat → Prop) (w w' : World) : Prop := ∀ (p : Addr) (u : Value), Q p.block → w.cell? p = some u → w'.cell? p = some u
theorem Kc.refl (Q : Nat → Prop) (w : World) : Kc Q w w := fun _ _ _ h => h
theorem Kc.trans {Q : Nat → Prop} {a b c : World} (h : Kc Q a b) (k : Kc Q b c) : Kc Q a c := fun p u hq hc => k p u hq (h p u hq hc)
theorem Kc.alloc {Q : Nat → Prop} {a b : World} (h : Kc Q a b) (o : Obj) : Kc Q a (b.alloc o) := fun p u hq hc => keep_alloc (h p u hq hc) o
theorem Kc.set {Q : Nat → Prop} {a b : World} (h : Kc Q a b) {q : Addr} (hn : ¬ Q q.block) (v : Value) : Kc Q a (b.setCell q v) := fun p u hq hc => keep_set (h p u hq hc) (fun e => hn (e ▸ hq))
theorem Kc.below {Q : Nat → Prop} {a b : World} {n : Nat} (h : Below n a b) (hn : ∀ k, Q k → k < n) : Kc Q a b := fun p u hq hc => by rw [h.cell (p := p) (hn _ hq)]; exact hc
theorem Kc.all {Q : Nat → Prop} {a b : World} (h : Below a.heap.size a b) : Kc Q a b := fun p u _ hc => keep_cell h hc
theorem Kc.mono {Q R : Nat → Prop} {a b : World} (h : Kc Q a b) (hr : ∀ k, R k → Q k) : Kc R a b := fun p u hq hc => h p u (hr _ hq) hc
/-- A list in Q's blocks. -/
def ILq (Q : Nat → Prop) (w : World) (v : Value) (l : List Int) : Prop := IL w v l ∧ (l ≠ [] → ∀ b o s n c, v = .slice (some ⟨b, o, s⟩) n c → Q b)
theorem ILq.keep {Q : Nat → Prop} {w w' : World} {v : Value} {l : List Int} (h : ILq Q w v l) (hk : Kc Q w w') : ILq Q w' v l := by
  obtain ⟨⟨a, cap, hv, h1, h0, h2⟩, hq⟩ := h
  refine ⟨⟨a, cap, hv, h1, h0, fun hl => ?_⟩, hq⟩
  obtain ⟨b, off, rfl, hc⟩ := h2 hl
  exact ⟨b, off, rfl, fun i x hx => hk _ _ (hq hl b off none _ _ hv) (hc i x hx)⟩
theorem ILq.mono {Q R : Nat → Prop} {w : World} {v : Value} {l : List Int} (h : ILq Q w v l) (hr : ∀ k, Q k → R k) : ILq R w v l := ⟨h.1, fun hl b o s n c e => hr _ (h.2 hl b o s n c e)⟩
/-- An instruction at a place, its list in Q's blocks. -/
def InsQ (Q : Nat → Prop) (w : World) (b off : Nat) (i : Ins) : Prop := ∃ v, ILq Q w v i.args ∧ w.cell? ⟨b, off, none⟩ = some (.int .i64 i.op) ∧ w.cell? ⟨b, off + 1, none⟩ = some (.int .i64 i.sub) ∧ w.cell? ⟨b, off + 2, none⟩ = some (.int .i64 i.a) ∧ w.cell? ⟨b, off + 3, none⟩ = some (.int .i64 i.b) ∧
  w.cell? ⟨b, off + 4, none⟩ = some (.int .i64 i.d) ∧ w.cell? ⟨b, off + 5, none⟩ = some (.int .i64 i.k) ∧ w.cell? ⟨b, off + 6, none⟩ = some v ∧ w.cell? ⟨b, off + 7, none⟩ = some (.int .i64 i.s) ∧ w.cell? ⟨b, off + 8, none⟩ = some (.int .i64 i.t)
theorem InsQ.keep {Q : Nat → Prop} {w w' : World} {b off : Nat} {i : Ins} (h : InsQ Q w b off i) (hk : Kc Q w w') (hb : Kc (· = b) w w') : InsQ Q w' b off i := by
  obtain ⟨v, h0, h1, h2, h3, h4, h5, h6, h7, h8, h9⟩ := h
  exact ⟨v, h0.keep hk, hb _ _ rfl h1, hb _ _ rfl h2, hb _ _ rfl h3, hb _ _ rfl h4, hb _ _ rfl h5, hb _ _ rfl h6, hb _ _ rfl h7, hb _ _ rfl h8, hb _ _ rfl h9⟩
theorem InsQ.mono {Q R : Nat → Prop} {w : World} {b off : Nat} {i : Ins} (h : InsQ Q w b off i) (hr : ∀ k, Q k → R k) : InsQ R w b off i := by
  obtain ⟨v, h0, hs⟩ := h
  exact ⟨v, h0.mono hr, hs⟩
theorem InsQ.at {Q : Nat → Prop} {w : World} {b off : Nat} {i : Ins} (h : InsQ Q w b off i) : InsAt w b off i := by
  obtain ⟨v, h0, hs⟩ := h
  exact ⟨v, h0.1, hs⟩
/-- Instructions in a row. -/
def RowQ (Q : Nat → Prop) (w : World) (b off : Nat) (l : List Ins) : Prop := ∀ (i : Nat) (x : Ins), l[i]? = some x → InsQ Q w b (off + i * 9) x
theorem RowQ.keep {Q : Nat → Prop} {w w' : World} {b off : Nat} {l : List Ins} (h : RowQ Q w b off l) (hk : Kc Q w w') (hb : Kc (· = b) w w') : RowQ Q w' b off l := fun i x hx => (h i x hx).keep hk hb
theorem RowQ.mono {Q R : Nat → Prop} {w : World} {b off : Nat} {l : List Ins} (h : RowQ Q w b off l) (hr : ∀ k, Q k → R k) : RowQ R w b off l := fun i x hx => (h i x hx).mono hr
theorem cell_off {w : World} {b o o' : Nat} {u v : Value} (h : w.cell? ⟨b, o, none⟩ = some u) (hne : o' ≠ o) : (w.setCell ⟨b, o', none⟩ v).cell? ⟨b, o, none⟩ = some u := by
  rw [World.cell?_setCell_other _ _ _ _ (fun e => hne (by cases e; rfl))]; exact h
/-- One instruction's list is turned to another that says the same. -/
theorem RowQ.set {Q : Nat → Prop} {w : World} {b off n : Nat} {l : List Ins} {x : Ins} {v : Value} (h : RowQ Q w b off l) (hn : ¬ Q b) (hx : l[n]? = some x) (hv : ILq Q w v x.args) : RowQ Q (w.setCell ⟨b, off + n * 9 + 6, none⟩ v) b off l := by
  intro i y hy
  obtain ⟨u, h0, h1, h2, h3, h4, h5, h6, h7, h8, h9⟩ := h i y hy
  have hk : Kc Q w (w.setCell ⟨b, off + n * 9 + 6, none⟩ v) := (Kc.refl Q w).set hn v
  by_cases e : i = n
  · subst e
    cases hx.symm.trans hy
    exact ⟨v, hv.keep hk, cell_off h1 (by omega), cell_off h2 (by omega), cell_off h3 (by omega), cell_off h4 (by omega), cell_off h5 (by omega), cell_off h6 (by omega), World.cell?_setCell_same _ _ _ h7, cell_off h8 (by omega), cell_off h9 (by omega)⟩
  · exact ⟨u, h0.keep hk, cell_off h1 (by omega), cell_off h2 (by omega), cell_off h3 (by omega), cell_off h4 (by omega), cell_off h5 (by omega), cell_off h6 (by omega), cell_off h7 (by omega), cell_off h8 (by omega), cell_off h9 (by omega)⟩
/-- Code in Q's blocks. -/
def CodeQ (Q : Nat → Prop) (w : World) (v : Value) (l : List Ins) : Prop := ∃ (a : Option Addr) (cap : Nat), v = .slice a l.length cap ∧ l.length * 88 ≤ 140737488355328 ∧ (a = none → l = [] ∧ cap = 0) ∧ (l ≠ [] → ∃ b off : Nat, a = some ⟨b, off, none⟩ ∧ Q b ∧ RowQ Q w b off l)
theorem CodeQ.keep {Q : Nat → Prop} {w w' : World} {v : Value} {l : List Ins} (h : CodeQ Q w v l) (hk : Kc Q w w') : CodeQ Q w' v l := by
  obtain ⟨a, cap, hv, h1, h0, h2⟩ := h
  refine ⟨a, cap, hv, h1, h0, fun hl => ?_⟩
  obtain ⟨b, off, e, hq, hr⟩ := h2 hl
  exact ⟨b, off, e, hq, hr.keep hk (hk.mono (fun k e => e ▸ hq))⟩
theorem CodeQ.mono {Q R : Nat → Prop} {w : World} {v : Value} {l : List Ins} (h : CodeQ Q w v l) (hr : ∀ k, Q k → R k) : CodeQ R w v l := by
  obtain ⟨a, cap, hv, h1, h0, h2⟩ := h
  refine ⟨a, cap, hv, h1, h0, fun hl => ?_⟩
  obtain ⟨b, off, e, hq, h3⟩ := h2 hl
  exact ⟨b, off, e, hr _ hq, h3.mono hr⟩
theorem CodeQ.at {Q : Nat → Prop} {w : World} {v : Value} {l : List Ins} (h : CodeQ Q w v l) : CodeAt w v l := by
  obtain ⟨a, cap, hv, h1, h0, h2⟩ := h
  refine ⟨a, cap, hv, h1, h0, fun hl => ?_⟩
  obtain ⟨b, off, e, hq, h3⟩ := h2 hl
  exact ⟨b, off, e, fun i x hx => (h3 i x hx).at⟩
/-- A list that lies in a world lies in blocks of that world. -/
theorem IL.q {w : World} {v : Value} {l : List Int} (h : IL w v l) : ILq (· < w.heap.size) w v l := by
  refine ⟨h, fun hl b' o s n c hs => ?_⟩
  obtain ⟨a, cap, hv, h1, h0, h2⟩ := h
  obtain ⟨b, off, e, hc⟩ := h2 hl
  subst e
  rw [hv] at hs
  cases hs
  cases l with
  | nil => exact absurd rfl hl
  | cons x l => exact block_lt_of_cell (hc 0 x rfl)
/-- Rows of pieces of one width. -/
theorem flat_get {α : Type} (g : α → List Value) (m : Nat) (hg : ∀ r, (g r).length = m) : ∀ (rows : List α) (i j : Nat) (r : α), rows[i]? = some r → j < m → (rows.flatMap g)[i * m + j]? = (g r)[j]?
  | [], i, j, r, h, _ => by simp at h
  | x :: rows, 0, j, r, h, hj => by
    have e : x = r := by simpa using h
    subst e
    rw [List.flatMap_cons, Nat.zero_mul, Nat.zero_add, List.getElem?_append_left (by rw [hg]; exact hj)]
  | x :: rows, i + 1, j, r, h, hj => by
    have h' : rows[i]? = some r := by simpa using h
    rw [List.flatMap_cons, List.getElem?_append_right (by rw [hg, Nat.succ_mul]; omega), hg, show (i + 1) * m + j - m = i * m + j by rw [Nat.succ_mul]; omega]
    exact flat_get g m hg rows i j r h' hj
theorem flat_len {α : Type} (g : α → List Value) (m : Nat) (hg : ∀ r, (g r).length = m) : ∀ (rows : List α), (rows.flatMap g).length = rows.length * m
  | [] => by simp
  | x :: rows => by rw [List.flatMap_cons, List.length_append, hg, flat_len g m hg rows, List.length_cons, Nat.succ_mul]; omega
/-- The cells of a function, of an instruction. -/
def fnC (r : Fn × Value × Value) : List Value := [.string r.1.name, r.2.1, .int .i64 r.1.regs, .int .i64 r.1.frame, .int .i64 r.1.entry, r.2.2]
def inC (r : Ins × Value) : List Value := [.int .i64 r.1.op, .int .i64 r.1.sub, .int .i64 r.1.a, .int .i64 r.1.b, .int .i64 r.1.d, .int .i64 r.1.k, r.2, .int .i64 r.1.s, .int .i64 r.1.t]
theorem fnC_len (r : Fn × Value × Value) : (fnC r).length = 6 := rfl
theorem inC_len (r : Ins × Value) : (inC r).length = 9 := rfl
/-- Functions with their lists. -/
def FnsQ (Q : Nat → Prop) (w : World) (rows : List (Fn × Value × Value)) : Prop := ∀ r ∈ rows, ILq Q w r.2.1 r.1.params ∧ CodeQ Q w r.2.2 r.1.code ∧ r.1.name.size ≤ 140737488355328
theorem FnsQ.keep {Q : Nat → Prop} {w w' : World} {rows : List (Fn × Value × Value)} (h : FnsQ Q w rows) (hk : Kc Q w w') : FnsQ Q w' rows := fun r hr => ⟨(h r hr).1.keep hk, (h r hr).2.1.keep hk, (h r hr).2.2⟩
theorem FnsQ.mono {Q R : Nat → Prop} {w : World} {rows : List (Fn × Value × Value)} (h : FnsQ Q w rows) (hq : ∀ k, Q k → R k) : FnsQ R w rows := fun r hr => ⟨(h r hr).1.mono hq, (h r hr).2.1.mono hq, (h r hr).2.2⟩
theorem FnsQ.snoc {Q : Nat → Prop} {w : World} {rows : List (Fn × Value × Value)} (h : FnsQ Q w rows) {f : Fn} {pv cv : Value} (h1 : ILq Q w pv f.params) (h2 : CodeQ Q w cv f.code) (h3 : f.name.size ≤ 140737488355328) : FnsQ Q w (rows ++ [(f, pv, cv)]) := by
  intro r hr
  rcases List.mem_append.1 hr with h' | h'
  · exact h r h'
  · cases List.mem_singleton.1 h'
    exact ⟨h1, h2, h3⟩
/-- A row that is ours, with its functions' lists: functions in memory. -/
theorem FnsQ.at {Q : Nat → Prop} {w : World} {B : Nat} {v : Value} {rows : List (Fn × Value × Value)} {l : List Fn} (h : FnsQ Q w rows) (hl : rows.map (·.1) = l) (ho : w.ownsRow B 49 6 v l.length (rows.flatMap fnC)) (hb : l.length * 88 ≤ 140737488355328) : FnsAt w v l := by
  subst hl
  rcases ho.2 with ⟨h1, h2⟩ | ⟨g, cap, cur, h1, h2, h3, h4, h5, h6, h7⟩
  · have e : rows.map (·.1) = [] := List.length_eq_zero_iff.1 h2
    exact ⟨none, 0, by rw [h1, h2], hb, fun _ => ⟨e, rfl⟩, fun h => absurd e h⟩
  · refine ⟨_, cap, h1, hb, (fun h => by cases h), fun hl => ⟨g, 0, rfl, fun i x hx => ?_⟩⟩
    rw [List.getElem?_map, Option.map_eq_some_iff] at hx
    obtain ⟨r, hr, rfl⟩ := hx
    have hc : ∀ j u, j < 6 → (fnC r)[j]? = some u → w.cell? ⟨g, 0 + i * 6 + j, none⟩ = some u := by
      intro j u hj hu
      have := ho.cells (g := g) (by rw [h1]; rfl) (i * 6 + j) u (by rw [flat_get fnC 6 fnC_len rows i j r hr hj]; exact hu)
      rw [show (⟨g, 0, none⟩ : Addr).add (i * 6 + j) = ⟨g, 0 + (i * 6 + j), none⟩ from Addr.add_mid _ _ _, ← Nat.add_assoc] at this
      exact this
    obtain ⟨q1, q2, q3⟩ := h r (List.mem_of_getElem? hr)
    exact ⟨r.2.1, r.2.2, q1.1, q2.at, q3, hc 0 _ (by decide) rfl, hc 1 _ (by decide) rfl, hc 2 _ (by decide) rfl, hc 3 _ (by decide) rfl, hc 4 _ (by decide) rfl, hc 5 _ (by decide) rfl⟩
/-- Instructions at a place, with the values of their lists. -/
theorem code_rows (w : World) (b : Nat) : ∀ (l : List Ins) (off : Nat), (∀ (i : Nat) (x : Ins), l[i]? = some x → InsAt w b (off + i * 9) x) → ∃ rows : List (Ins × Value), rows.map (·.1) = l ∧ (∀ r ∈ rows, IL w r.2 r.1.args) ∧ ∀ (j : Nat) (u : Value), (rows.flatMap inC)[j]? = some u → w.cell? ⟨b, off + j, none⟩ = some u
  | [], off, _ => ⟨[], rfl, (fun r hr => by cases hr), fun j u h => by simp at h⟩
  | x :: l, off, h => by
    obtain ⟨rows, h1, h2, h3⟩ := code_rows w b l (off + 9) (fun i y hy => by
      have := h (i + 1) y (by simpa using hy)
      rw [show off + (i + 1) * 9 = off + 9 + i * 9 by omega] at this
      exact this)
    obtain ⟨v, c0, c1, c2, c3, c4, c5, c6, c7, c8, c9⟩ := h 0 x rfl
    simp only [Nat.zero_mul, Nat.add_zero] at c1 c2 c3 c4 c5 c6 c7 c8 c9
    refine ⟨(x, v) :: rows, by rw [List.map_cons, h1], ?_, ?_⟩
    · intro r hr
      rcases List.mem_cons.1 hr with rfl | hr
      · exact c0
      · exact h2 r hr
    · intro j u hj
      rw [List.flatMap_cons] at hj
      by_cases h9 : j < 9
      · rw [List.getElem?_append_left (by rw [inC_len]; exact h9)] at hj
        match j, h9, hj with
        | 0, _, hj => cases hj; exact c1
        | 1, _, hj => cases hj; exact c2
        | 2, _, hj => cases hj; exact c3
        | 3, _, hj => cases hj; exact c4
        | 4, _, hj => cases hj; exact c5
        | 5, _, hj => cases hj; exact c6
        | 6, _, hj => cases hj; exact c7
        | 7, _, hj => cases hj; exact c8
        | 8, _, hj => cases hj; exact c9
        | j + 9, h9, _ => omega
      · rw [List.getElem?_append_right (by rw [inC_len]; omega), inC_len] at hj
        have := h3 _ _ hj
        rw [show off + 9 + (j - 9) = off + j by omega] at this
        exact this
/-- A row that is ours, of instructions with their lists. -/
theorem RowQ.own {Q : Nat → Prop} {w : World} {B g : Nat} {v : Value} {rows : List (Ins × Value)} {l : List Ins} (hl : rows.map (·.1) = l) (hr : ∀ r ∈ rows, ILq Q w r.2 r.1.args) (ho : w.ownsRow B 57 9 v l.length (rows.flatMap inC)) (hg : v.ownBlock = some g) : RowQ Q w g 0 l := by
  subst hl
  intro i x hx
  rw [List.getElem?_map, Option.map_eq_some_iff] at hx
  obtain ⟨r, hi, rfl⟩ := hx
  have hc : ∀ j u, j < 9 → (inC r)[j]? = some u → w.cell? ⟨g, 0 + i * 9 + j, none⟩ = some u := by
    intro j u hj hu
    have := ho.cells (g := g) hg (i * 9 + j) u (by rw [flat_get inC 9 inC_len rows i j r hi hj]; exact hu)
    rw [show (⟨g, 0, none⟩ : Addr).add (i * 9 + j) = ⟨g, 0 + (i * 9 + j), none⟩ from Addr.add_mid _ _ _, ← Nat.add_assoc] at this
    exact this
  exact ⟨r.2, hr r (List.mem_of_getElem? hi), hc 0 _ (by decide) rfl, hc 1 _ (by decide) rfl, hc 2 _ (by decide) rfl, hc 3 _ (by decide) rfl, hc 4 _ (by decide) rfl, hc 5 _ (by decide) rfl, hc 6 _ (by decide) rfl, hc 7 _ (by decide) rfl, hc 8 _ (by decide) rfl⟩
end Go.Proofs.YtfepkekielopmaaGreatDoor
