import Derived.Test.YtncondlfngeilaaGreatDoorTzD
import Derived.Test.YtncondlfngeilaaGreatDoorTzA
namespace Go.Proofs.YtncondlfngeilaaGreatDoor
open Go.ChangeShapes Go.WideShapes Go.ChangeAt Go.RowKit
set_option linter.unusedSimpArgs false
set_option linter.unusedVariables false

def Kc (Q : Nat → Prop) (w w' : World) : Prop := ∀ (p : Addr) (u : Value), Q p.block → w.cell? p = some u → w'.cell? p = some u
theorem Kc.refl (Q : Nat → Prop) (w : World) : Kc Q w w := fun _ _ _ h => h
theorem Kc.trans {Q : Nat → Prop} {a b c : World} (h : Kc Q a b) (k : Kc Q b c) : Kc Q a c := fun p u hq hc => k p u hq (h p u hq hc)
theorem Kc.alloc {Q : Nat → Prop} {a b : World} (h : Kc Q a b) (o : Obj) : Kc Q a (b.alloc o) := fun p u hq hc => keep_alloc (h p u hq hc) o
theorem Kc.set {Q : Nat → Prop} {a b : World} (h : Kc Q a b) {q : Addr} (hn : ¬ Q q.block) (v : Value) : Kc Q a (b.setCell q v) := fun p u hq hc => keep_set (h p u hq hc) (fun e => hn (e ▸ hq))
theorem Kc.below {Q : Nat → Prop} {a b : World} {n : Nat} (h : Below n a b) (hn : ∀ k, Q k → k < n) : Kc Q a b := fun p u hq hc => by rw [h.cell (p := p) (hn _ hq)]; exact hc
theorem Kc.all {Q : Nat → Prop} {a b : World} (h : Below a.heap.size a b) : Kc Q a b := fun p u _ hc => keep_cell h hc
theorem Kc.mono {Q R : Nat → Prop} {a b : World} (h : Kc Q a b) (hr : ∀ k, R k → Q k) : Kc R a b := fun p u hq hc => h p u (hr _ hq) hc
def ILq (Q : Nat → Prop) (w : World) (v : Value) (l : List Int) : Prop := IL w v l ∧ (l ≠ [] → ∀ b o s n c, v = .slice (some ⟨b, o, s⟩) n c → Q b)
theorem ILq.keep {Q : Nat → Prop} {w w' : World} {v : Value} {l : List Int} (h : ILq Q w v l) (hk : Kc Q w w') : ILq Q w' v l := by
 obtain ⟨⟨a, cap, hv, h1, h0, h2⟩, hq⟩ := h;refine ⟨⟨a, cap, hv, h1, h0, fun hl => ?_⟩, hq⟩;obtain ⟨b, off, rfl, hc⟩ := h2 hl;exact ⟨b, off, rfl, fun i x hx => hk _ _ (hq hl b off none _ _ hv) (hc i x hx)⟩
theorem ILq.mono {Q R : Nat → Prop} {w : World} {v : Value} {l : List Int} (h : ILq Q w v l) (hr : ∀ k, Q k → R k) : ILq R w v l := ⟨h.1, fun hl b o s n c e => hr _ (h.2 hl b o s n c e)⟩
def InsQ (Q : Nat → Prop) (w : World) (b off : Nat) (i : Ins) : Prop := ∃ v, ILq Q w v i.args ∧ w.cell? ⟨b, off, none⟩ = some (.int .i64 i.op) ∧ w.cell? ⟨b, off + 1, none⟩ = some (.int .i64 i.sub) ∧ w.cell? ⟨b, off + 2, none⟩ = some (.int .i64 i.a) ∧ w.cell? ⟨b, off + 3, none⟩ = some (.int .i64 i.b) ∧
 w.cell? ⟨b, off + 4, none⟩ = some (.int .i64 i.d) ∧ w.cell? ⟨b, off + 5, none⟩ = some (.int .i64 i.k) ∧ w.cell? ⟨b, off + 6, none⟩ = some v ∧ w.cell? ⟨b, off + 7, none⟩ = some (.int .i64 i.s) ∧ w.cell? ⟨b, off + 8, none⟩ = some (.int .i64 i.t)
theorem InsQ.keep {Q : Nat → Prop} {w w' : World} {b off : Nat} {i : Ins} (h : InsQ Q w b off i) (hk : Kc Q w w') (hb : Kc (· = b) w w') : InsQ Q w' b off i := by
 obtain ⟨v, h0, h1, h2, h3, h4, h5, h6, h7, h8, h9⟩ := h;exact ⟨v, h0.keep hk, hb _ _ rfl h1, hb _ _ rfl h2, hb _ _ rfl h3, hb _ _ rfl h4, hb _ _ rfl h5, hb _ _ rfl h6, hb _ _ rfl h7, hb _ _ rfl h8, hb _ _ rfl h9⟩
theorem InsQ.mono {Q R : Nat → Prop} {w : World} {b off : Nat} {i : Ins} (h : InsQ Q w b off i) (hr : ∀ k, Q k → R k) : InsQ R w b off i := by
 obtain ⟨v, h0, hs⟩ := h;exact ⟨v, h0.mono hr, hs⟩
theorem InsQ.at {Q : Nat → Prop} {w : World} {b off : Nat} {i : Ins} (h : InsQ Q w b off i) : InsAt w b off i := by
 obtain ⟨v, h0, hs⟩ := h;exact ⟨v, h0.1, hs⟩
def RowQ (Q : Nat → Prop) (w : World) (b off : Nat) (l : List Ins) : Prop := ∀ (i : Nat) (x : Ins), l[i]? = some x → InsQ Q w b (off + i * 9) x
theorem RowQ.keep {Q : Nat → Prop} {w w' : World} {b off : Nat} {l : List Ins} (h : RowQ Q w b off l) (hk : Kc Q w w') (hb : Kc (· = b) w w') : RowQ Q w' b off l := fun i x hx => (h i x hx).keep hk hb
theorem RowQ.mono {Q R : Nat → Prop} {w : World} {b off : Nat} {l : List Ins} (h : RowQ Q w b off l) (hr : ∀ k, Q k → R k) : RowQ R w b off l := fun i x hx => (h i x hx).mono hr
theorem cell_off {w : World} {b o o' : Nat} {u v : Value} (h : w.cell? ⟨b, o, none⟩ = some u) (hne : o' ≠ o) : (w.setCell ⟨b, o', none⟩ v).cell? ⟨b, o, none⟩ = some u := by
 rw [World.cell?_setCell_other _ _ _ _ (fun e => hne (by cases e; rfl))]; exact h
theorem RowQ.set {Q : Nat → Prop} {w : World} {b off n : Nat} {l : List Ins} {x : Ins} {v : Value} (h : RowQ Q w b off l) (hn : ¬ Q b) (hx : l[n]? = some x) (hv : ILq Q w v x.args) : RowQ Q (w.setCell ⟨b, off + n * 9 + 6, none⟩ v) b off l := by
 intro i y hy;obtain ⟨u, h0, h1, h2, h3, h4, h5, h6, h7, h8, h9⟩ := h i y hy;have hk : Kc Q w (w.setCell ⟨b, off + n * 9 + 6, none⟩ v) := (Kc.refl Q w).set hn v
 by_cases e : i = n
 ·subst e
  cases hx.symm.trans hy
  exact ⟨v, hv.keep hk, cell_off h1 (by omega), cell_off h2 (by omega), cell_off h3 (by omega), cell_off h4 (by omega), cell_off h5 (by omega), cell_off h6 (by omega), World.cell?_setCell_same _ _ _ h7, cell_off h8 (by omega), cell_off h9 (by omega)⟩
 ·exact ⟨u, h0.keep hk, cell_off h1 (by omega), cell_off h2 (by omega), cell_off h3 (by omega), cell_off h4 (by omega), cell_off h5 (by omega), cell_off h6 (by omega), cell_off h7 (by omega), cell_off h8 (by omega), cell_off h9 (by omega)⟩
def CodeQ (Q : Nat → Prop) (w : World) (v : Value) (l : List Ins) : Prop := ∃ (a : Option Addr) (cap : Nat), v = .slice a l.length cap ∧ l.length * 88 ≤ 140737488355328 ∧ (a = none → l = [] ∧ cap = 0) ∧ (l ≠ [] → ∃ b off : Nat, a = some ⟨b, off, none⟩ ∧ Q b ∧ RowQ Q w b off l)
theorem CodeQ.keep {Q : Nat → Prop} {w w' : World} {v : Value} {l : List Ins} (h : CodeQ Q w v l) (hk : Kc Q w w') : CodeQ Q w' v l := by
 obtain ⟨a, cap, hv, h1, h0, h2⟩ := h;refine ⟨a, cap, hv, h1, h0, fun hl => ?_⟩;obtain ⟨b, off, e, hq, hr⟩ := h2 hl;exact ⟨b, off, e, hq, hr.keep hk (hk.mono (fun k e => e ▸ hq))⟩
theorem CodeQ.mono {Q R : Nat → Prop} {w : World} {v : Value} {l : List Ins} (h : CodeQ Q w v l) (hr : ∀ k, Q k → R k) : CodeQ R w v l := by
 obtain ⟨a, cap, hv, h1, h0, h2⟩ := h;refine ⟨a, cap, hv, h1, h0, fun hl => ?_⟩;obtain ⟨b, off, e, hq, h3⟩ := h2 hl;exact ⟨b, off, e, hr _ hq, h3.mono hr⟩
theorem CodeQ.at {Q : Nat → Prop} {w : World} {v : Value} {l : List Ins} (h : CodeQ Q w v l) : CodeAt w v l := by
 obtain ⟨a, cap, hv, h1, h0, h2⟩ := h;refine ⟨a, cap, hv, h1, h0, fun hl => ?_⟩;obtain ⟨b, off, e, hq, h3⟩ := h2 hl;exact ⟨b, off, e, fun i x hx => (h3 i x hx).at⟩
theorem IL.q {w : World} {v : Value} {l : List Int} (h : IL w v l) : ILq (· < w.heap.size) w v l := by
 refine ⟨h, fun hl b' o s n c hs => ?_⟩;obtain ⟨a, cap, hv, h1, h0, h2⟩ := h;obtain ⟨b, off, e, hc⟩ := h2 hl;subst e;rw [hv] at hs
 cases hs
 cases l with
 | nil => exact absurd rfl hl
 | cons x l => exact block_lt_of_cell (hc 0 x rfl)
theorem flat_get {α : Type} (g : α → List Value) (m : Nat) (hg : ∀ r, (g r).length = m) : ∀ (rows : List α) (i j : Nat) (r : α), rows[i]? = some r → j < m → (rows.flatMap g)[i * m + j]? = (g r)[j]?
 | [], i, j, r, h, _ => by simp at h
 | x :: rows, 0, j, r, h, hj => by
  have e : x = r := by simpa using h
  subst e;rw [List.flatMap_cons, Nat.zero_mul, Nat.zero_add, List.getElem?_append_left (by rw [hg]; exact hj)]
 | x :: rows, i + 1, j, r, h, hj => by
  have h' : rows[i]? = some r := by simpa using h
  rw [List.flatMap_cons, List.getElem?_append_right (by rw [hg, Nat.succ_mul]; omega), hg, show (i + 1) * m + j - m = i * m + j by rw [Nat.succ_mul]; omega];exact flat_get g m hg rows i j r h' hj
theorem flat_len {α : Type} (g : α → List Value) (m : Nat) (hg : ∀ r, (g r).length = m) : ∀ (rows : List α), (rows.flatMap g).length = rows.length * m
 | [] => by simp
 | x :: rows => by rw [List.flatMap_cons, List.length_append, hg, flat_len g m hg rows, List.length_cons, Nat.succ_mul]; omega
def fnC (r : Fn × Value × Value) : List Value := [.string r.1.name, r.2.1, .int .i64 r.1.regs, .int .i64 r.1.frame, .int .i64 r.1.entry, r.2.2]
def inC (r : Ins × Value) : List Value := [.int .i64 r.1.op, .int .i64 r.1.sub, .int .i64 r.1.a, .int .i64 r.1.b, .int .i64 r.1.d, .int .i64 r.1.k, r.2, .int .i64 r.1.s, .int .i64 r.1.t]
theorem fnC_len (r : Fn × Value × Value) : (fnC r).length = 6 := rfl
theorem inC_len (r : Ins × Value) : (inC r).length = 9 := rfl
def FnsQ (Q : Nat → Prop) (w : World) (rows : List (Fn × Value × Value)) : Prop := ∀ r ∈ rows, ILq Q w r.2.1 r.1.params ∧ CodeQ Q w r.2.2 r.1.code ∧ r.1.name.size ≤ 140737488355328
theorem FnsQ.keep {Q : Nat → Prop} {w w' : World} {rows : List (Fn × Value × Value)} (h : FnsQ Q w rows) (hk : Kc Q w w') : FnsQ Q w' rows := fun r hr => ⟨(h r hr).1.keep hk, (h r hr).2.1.keep hk, (h r hr).2.2⟩
theorem FnsQ.mono {Q R : Nat → Prop} {w : World} {rows : List (Fn × Value × Value)} (h : FnsQ Q w rows) (hq : ∀ k, Q k → R k) : FnsQ R w rows := fun r hr => ⟨(h r hr).1.mono hq, (h r hr).2.1.mono hq, (h r hr).2.2⟩
theorem FnsQ.snoc {Q : Nat → Prop} {w : World} {rows : List (Fn × Value × Value)} (h : FnsQ Q w rows) {f : Fn} {pv cv : Value} (h1 : ILq Q w pv f.params) (h2 : CodeQ Q w cv f.code) (h3 : f.name.size ≤ 140737488355328) : FnsQ Q w (rows ++ [(f, pv, cv)]) := by
 intro r hr
 rcases List.mem_append.1 hr with h' | h'
 ·exact h r h'
 ·cases List.mem_singleton.1 h'
  exact ⟨h1, h2, h3⟩
theorem FnsQ.at {Q : Nat → Prop} {w : World} {B : Nat} {v : Value} {rows : List (Fn × Value × Value)} {l : List Fn} (h : FnsQ Q w rows) (hl : rows.map (·.1) = l) (ho : w.ownsRow B 25 6 v l.length (rows.flatMap fnC)) (hb : l.length * 88 ≤ 140737488355328) : FnsAt w v l := by
 subst hl
 rcases ho.2 with ⟨h1, h2⟩ | ⟨g, cap, cur, h1, h2, h3, h4, h5, h6, h7⟩
 ·have e : rows.map (·.1) = [] := List.length_eq_zero_iff.1 h2
  exact ⟨none, 0, by rw [h1, h2], hb, fun _ => ⟨e, rfl⟩, fun h => absurd e h⟩
 ·refine ⟨_, cap, h1, hb, (fun h => by cases h), fun hl => ⟨g, 0, rfl, fun i x hx => ?_⟩⟩
  rw [List.getElem?_map, Option.map_eq_some_iff] at hx;obtain ⟨r, hr, rfl⟩ := hx
  have hc : ∀ j u, j < 6 → (fnC r)[j]? = some u → w.cell? ⟨g, 0 + i * 6 + j, none⟩ = some u := by
   intro j u hj hu;have := ho.cells (g := g) (by rw [h1]; rfl) (i * 6 + j) u (by rw [flat_get fnC 6 fnC_len rows i j r hr hj]; exact hu);rw [show (⟨g, 0, none⟩ : Addr).add (i * 6 + j) = ⟨g, 0 + (i * 6 + j), none⟩ from Addr.add_mid _ _ _, ← Nat.add_assoc] at this;exact this
  obtain ⟨q1, q2, q3⟩ := h r (List.mem_of_getElem? hr);exact ⟨r.2.1, r.2.2, q1.1, q2.at, q3, hc 0 _ (by decide) rfl, hc 1 _ (by decide) rfl, hc 2 _ (by decide) rfl, hc 3 _ (by decide) rfl, hc 4 _ (by decide) rfl, hc 5 _ (by decide) rfl⟩
theorem code_rows (w : World) (b : Nat) : ∀ (l : List Ins) (off : Nat), (∀ (i : Nat) (x : Ins), l[i]? = some x → InsAt w b (off + i * 9) x) → ∃ rows : List (Ins × Value), rows.map (·.1) = l ∧ (∀ r ∈ rows, IL w r.2 r.1.args) ∧ ∀ (j : Nat) (u : Value), (rows.flatMap inC)[j]? = some u → w.cell? ⟨b, off + j, none⟩ = some u
 | [], off, _ => ⟨[], rfl, (fun r hr => by cases hr), fun j u h => by simp at h⟩
 | x :: l, off, h => by
  obtain ⟨rows, h1, h2, h3⟩ := code_rows w b l (off + 9) (fun i y hy => by
   have := h (i + 1) y (by simpa using hy);rw [show off + (i + 1) * 9 = off + 9 + i * 9 by omega] at this;exact this)
  obtain ⟨v, c0, c1, c2, c3, c4, c5, c6, c7, c8, c9⟩ := h 0 x rfl;simp only [Nat.zero_mul, Nat.add_zero] at c1 c2 c3 c4 c5 c6 c7 c8 c9;refine ⟨(x, v) :: rows, by rw [List.map_cons, h1], ?_, ?_⟩
  ·intro r hr
   rcases List.mem_cons.1 hr with rfl | hr
   ·exact c0
   ·exact h2 r hr
  ·intro j u hj
   rw [List.flatMap_cons] at hj
   by_cases h9 : j < 9
   ·rw [List.getElem?_append_left (by rw [inC_len]; exact h9)] at hj
    match j, h9, hj with
    | 0, _, hj => cases hj; exact c1
    | 1, _, hj => cases hj; exact c2
    | 2, _, hj => cases hj; exact c3
    | 3, _, hj => cases hj; exact c4
    | 4, _, hj => cases hj; exact c5
    | 5, _, hj => cases hj; exact c6
    | 6, _, hj => cases hj; exact c7
    | 7, _, hj => cases hj; exact c8
    | 8, _, hj => cases hj; exact c9
    | j + 9, h9, _ => omega
   ·rw [List.getElem?_append_right (by rw [inC_len]; omega), inC_len] at hj
    have := h3 _ _ hj;rw [show off + 9 + (j - 9) = off + j by omega] at this;exact this
theorem RowQ.own {Q : Nat → Prop} {w : World} {B g : Nat} {v : Value} {rows : List (Ins × Value)} {l : List Ins} (hl : rows.map (·.1) = l) (hr : ∀ r ∈ rows, ILq Q w r.2 r.1.args) (ho : w.ownsRow B 38 9 v l.length (rows.flatMap inC)) (hg : v.ownBlock = some g) : RowQ Q w g 0 l := by
 subst hl;intro i x hx;rw [List.getElem?_map, Option.map_eq_some_iff] at hx;obtain ⟨r, hi, rfl⟩ := hx
 have hc : ∀ j u, j < 9 → (inC r)[j]? = some u → w.cell? ⟨g, 0 + i * 9 + j, none⟩ = some u := by
  intro j u hj hu;have := ho.cells (g := g) hg (i * 9 + j) u (by rw [flat_get inC 9 inC_len rows i j r hi hj]; exact hu);rw [show (⟨g, 0, none⟩ : Addr).add (i * 9 + j) = ⟨g, 0 + (i * 9 + j), none⟩ from Addr.add_mid _ _ _, ← Nat.add_assoc] at this;exact this
 exact ⟨r.2, hr r (List.mem_of_getElem? hi), hc 0 _ (by decide) rfl, hc 1 _ (by decide) rfl, hc 2 _ (by decide) rfl, hc 3 _ (by decide) rfl, hc 4 _ (by decide) rfl, hc 5 _ (by decide) rfl, hc 6 _ (by decide) rfl, hc 7 _ (by decide) rfl, hc 8 _ (by decide) rfl⟩
end Go.Proofs.YtncondlfngeilaaGreatDoor
namespace Go.Proofs.YtncondlfngeilaaGreatDoor
open Go.ChangeShapes Go.WideShapes Go.ChangeAt Go.RowKit
set_option linter.unusedSimpArgs false
set_option linter.unusedVariables false

theorem xheap_set_same {w : World} {b o : Nat} {c : Array Value} {t : TypeId} {fr : Nat × Nat} (h : w.heap[b]? = some (.cells c t fr)) (v : Value) : (w.setCell ⟨b, o, none⟩ v).heap[b]? = some (.cells (c.setIfInBounds o v) t fr) := by
 simp only [World.setCell, Array.getElem?_modify, if_true, h, Option.map_some]
 rfl
theorem xheap_set_other {w : World} {b b' o : Nat} {v : Value} (h : b ≠ b') : (w.setCell ⟨b', o, none⟩ v).heap[b]? = w.heap[b]? := Below.heap_setCell w ⟨b', o, none⟩ v b h
theorem xheap_cell {w : World} {b o : Nat} {c : Array Value} {t : TypeId} {fr : Nat × Nat} {v : Value} (h : w.heap[b]? = some (.cells c t fr)) (hv : c[o]? = some v) : w.cell? ⟨b, o, none⟩ = some v := by
 rw [cell_of_row w b o c t fr h]; exact hv
theorem xheap_frozen {w : World} {b o : Nat} {c : Array Value} {t : TypeId} (h : w.heap[b]? = some (.cells c t (0, 0))) : w.frozen? ⟨b, o, none⟩ = false := by
 simp [World.frozen?, h]
theorem xsize_set (w : World) (p : Addr) (u : Value) : (w.setCell p u).heap.size = w.heap.size := by simp [World.setCell]
theorem xkeep_heap {W w1 : World} (hb : Below W.heap.size W w1) {b : Nat} {o : Obj} (h : W.heap[b]? = some o) : w1.heap[b]? = some o := (hb.block b (zge h).1).trans h
theorem xheap_new (w : World) (o : Obj) : (w.alloc o).heap[w.heap.size]? = some o := by show (w.heap.push o)[w.heap.size]? = _; exact Array.getElem?_push_size
theorem xheap_lt {w : World} {b : Nat} {o : Obj} (h : w.heap[b]? = some o) : b < w.heap.size := (zge h).1
theorem xrow_lt {w : World} {base e size n : Nat} {v : Value} {xs : List Value} (h : w.ownsRow base e size v n xs) {b : Nat} (hb : v.ownBlock = some b) : b < w.heap.size ∧ base ≤ b := by
 obtain ⟨_, ⟨e0, _⟩ | ⟨g2, c2, cur, e0, hb2, hh, _⟩⟩ := h
 ·rw [e0] at hb; simp [Value.ownBlock] at hb
 ·rw [e0] at hb
  simp only [Value.ownBlock, Option.some.injEq] at hb;subst hb;exact ⟨(zge hh).1, hb2⟩
theorem xowns_of_heap {w w' : World} {base e size n : Nat} {v : Value} {xs : List Value} (h : w.ownsRow base e size v n xs) (hb : ∀ b, v.ownBlock = some b → w'.heap[b]? = w.heap[b]?) : w'.ownsRow base e size v n xs := by
 obtain ⟨hl, ⟨e0, h0⟩ | ⟨g2, c2, cur, e0, hb2, hh, h4, h5, h6, h7⟩⟩ := h
 ·exact ⟨hl, .inl ⟨e0, h0⟩⟩
 ·exact ⟨hl, .inr ⟨g2, c2, cur, e0, hb2, (hb g2 (by rw [e0]; rfl)).trans hh, h4, h5, h6, h7⟩⟩

theorem run_append_fresh {P : Program} (w : World) (t ty e : TypeId) (i : TypeInfo) (z : Value) (size bytes : Nat) (ht : P.underlying t = some (.slice e)) (hi : P.info? e = some i) (hz : i.zero = some z)
  (hsize : i.size = size) (hby : i.bytes = bytes) (hzs : z.cells.size = size) (hsz : 0 < size) (g : Nat) (hg : w.heap[g]? = some (.cells #[] e (0, 0)))
  (xv : Value) (m : Nat) (news : List Value) (hl : news.length = m * size) (hx : Srow w xv m news) (h1 : ∀ u ∈ news, u.oneCell' = true)
  (h63 : m ≤ maxLen) (hbytes : m * bytes ≤ 140737488355328) :
  ∃ a' cap w', (Builtin.append_ #[t, t] ty #[.slice (some ⟨g, 0, none⟩) 0 0, xv]).run P w = .ok (.slice a' m cap) w' ∧ w'.ownsRow g e size (.slice a' m cap) m news ∧ w.grownBy w' (some g) := by
 have ho : w.ownsRow g e size (.slice (some ⟨g, 0, none⟩) 0 0) 0 [] := ⟨by simp, .inr ⟨g, 0, #[], rfl, Nat.le_refl _, hg, Nat.le_refl _, by unfold maxLen; omega, by simp, by simp⟩⟩;have hlt := xheap_lt hg;obtain ⟨a', cap, w', hr, h2, h3, h4⟩ := run_append_any (P := P) w g t ty e i z size bytes ht hi hz hsize hby hzs hsz _ 0 [] ho xv m news hl hx h1 (by omega) (by rw [Nat.zero_add]; exact hbytes) (by omega);rw [Nat.zero_add, List.nil_append] at h2;rw [Nat.zero_add] at hr;exact ⟨a', cap, w', hr, h2, h3⟩
theorem grown_below {w w' : World} {g : Nat} (h : w.grownBy w' (some g)) (hg : g ≤ w.heap.size) : Below g w w' := ⟨h.os, h.tape, h.output, h.size, fun k hk => h.block k (by omega) (fun e => by injection e; omega)⟩
theorem wp_append_fresh {P : Program} (w : World) {o : Oper} {a : Act} {K : Act → World → Prop} {Q : Exit → Act → World → Prop} (s x : Operand) (t : TypeId)
  (ho : o.op = .call { callee := .builtin .append, args := #[s, x], argTypes := #[t, t] })
  (e : TypeId) (i : TypeInfo) (z : Value) (size bytes : Nat) (ht : P.underlying t = some (.slice e)) (hi : P.info? e = some i) (hz : i.zero = some z)
  (hsize : i.size = size) (hby : i.bytes = bytes) (hzs : z.cells.size = size) (hsz : 0 < size) (g : Nat) (hs : a.eval s = .slice (some ⟨g, 0, none⟩) 0 0) (hg : w.heap[g]? = some (.cells #[] e (0, 0)))
  (xv : Value) (m : Nat) (news : List Value) (hx : a.eval x = xv) (hl : news.length = m * size) (hnews : Srow w xv m news) (h1 : ∀ u ∈ news, u.oneCell' = true)
  (h63 : m ≤ maxLen) (hbytes : m * bytes ≤ 140737488355328)
  (h : ∀ a' cap w', w'.ownsRow g e size (.slice a' m cap) m news → w.grownBy w' (some g) → K (a.put o.dst (.slice a' m cap)) w') : o.wp P a w K Q := by
 obtain ⟨a', cap, w', hr, h2, h3⟩ := run_append_fresh (P := P) w t o.type e i z size bytes ht hi hz hsize hby hzs hsz g hg xv m news hl hnews h1 h63 hbytes;unfold Oper.wp execOp;simp only [ho, resolve, invoke, builtin, Sem.run_bind, Sem.run_pure, Result.andThen_ok, List.map_toArray, List.map_cons, List.map_nil, hs, hx, hr];exact h a' cap w' h2 h3
theorem wpList_append_fresh {P : Program} (w : World) {ops : Array Oper} {rest : List Oper} {o : Oper} {a : Act} {Q : Exit → Act → World → Prop} (hgd : o.guard = none) (s x : Operand) (t : TypeId)
  (ho : o.op = .call { callee := .builtin .append, args := #[s, x], argTypes := #[t, t] })
  (e : TypeId) (i : TypeInfo) (z : Value) (size bytes : Nat) (ht : P.underlying t = some (.slice e)) (hi : P.info? e = some i) (hz : i.zero = some z)
  (hsize : i.size = size) (hby : i.bytes = bytes) (hzs : z.cells.size = size) (hsz : 0 < size) (g : Nat) (hs : a.eval s = .slice (some ⟨g, 0, none⟩) 0 0) (hg : w.heap[g]? = some (.cells #[] e (0, 0)))
  (xv : Value) (m : Nat) (news : List Value) (hx : a.eval x = xv) (hl : news.length = m * size) (hnews : Srow w xv m news) (h1 : ∀ u ∈ news, u.oneCell' = true)
  (h63 : m ≤ maxLen) (hbytes : m * bytes ≤ 140737488355328)
  (h : ∀ a' cap w', w'.ownsRow g e size (.slice a' m cap) m news → w.grownBy w' (some g) → wpList P ops Q rest (a.put o.dst (.slice a' m cap)) w') : wpList P ops Q (o :: rest) a w :=
 wpList_plain hgd fun _ hK => wp_append_fresh w s x t ho e i z size bytes ht hi hz hsize hby hzs hsz g hs hg xv m news hx hl hnews h1 h63 hbytes fun a' cap w' h2 h3 => hK _ _ (h a' cap w' h2 h3)
theorem step_append_fresh {P : Program} (w : World) {ops : Array Oper} {o : Oper} {a : Act} {K : Act → World → Prop} {Q : Exit → Act → World → Prop} {E : Prop} (hgd : o.guard = none) (s x : Operand) (t : TypeId)
  (ho : o.op = .call { callee := .builtin .append, args := #[s, x], argTypes := #[t, t] })
  (e : TypeId) (i : TypeInfo) (z : Value) (size bytes : Nat) (ht : P.underlying t = some (.slice e)) (hi : P.info? e = some i) (hz : i.zero = some z)
  (hsize : i.size = size) (hby : i.bytes = bytes) (hzs : z.cells.size = size) (hsz : 0 < size) (g : Nat) (hs : a.eval s = .slice (some ⟨g, 0, none⟩) 0 0) (hg : w.heap[g]? = some (.cells #[] e (0, 0)))
  (xv : Value) (m : Nat) (news : List Value) (hx : a.eval x = xv) (hl : news.length = m * size) (hnews : Srow w xv m news) (h1 : ∀ u ∈ news, u.oneCell' = true)
  (h63 : m ≤ maxLen) (hbytes : m * bytes ≤ 140737488355328)
  (h : ∀ a' cap w', w'.ownsRow g e size (.slice a' m cap) m news → w.grownBy w' (some g) → K (a.put o.dst (.slice a' m cap)) w') :
  if Region.wanted o (yielded ops a.tmps) = true then Oper.wp P o a w K Q else E := by
 have hw : Region.wanted o (yielded ops a.tmps) = true := by simp [Region.wanted, hgd]
 rw [if_pos hw];exact wp_append_fresh w s x t ho e i z size bytes ht hi hz hsize hby hzs hsz g hs hg xv m news hx hl hnews h1 h63 hbytes h
theorem IL.srow {w : World} {v : Value} {l : List Int} (h : IL w v l) : Srow w v l.length (ints l) := by
 obtain ⟨a, cap, hv, h1, h0, h2⟩ := h;subst hv
 cases a with
 | none =>
  obtain ⟨rfl, rfl⟩ := h0 rfl;exact .inr ⟨rfl, rfl⟩
 | some ad =>
  refine .inl ⟨ad, cap, rfl, fun j u hj => ?_⟩;simp only [ints, List.getElem?_map, Option.map_eq_some_iff] at hj;obtain ⟨x, hx, rfl⟩ := hj;obtain ⟨b, off, e, hc⟩ := h2 (fun e => by rw [e] at hx; simp at hx)
  cases e
  rw [show (⟨b, off, none⟩ : Addr).add j = ⟨b, off + j, none⟩ from Addr.add_mid _ _ _];exact hc j x hx
theorem ints_one (l : List Int) : ∀ u ∈ ints l, u.oneCell' = true := by
 intro u hu;simp only [ints, List.mem_map] at hu;obtain ⟨x, _, rfl⟩ := hu
 rfl
theorem IL.fresh {w w' : World} {B : Nat} {v : Value} {l : List Int} (h : w.ownsRow B 3 1 v l.length (ints l)) (hb : l.length * 8 ≤ 140737488355328) : ILq (fun k => B ≤ k ∧ k < w.heap.size) w v l :=
 ⟨IL.own h hb, fun _ b o s n c e => by subst e; have := xrow_lt h (b := b) rfl; exact ⟨this.2, this.1⟩⟩
theorem CodeAt.srow {w : World} {v : Value} {l : List Ins} (h : CodeAt w v l) : ∃ rows : List (Ins × Value), rows.map (·.1) = l ∧ (∀ r ∈ rows, IL w r.2 r.1.args) ∧ Srow w v l.length (rows.flatMap inC) ∧ ∀ u ∈ rows.flatMap inC, u.oneCell' = true := by
 have one : ∀ rows : List (Ins × Value), (∀ r ∈ rows, IL w r.2 r.1.args) → ∀ u ∈ rows.flatMap inC, u.oneCell' = true := by
  intro rows hr u hu;obtain ⟨r, hm, hu⟩ := List.mem_flatMap.1 hu;obtain ⟨a, cap, e, _⟩ := hr r hm;simp only [inC, List.mem_cons, List.not_mem_nil, or_false] at hu
  rcases hu with rfl | rfl | rfl | rfl | rfl | rfl | rfl | rfl | rfl <;> first | rfl | (rw [e]; rfl)
 obtain ⟨a, cap, hv, h1, h0, h2⟩ := h;subst hv
 by_cases hl : l = []
 ·subst hl
  refine ⟨[], rfl, (fun r hr => by cases hr), ?_, fun u hu => by cases hu⟩
  cases a with
  | none =>
   obtain ⟨_, rfl⟩ := h0 rfl;exact .inr ⟨rfl, rfl⟩
  | some ad => exact .inl ⟨ad, cap, rfl, fun j u hj => by simp at hj⟩
 ·obtain ⟨b, off, rfl, hc⟩ := h2 hl
  obtain ⟨rows, e, hr, hcl⟩ := code_rows w b l off hc;refine ⟨rows, e, hr, .inl ⟨_, cap, rfl, fun j u hj => ?_⟩, one rows hr⟩;rw [show (⟨b, off, none⟩ : Addr).add j = ⟨b, off + j, none⟩ from Addr.add_mid _ _ _];exact hcl j u hj

structure CpJ (h0 : Nat) (Wo W : World) (FB CB : Nat) (f : Fn) (pv : Value) (ca : Option Addr) (n cc : Nat) : Prop where
 bel : Below Wo.heap.size Wo W
 box : W.heap[FB]? = some (.cells #[.string f.name, pv, .int .i64 f.regs, .int .i64 f.frame, .int .i64 f.entry, .slice ca n cc] 25 (0, 0))
 par : ILq (fun k => (Wo.heap.size ≤ k ∧ k < W.heap.size) ∧ k ≠ CB) W pv f.params
 len : f.code.length = n
 nil : ca = none → n = 0 ∧ cc = 0
 row : 0 < n → ca = some ⟨CB, 0, none⟩ ∧ (∃ cur, W.heap[CB]? = some (.cells cur 38 (0, 0))) ∧ RowQ (fun k => k < W.heap.size ∧ (k < h0 ∨ Wo.heap.size ≤ k) ∧ k ≠ CB) W CB 0 f.code
 ge : Wo.heap.size ≤ CB
 ne : CB ≠ FB
theorem CpJ.set {Wo W W2 : World} {h0 FB CB n cc k an ac : Nat} {f : Fn} {pv : Value} {ca aa : Option Addr} {x : Ins} (h : CpJ h0 Wo W FB CB f pv ca n cc) (hx : f.code[k]? = some x) (hb : Below W.heap.size W W2) (hil : ILq (fun k => W.heap.size ≤ k ∧ k < W2.heap.size) W2 (.slice aa an ac) x.args) :
  CpJ h0 Wo (W2.setCell ⟨CB, 0 + k * 9 + 6, none⟩ (.slice aa an ac)) FB CB f pv ca n cc := by
 have hk : k < f.code.length := (List.getElem?_eq_some_iff.1 hx).1;have hn : 0 < n := by have := h.len; omega
 obtain ⟨r1, ⟨cur, r2⟩, r3⟩ := h.row hn;have hs := hb.size;have hos := h.bel.size;have hcb := xheap_lt r2;have hal : Below Wo.heap.size Wo W2 := h.bel.trans (hb.mono h.bel.size);have hR : RowQ (fun k => k < W2.heap.size ∧ (k < h0 ∨ Wo.heap.size ≤ k) ∧ k ≠ CB) W2 CB 0 f.code := (r3.keep (Kc.all hb) (Kc.all hb)).mono (fun k hk => ⟨by omega, hk.2⟩);have hR2 := hR.set (n := k) (x := x) (v := .slice aa an ac) (fun hq => hq.2.2 rfl) hx (hil.mono (fun j hj => ⟨hj.2, .inr (by omega), by omega⟩));refine ⟨hal.setCell h.ge _, ?_, ?_, h.len, h.nil, fun _ => ⟨r1, ⟨_, xheap_set_same (xkeep_heap hb r2) _⟩, ?_⟩, h.ge, h.ne⟩
 ·rw [xheap_set_other (Ne.symm h.ne)]
  exact xkeep_heap hb h.box
 ·have p1 := h.par.keep (w' := W2) (Kc.all hb)
  have p2 := p1.keep (w' := W2.setCell ⟨CB, 0 + k * 9 + 6, none⟩ (.slice aa an ac)) ((Kc.refl _ _).set (fun hq => hq.2 rfl) _);exact p2.mono (fun j hj => ⟨⟨hj.1.1, by rw [xsize_set]; omega⟩, hj.2⟩)
 ·exact hR2.mono (fun j hj => by rw [xsize_set]; exact hj)
theorem CpJ.start {Wo W : World} {h0 FB g n cc : Nat} {f : Fn} {pv : Value} {ca : Option Addr} {rows : List (Ins × Value)} (hn : f.code.length = n) (hb : Below Wo.heap.size Wo W) (hbox : W.heap[FB]? = some (.cells #[.string f.name, pv, .int .i64 f.regs, .int .i64 f.frame, .int .i64 f.entry, .slice ca n cc] 25 (0, 0)))
  (hp : ILq (fun k => Wo.heap.size ≤ k ∧ k < g) W pv f.params) (hm : rows.map (·.1) = f.code) (hr : ∀ r ∈ rows, ILq (· < h0) W r.2 r.1.args) (hwo : h0 ≤ Wo.heap.size)
  (ho : W.ownsRow g 38 9 (.slice ca n cc) n (rows.flatMap inC)) (hg : Wo.heap.size ≤ g) (hf : FB < g) (hgs : g < W.heap.size) : ∃ CB, CpJ h0 Wo W FB CB f pv ca n cc := by
 subst hn
 rcases ho.2 with ⟨e, hn0⟩ | ⟨g2, cap, cur, e, hg2, hh, h4, h5, h6, h7⟩
 ·injection e with e1 e2 e3
  refine ⟨g, hb, hbox, hp.mono (fun k hk => ⟨⟨hk.1, by omega⟩, by omega⟩), rfl, fun _ => ⟨hn0, e3⟩, fun h => by omega, hg, by omega⟩
 ·cases e
  have hlt := xheap_lt hh;refine ⟨g2, hb, hbox, hp.mono (fun k hk => ⟨⟨hk.1, by omega⟩, by omega⟩), rfl, (fun h => by cases h), fun _ => ⟨rfl, ⟨_, hh⟩, ?_⟩, by omega, by omega⟩;refine RowQ.own hm (fun r hr' => ?_) ho rfl;exact (hr r hr').mono (fun k hk => ⟨by omega, .inl hk, by omega⟩)
theorem Srow.keep {w w' : World} {v : Value} {m : Nat} {news : List Value} (h : Srow w v m news) (hb : Below w.heap.size w w') : Srow w' v m news := by
 rcases h with ⟨ad, c, e, hn⟩ | h
 ·exact .inl ⟨ad, c, e, fun j u hj => keep_cell hb (hn j u hj)⟩
 ·exact .inr h
theorem CpJ.code {Wo W : World} {h0 FB CB n cc : Nat} {f : Fn} {pv : Value} {ca : Option Addr} (h : CpJ h0 Wo W FB CB f pv ca n cc) (hl : f.code.length * 88 ≤ 140737488355328) : CodeQ (fun k => k < W.heap.size ∧ (k < h0 ∨ Wo.heap.size ≤ k)) W (.slice ca n cc) f.code := by
 refine ⟨ca, cc, by rw [h.len], hl, fun e => ?_, fun hne => ?_⟩
 ·obtain ⟨hz, h1⟩ := h.nil e
  exact ⟨List.eq_nil_of_length_eq_zero (by rw [h.len]; exact hz), h1⟩
 ·have hn : 0 < n := by
   rcases Nat.eq_zero_or_pos n with hz | hz
   ·exact absurd (List.eq_nil_of_length_eq_zero (by rw [h.len]; exact hz)) hne
   ·exact hz
  obtain ⟨r1, ⟨cur, r2⟩, r3⟩ := h.row hn;exact ⟨CB, 0, r1, ⟨xheap_lt r2, .inr h.ge⟩, r3.mono (fun k hk => ⟨hk.1, hk.2.1⟩)⟩

structure CpI (h0 : Nat) (w W : World) (QB : Nat) (gv fv : Value) (main : Int) (globals : List Int) (rows : List (Fn × Value × Value)) : Prop where
 bel : Below w.heap.size w W
 box : W.heap[QB]? = some (.cells #[gv, fv, .int .i64 main] 29 (0, 0))
 own : W.ownsRow w.heap.size 25 6 fv rows.length (rows.flatMap fnC)
 ne : fv.ownBlock ≠ some QB
 ge : w.heap.size ≤ QB
 le : h0 ≤ w.heap.size
 gl : ILq (fun k => k < W.heap.size ∧ k ≠ QB ∧ fv.ownBlock ≠ some k ∧ (k < h0 ∨ w.heap.size ≤ k)) W gv globals
 fns : FnsQ (fun k => k < W.heap.size ∧ k ≠ QB ∧ fv.ownBlock ≠ some k ∧ (k < h0 ∨ w.heap.size ≤ k)) W rows
theorem CpI.step {w Wo W w3 : World} {h0 QB FB CB n cc g cap : Nat} {gv fv pv : Value} {ca : Option Addr} {main : Int} {globals : List Int} {rows : List (Fn × Value × Value)} {f : Fn} {o : Obj} (h : CpI h0 w Wo QB gv fv main globals rows) (j : CpJ h0 Wo W FB CB f pv ca n cc)
  (hl : f.code.length * 88 ≤ 140737488355328) (hnm : f.name.size ≤ 140737488355328)
  (ho : w3.ownsRow w.heap.size 25 6 (.slice (some ⟨g, 0, none⟩) (rows.length + 1) cap) (rows.length + 1) (rows.flatMap fnC ++ fnC (f, pv, .slice ca n cc))) (hg : (W.alloc o).grownBy w3 fv.ownBlock) (hat : fv.ownBlock = some g ∨ g = W.heap.size + 1) :
  CpI h0 w (w3.setCell ⟨QB, 1, none⟩ (.slice (some ⟨g, 0, none⟩) (rows.length + 1) cap)) QB gv (.slice (some ⟨g, 0, none⟩) (rows.length + 1) cap) main globals (rows ++ [(f, pv, .slice ca n cc)]) := by
 have s1 := h.bel.size;have s2 := j.bel.size;have s3 := hg.size;rw [World.size_alloc] at s3;have hQ := xheap_lt h.box
 have hold : ∀ k, k < W.heap.size → fv.ownBlock ≠ some k → w3.heap[k]? = W.heap[k]? := fun k h1 h2 => by
  rw [hg.block k (by rw [World.size_alloc]; omega) (Ne.symm h2), Below.heap_alloc W o k h1]
 have hQ3 : w3.heap[QB]? = some (.cells #[gv, fv, .int .i64 main] 29 (0, 0)) := by
  rw [hold QB (by omega) h.ne];exact xkeep_heap j.bel h.box
 have hrow : ∀ k, fv.ownBlock = some k → k < Wo.heap.size ∧ w.heap.size ≤ k := fun k hk => xrow_lt h.own hk;have hgw : g < w3.heap.size := (xrow_lt ho (b := g) rfl).1
 have hgQ : g ≠ QB := by
  rcases hat with e | e
  ·intro e2; rw [e2] at e; exact h.ne e
  ·omega
 have hgn : ∀ k, k < W.heap.size → fv.ownBlock ≠ some k → g ≠ k := fun k h1 h2 => by
  rcases hat with e | e
  ·intro e2; rw [e2] at e; exact h2 e
  ·omega
 have hkc : Kc (fun k => k < W.heap.size ∧ k ≠ QB ∧ fv.ownBlock ≠ some k ∧ (k < h0 ∨ w.heap.size ≤ k)) W (w3.setCell ⟨QB, 1, none⟩ (.slice (some ⟨g, 0, none⟩) (rows.length + 1) cap)) := fun p u hq hc => by
  have : w3.cell? p = some u := by rw [World.cell?_of_block (hold p.block hq.1 hq.2.2.1)]; exact hc
  exact keep_set this hq.2.1
 have hkc0 : Kc (fun k => k < Wo.heap.size ∧ k ≠ QB ∧ fv.ownBlock ≠ some k ∧ (k < h0 ∨ w.heap.size ≤ k)) Wo (w3.setCell ⟨QB, 1, none⟩ (.slice (some ⟨g, 0, none⟩) (rows.length + 1) cap)) :=
  (Kc.all (Q := fun k => k < Wo.heap.size ∧ k ≠ QB ∧ fv.ownBlock ≠ some k ∧ (k < h0 ∨ w.heap.size ≤ k)) j.bel).trans (hkc.mono (fun k hk => ⟨by omega, hk.2⟩))
 have hmono : ∀ k, (k < Wo.heap.size ∧ k ≠ QB ∧ fv.ownBlock ≠ some k ∧ (k < h0 ∨ w.heap.size ≤ k)) → k < (w3.setCell ⟨QB, 1, none⟩ (.slice (some ⟨g, 0, none⟩) (rows.length + 1) cap)).heap.size ∧ k ≠ QB ∧ (Value.slice (some ⟨g, 0, none⟩) (rows.length + 1) cap).ownBlock ≠ some k ∧ (k < h0 ∨ w.heap.size ≤ k) := fun k hk =>
  ⟨by rw [xsize_set]; omega, hk.2.1, by simp only [Value.ownBlock, ne_eq, Option.some.injEq]; exact hgn k (by omega) hk.2.2.1, hk.2.2.2⟩
 have hnew : ∀ k, (k < W.heap.size ∧ (k < h0 ∨ Wo.heap.size ≤ k)) → (k < W.heap.size ∧ k ≠ QB ∧ fv.ownBlock ≠ some k ∧ (k < h0 ∨ w.heap.size ≤ k)) := fun k hk =>
  ⟨hk.1, by have := h.ge; have := h.le; omega, (fun e => by have := hrow k e; have := h.le; omega), by omega⟩
 have hmono2 : ∀ k, (k < W.heap.size ∧ k ≠ QB ∧ fv.ownBlock ≠ some k ∧ (k < h0 ∨ w.heap.size ≤ k)) → k < (w3.setCell ⟨QB, 1, none⟩ (.slice (some ⟨g, 0, none⟩) (rows.length + 1) cap)).heap.size ∧ k ≠ QB ∧ (Value.slice (some ⟨g, 0, none⟩) (rows.length + 1) cap).ownBlock ≠ some k ∧ (k < h0 ∨ w.heap.size ≤ k) := fun k hk =>
  ⟨by rw [xsize_set]; omega, hk.2.1, by simp only [Value.ownBlock, ne_eq, Option.some.injEq]; exact hgn k hk.1 hk.2.2.1, hk.2.2.2⟩
 refine ⟨?_, ?_, ?_, ?_, h.ge, h.le, (h.gl.keep hkc0).mono hmono, ?_⟩
 ·refine (Below.trans h.bel (?_ : Below w.heap.size Wo w3)).setCell h.ge _
  refine ⟨hg.os.trans j.bel.os, hg.tape.trans j.bel.tape, hg.output.trans j.bel.output, by omega, fun k hk => ?_⟩;rw [hold k (by omega) (fun e => by have := hrow k e; omega)];exact j.bel.block k (by omega)
 ·rw [xheap_set_same hQ3]; rfl
 ·rw [List.length_append, List.length_singleton, List.flatMap_append, List.flatMap_singleton]
  refine xowns_of_heap ho (fun b hb => ?_);simp only [Value.ownBlock, Option.some.injEq] at hb;subst hb;exact xheap_set_other hgQ
 ·simp only [Value.ownBlock, ne_eq, Option.some.injEq]; exact hgQ
 ·refine ((h.fns.keep hkc0).mono hmono).snoc ?_ ?_ hnm
  ·exact ((j.par.mono (fun k hk => hnew k ⟨hk.1.2, .inr hk.1.1⟩)).keep hkc).mono hmono2
  ·exact (((j.code hl).mono hnew).keep hkc).mono hmono2
theorem CpI.done {w W W' : World} {h0 QB : Nat} {gv fv : Value} {p : Pg} {rows : List (Fn × Value × Value)} (h : CpI h0 w W QB gv fv p.main p.globals rows) (hm : rows.map (·.1) = p.funcs) (hl : p.funcs.length * 88 ≤ 140737488355328) (hk : ∀ k, (k < h0 ∨ w.heap.size ≤ k) → W'.heap[k]? = W.heap[k]?) : PgV W' (.agg #[gv, fv, .int .i64 p.main]) p := by
 have hlen : rows.length = p.funcs.length := by rw [← hm, List.length_map]
 have ho := h.own;rw [hlen] at ho;have hkc : Kc (fun k => k < W.heap.size ∧ k ≠ QB ∧ fv.ownBlock ≠ some k ∧ (k < h0 ∨ w.heap.size ≤ k)) W W' := fun q u hq hc => by rw [World.cell?_of_block (hk _ hq.2.2.2)]; exact hc
 exact ⟨gv, fv, rfl, (h.gl.keep hkc).1, (h.fns.keep hkc).at hm (xowns_of_heap ho (fun b hb => hk b (.inr (xrow_lt ho hb).2))) hl⟩
end Go.Proofs.YtncondlfngeilaaGreatDoor
