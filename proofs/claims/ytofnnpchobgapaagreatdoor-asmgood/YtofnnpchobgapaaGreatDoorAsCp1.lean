/- Machine code: rows that are being copied. -/
import Derived.Test.YtofnnpchobgapaaGreatDoorAsL
import Derived.Test.YtofnnpchobgapaaGreatDoorRCp0
namespace Go.Proofs.YtofnnpchobgapaaGreatDoor
open Go.ChangeShapes Go.WideShapes Go.ChangeAt Go.RowKit
set_option linter.unusedSimpArgs false
set_option linter.unusedVariables false

def ints (l : List Int) : List Value := l.map fun n => .int .i64 n
theorem ints_length (l : List Int) : (ints l).length = l.length := List.length_map _
theorem IL.own {w : World} {B : Nat} {v : Value} {l : List Int} (h : w.ownsRow B 3 1 v l.length (ints l)) (hb : l.length * 8 ≤ 140737488355328) : IL w v l := by
  rcases h.2 with ⟨h1, h2⟩ | ⟨g, cap, cur, h1, h2, h3, h4, h5, h6, h7⟩
  · have : l = [] := List.length_eq_zero_iff.1 h2
    subst this
    exact ⟨none, 0, h1, hb, fun _ => ⟨rfl, rfl⟩, fun h => absurd rfl h⟩
  · refine ⟨_, cap, h1, hb, (fun h => by cases h), fun hl => ⟨g, 0, rfl, fun i x hx => ?_⟩⟩
    have := h.cells (g := g) (by rw [h1]; rfl) i (.int .i64 x) (by simp [ints, hx])
    rw [show (⟨g, 0, none⟩ : Addr).add i = ⟨g, 0 + i, none⟩ from Addr.add_mid _ _ _] at this
    exact this
def Kc (Q : Nat → Prop) (w w' : World) : Prop := ∀ (p : Addr) (u : Value), Q p.block → w.cell? p = some u → w'.cell? p = some u
theorem Kc.refl (Q : Nat → Prop) (w : World) : Kc Q w w := fun _ _ _ h => h
theorem Kc.trans {Q : Nat → Prop} {a b c : World} (h : Kc Q a b) (k : Kc Q b c) : Kc Q a c := fun p u hq hc => k p u hq (h p u hq hc)
theorem Kc.alloc {Q : Nat → Prop} {a b : World} (h : Kc Q a b) (o : Obj) : Kc Q a (b.alloc o) := fun p u hq hc => keep_alloc (h p u hq hc) o
theorem Kc.set {Q : Nat → Prop} {a b : World} (h : Kc Q a b) {q : Addr} (hn : ¬ Q q.block) (v : Value) : Kc Q a (b.setCell q v) := fun p u hq hc => keep_set (h p u hq hc) (fun e => hn (e ▸ hq))
theorem Kc.below {Q : Nat → Prop} {a b : World} {n : Nat} (h : Below n a b) (hn : ∀ k, Q k → k < n) : Kc Q a b := fun p u hq hc => by rw [h.cell (p := p) (hn _ hq)]; exact hc
theorem Kc.all {Q : Nat → Prop} {a b : World} (h : Below a.heap.size a b) : Kc Q a b := fun p u _ hc => keep_cell h hc
theorem Kc.mono {Q R : Nat → Prop} {a b : World} (h : Kc Q a b) (hr : ∀ k, R k → Q k) : Kc R a b := fun p u hq hc => h p u (hr _ hq) hc
def ILq (Q : Nat → Prop) (w : World) (v : Value) (l : List Int) : Prop := IL w v l ∧ (l ≠ [] → ∀ b o s n c, v = .slice (some ⟨b, o, s⟩) n c → Q b)
theorem ILq.keep {Q : Nat → Prop} {w w' : World} {v : Value} {l : List Int} (h : ILq Q w v l) (hk : Kc Q w w') : ILq Q w' v l := by
  obtain ⟨⟨a, cap, hv, h1, h0, h2⟩, hq⟩ := h
  refine ⟨⟨a, cap, hv, h1, h0, fun hl => ?_⟩, hq⟩
  obtain ⟨b, off, rfl, hc⟩ := h2 hl
  exact ⟨b, off, rfl, fun i x hx => hk _ _ (hq hl b off none _ _ hv) (hc i x hx)⟩
theorem ILq.mono {Q R : Nat → Prop} {w : World} {v : Value} {l : List Int} (h : ILq Q w v l) (hr : ∀ k, Q k → R k) : ILq R w v l := ⟨h.1, fun hl b o s n c e => hr _ (h.2 hl b o s n c e)⟩
theorem IL.q {w : World} {v : Value} {l : List Int} (h : IL w v l) : ILq (· < w.heap.size) w v l := by
  refine ⟨h, fun hl b' o s n c hs => ?_⟩
  obtain ⟨a, cap, hv, h1, h0, h2⟩ := h
  obtain ⟨b, off, e, hc⟩ := h2 hl
  subst e
  rw [hv] at hs
  cases hs
  cases l with
  | nil => exact absurd rfl hl
  | cons x l => exact block_lt_of_cell (hc 0 x rfl)
theorem flat_get {α : Type} (g : α → List Value) (m : Nat) (hg : ∀ r, (g r).length = m) : ∀ (rows : List α) (i j : Nat) (r : α), rows[i]? = some r → j < m → (rows.flatMap g)[i * m + j]? = (g r)[j]?
  | [], i, j, r, h, _ => by simp at h
  | x :: rows, 0, j, r, h, hj => by
    have e : x = r := by simpa using h
    subst e
    rw [List.flatMap_cons, Nat.zero_mul, Nat.zero_add, List.getElem?_append_left (by rw [hg]; exact hj)]
  | x :: rows, i + 1, j, r, h, hj => by
    have h' : rows[i]? = some r := by simpa using h
    rw [List.flatMap_cons, List.getElem?_append_right (by rw [hg, Nat.succ_mul]; omega), hg, show (i + 1) * m + j - m = i * m + j by rw [Nat.succ_mul]; omega]
    exact flat_get g m hg rows i j r h' hj
theorem flat_len {α : Type} (g : α → List Value) (m : Nat) (hg : ∀ r, (g r).length = m) : ∀ (rows : List α), (rows.flatMap g).length = rows.length * m
  | [] => by simp
  | x :: rows => by rw [List.flatMap_cons, List.length_append, hg, flat_len g m hg rows, List.length_cons, Nat.succ_mul]; omega
theorem xheap_set_same {w : World} {b o : Nat} {c : Array Value} {t : TypeId} {fr : Nat × Nat} (h : w.heap[b]? = some (.cells c t fr)) (v : Value) : (w.setCell ⟨b, o, none⟩ v).heap[b]? = some (.cells (c.setIfInBounds o v) t fr) := by
  simp only [World.setCell, Array.getElem?_modify, if_true, h, Option.map_some]
  rfl
theorem xheap_set_other {w : World} {b b' o : Nat} {v : Value} (h : b ≠ b') : (w.setCell ⟨b', o, none⟩ v).heap[b]? = w.heap[b]? := Below.heap_setCell w ⟨b', o, none⟩ v b h
theorem xheap_cell {w : World} {b o : Nat} {c : Array Value} {t : TypeId} {fr : Nat × Nat} {v : Value} (h : w.heap[b]? = some (.cells c t fr)) (hv : c[o]? = some v) : w.cell? ⟨b, o, none⟩ = some v := by
  rw [cell_of_row w b o c t fr h]; exact hv
theorem xheap_frozen {w : World} {b o : Nat} {c : Array Value} {t : TypeId} (h : w.heap[b]? = some (.cells c t (0, 0))) : w.frozen? ⟨b, o, none⟩ = false := by
  simp [World.frozen?, h]
theorem xsize_set (w : World) (p : Addr) (u : Value) : (w.setCell p u).heap.size = w.heap.size := by simp [World.setCell]
theorem xkeep_heap {W w1 : World} (hb : Below W.heap.size W w1) {b : Nat} {o : Obj} (h : W.heap[b]? = some o) : w1.heap[b]? = some o := (hb.block b (Array.getElem?_eq_some_iff.1 h).1).trans h
theorem xheap_new (w : World) (o : Obj) : (w.alloc o).heap[w.heap.size]? = some o := by show (w.heap.push o)[w.heap.size]? = _; exact Array.getElem?_push_size
theorem xheap_lt {w : World} {b : Nat} {o : Obj} (h : w.heap[b]? = some o) : b < w.heap.size := (Array.getElem?_eq_some_iff.1 h).1
theorem xrow_lt {w : World} {base e size n : Nat} {v : Value} {xs : List Value} (h : w.ownsRow base e size v n xs) {b : Nat} (hb : v.ownBlock = some b) : b < w.heap.size ∧ base ≤ b := by
  obtain ⟨_, ⟨e0, _⟩ | ⟨g2, c2, cur, e0, hb2, hh, _⟩⟩ := h
  · rw [e0] at hb; simp [Value.ownBlock] at hb
  · rw [e0] at hb
    simp only [Value.ownBlock, Option.some.injEq] at hb
    subst hb
    exact ⟨(Array.getElem?_eq_some_iff.1 hh).1, hb2⟩
theorem xowns_of_heap {w w' : World} {base e size n : Nat} {v : Value} {xs : List Value} (h : w.ownsRow base e size v n xs) (hb : ∀ b, v.ownBlock = some b → w'.heap[b]? = w.heap[b]?) : w'.ownsRow base e size v n xs := by
  obtain ⟨hl, ⟨e0, h0⟩ | ⟨g2, c2, cur, e0, hb2, hh, h4, h5, h6, h7⟩⟩ := h
  · exact ⟨hl, .inl ⟨e0, h0⟩⟩
  · exact ⟨hl, .inr ⟨g2, c2, cur, e0, hb2, (hb g2 (by rw [e0]; rfl)).trans hh, h4, h5, h6, h7⟩⟩
theorem run_append_fresh {P : Program} (w : World) (t ty e : TypeId) (i : TypeInfo) (z : Value) (size bytes : Nat) (ht : P.underlying t = some (.slice e)) (hi : P.info? e = some i) (hz : i.zero = some z)
    (hsize : i.size = size) (hby : i.bytes = bytes) (hzs : z.cells.size = size) (hsz : 0 < size) (g : Nat) (hg : w.heap[g]? = some (.cells #[] e (0, 0)))
    (xv : Value) (m : Nat) (news : List Value) (hl : news.length = m * size) (hx : Srow w xv m news) (h1 : ∀ u ∈ news, u.oneCell' = true)
    (h63 : m ≤ maxLen) (hbytes : m * bytes ≤ 140737488355328) :
    ∃ a' cap w', (Builtin.append_ #[t, t] ty #[.slice (some ⟨g, 0, none⟩) 0 0, xv]).run P w = .ok (.slice a' m cap) w' ∧ w'.ownsRow g e size (.slice a' m cap) m news ∧ w.grownBy w' (some g) := by
  have ho : w.ownsRow g e size (.slice (some ⟨g, 0, none⟩) 0 0) 0 [] := ⟨by simp, .inr ⟨g, 0, #[], rfl, Nat.le_refl _, hg, Nat.le_refl _, by unfold maxLen; omega, by simp, by simp⟩⟩
  have hlt := xheap_lt hg
  obtain ⟨a', cap, w', hr, h2, h3, h4⟩ := run_append_any (P := P) w g t ty e i z size bytes ht hi hz hsize hby hzs hsz _ 0 [] ho xv m news hl hx h1 (by omega) (by rw [Nat.zero_add]; exact hbytes) (by omega)
  rw [Nat.zero_add, List.nil_append] at h2
  rw [Nat.zero_add] at hr
  exact ⟨a', cap, w', hr, h2, h3⟩
theorem grown_below {w w' : World} {g : Nat} (h : w.grownBy w' (some g)) (hg : g ≤ w.heap.size) : Below g w w' := ⟨h.os, h.tape, h.output, h.size, fun k hk => h.block k (by omega) (fun e => by injection e; omega)⟩
theorem wp_append_fresh {P : Program} (w : World) {o : Oper} {a : Act} {K : Act → World → Prop} {Q : Exit → Act → World → Prop} (s x : Operand) (t : TypeId)
    (ho : o.op = .call { callee := .builtin .append, args := #[s, x], argTypes := #[t, t] })
    (e : TypeId) (i : TypeInfo) (z : Value) (size bytes : Nat) (ht : P.underlying t = some (.slice e)) (hi : P.info? e = some i) (hz : i.zero = some z)
    (hsize : i.size = size) (hby : i.bytes = bytes) (hzs : z.cells.size = size) (hsz : 0 < size) (g : Nat) (hs : a.eval s = .slice (some ⟨g, 0, none⟩) 0 0) (hg : w.heap[g]? = some (.cells #[] e (0, 0)))
    (xv : Value) (m : Nat) (news : List Value) (hx : a.eval x = xv) (hl : news.length = m * size) (hnews : Srow w xv m news) (h1 : ∀ u ∈ news, u.oneCell' = true)
    (h63 : m ≤ maxLen) (hbytes : m * bytes ≤ 140737488355328)
    (h : ∀ a' cap w', w'.ownsRow g e size (.slice a' m cap) m news → w.grownBy w' (some g) → K (a.put o.dst (.slice a' m cap)) w') : o.wp P a w K Q := by
  obtain ⟨a', cap, w', hr, h2, h3⟩ := run_append_fresh (P := P) w t o.type e i z size bytes ht hi hz hsize hby hzs hsz g hg xv m news hl hnews h1 h63 hbytes
  unfold Oper.wp execOp
  simp only [ho, resolve, invoke, builtin, Sem.run_bind, Sem.run_pure, Result.andThen_ok, List.map_toArray, List.map_cons, List.map_nil, hs, hx, hr]
  exact h a' cap w' h2 h3
theorem wpList_append_fresh {P : Program} (w : World) {ops : Array Oper} {rest : List Oper} {o : Oper} {a : Act} {Q : Exit → Act → World → Prop} (hgd : o.guard = none) (s x : Operand) (t : TypeId)
    (ho : o.op = .call { callee := .builtin .append, args := #[s, x], argTypes := #[t, t] })
    (e : TypeId) (i : TypeInfo) (z : Value) (size bytes : Nat) (ht : P.underlying t = some (.slice e)) (hi : P.info? e = some i) (hz : i.zero = some z)
    (hsize : i.size = size) (hby : i.bytes = bytes) (hzs : z.cells.size = size) (hsz : 0 < size) (g : Nat) (hs : a.eval s = .slice (some ⟨g, 0, none⟩) 0 0) (hg : w.heap[g]? = some (.cells #[] e (0, 0)))
    (xv : Value) (m : Nat) (news : List Value) (hx : a.eval x = xv) (hl : news.length = m * size) (hnews : Srow w xv m news) (h1 : ∀ u ∈ news, u.oneCell' = true)
    (h63 : m ≤ maxLen) (hbytes : m * bytes ≤ 140737488355328)
    (h : ∀ a' cap w', w'.ownsRow g e size (.slice a' m cap) m news → w.grownBy w' (some g) → wpList P ops Q rest (a.put o.dst (.slice a' m cap)) w') : wpList P ops Q (o :: rest) a w :=
  wpList_plain hgd fun _ hK => wp_append_fresh w s x t ho e i z size bytes ht hi hz hsize hby hzs hsz g hs hg xv m news hx hl hnews h1 h63 hbytes fun a' cap w' h2 h3 => hK _ _ (h a' cap w' h2 h3)
theorem step_append_fresh {P : Program} (w : World) {ops : Array Oper} {o : Oper} {a : Act} {K : Act → World → Prop} {Q : Exit → Act → World → Prop} {E : Prop} (hgd : o.guard = none) (s x : Operand) (t : TypeId)
    (ho : o.op = .call { callee := .builtin .append, args := #[s, x], argTypes := #[t, t] })
    (e : TypeId) (i : TypeInfo) (z : Value) (size bytes : Nat) (ht : P.underlying t = some (.slice e)) (hi : P.info? e = some i) (hz : i.zero = some z)
    (hsize : i.size = size) (hby : i.bytes = bytes) (hzs : z.cells.size = size) (hsz : 0 < size) (g : Nat) (hs : a.eval s = .slice (some ⟨g, 0, none⟩) 0 0) (hg : w.heap[g]? = some (.cells #[] e (0, 0)))
    (xv : Value) (m : Nat) (news : List Value) (hx : a.eval x = xv) (hl : news.length = m * size) (hnews : Srow w xv m news) (h1 : ∀ u ∈ news, u.oneCell' = true)
    (h63 : m ≤ maxLen) (hbytes : m * bytes ≤ 140737488355328)
    (h : ∀ a' cap w', w'.ownsRow g e size (.slice a' m cap) m news → w.grownBy w' (some g) → K (a.put o.dst (.slice a' m cap)) w') :
    if Region.wanted o (yielded ops a.tmps) = true then Oper.wp P o a w K Q else E := by
  have hw : Region.wanted o (yielded ops a.tmps) = true := by simp [Region.wanted, hgd]
  rw [if_pos hw]
  exact wp_append_fresh w s x t ho e i z size bytes ht hi hz hsize hby hzs hsz g hs hg xv m news hx hl hnews h1 h63 hbytes h
theorem IL.srow {w : World} {v : Value} {l : List Int} (h : IL w v l) : Srow w v l.length (ints l) := by
  obtain ⟨a, cap, hv, h1, h0, h2⟩ := h
  subst hv
  cases a with
  | none =>
    obtain ⟨rfl, rfl⟩ := h0 rfl
    exact .inr ⟨rfl, rfl⟩
  | some ad =>
    refine .inl ⟨ad, cap, rfl, fun j u hj => ?_⟩
    simp only [ints, List.getElem?_map, Option.map_eq_some_iff] at hj
    obtain ⟨x, hx, rfl⟩ := hj
    obtain ⟨b, off, e, hc⟩ := h2 (fun e => by rw [e] at hx; simp at hx)
    cases e
    rw [show (⟨b, off, none⟩ : Addr).add j = ⟨b, off + j, none⟩ from Addr.add_mid _ _ _]
    exact hc j x hx
theorem ints_one (l : List Int) : ∀ u ∈ ints l, u.oneCell' = true := by
  intro u hu
  simp only [ints, List.mem_map] at hu
  obtain ⟨x, _, rfl⟩ := hu
  rfl
theorem IL.fresh {w w' : World} {B : Nat} {v : Value} {l : List Int} (h : w.ownsRow B 3 1 v l.length (ints l)) (hb : l.length * 8 ≤ 140737488355328) : ILq (fun k => B ≤ k ∧ k < w.heap.size) w v l :=
  ⟨IL.own h hb, fun _ b o s n c e => by subst e; have := xrow_lt h (b := b) rfl; exact ⟨this.2, this.1⟩⟩
theorem Srow.keep {w w' : World} {v : Value} {m : Nat} {news : List Value} (h : Srow w v m news) (hb : Below w.heap.size w w') : Srow w' v m news := by
  rcases h with ⟨ad, c, e, hn⟩ | h
  · exact .inl ⟨ad, c, e, fun j u hj => keep_cell hb (hn j u hj)⟩
  · exact .inr h
theorem step_append_lies {P : Program} (w : World) {ops : Array Oper} {o : Oper} {a : Act} {K : Act → World → Prop} {Q : Exit → Act → World → Prop} {E : Prop} (hgd : o.guard = none) (s x : Operand) (t : TypeId)
    (ho : o.op = .call { callee := .builtin .append, args := #[s, x], argTypes := #[t, t] })
    (base : Nat) (e : TypeId) (i : TypeInfo) (z : Value) (size bytes : Nat) (ht : P.underlying t = some (.slice e)) (hi : P.info? e = some i) (hz : i.zero = some z)
    (hsize : i.size = size) (hby : i.bytes = bytes) (hzs : z.cells.size = size) (hsz : 0 < size)
    (v : Value) (n : Nat) (xs : List Value) (hs : a.eval s = v) (hown : w.ownsRow base e size v n xs)
    (ad : Addr) (m c : Nat) (news : List Value) (hx : a.eval x = .slice (some ad) m c) (hl : news.length = m * size) (hnews : ∀ j u, news[j]? = some u → w.cell? (ad.add j) = some u) (h1 : ∀ u ∈ news, u.oneCell' = true)
    (hm : 0 < m) (h63 : n + m ≤ maxLen) (hbytes : (n + m) * bytes ≤ 140737488355328) (hbase : base ≤ w.heap.size) (H : Nat) (hH : w.heap.size = H)
    (h : ∀ g cap w', w'.ownsRow base e size (.slice (some ⟨g, 0, none⟩) (n + m) cap) (n + m) (xs ++ news) → w.grownBy w' v.ownBlock → (v.ownBlock = some g ∨ g = H) → g < w'.heap.size → K (a.put o.dst (.slice (some ⟨g, 0, none⟩) (n + m) cap)) w') :
    if Region.wanted o (yielded ops a.tmps) = true then Oper.wp P o a w K Q else E := by
  have hw : Region.wanted o (yielded ops a.tmps) = true := by simp [Region.wanted, hgd]
  rw [if_pos hw]
  exact wp_append_lies w s x t ho base e i z size bytes ht hi hz hsize hby hzs hsz v n xs hs hown ad m c news hx hl hnews h1 hm h63 hbytes hbase H hH h
/-- Code's cells. -/
def acC (l : List AIns) : List Value := l.flatMap ainsC
theorem acC_len (l : List AIns) : (acC l).length = l.length * 7 := flat_len ainsC 7 ainsC_len l
theorem acC_one (l : List AIns) : ∀ u ∈ acC l, u.oneCell' = true := by
  intro u hu
  obtain ⟨r, _, hu⟩ := List.mem_flatMap.1 hu
  simp only [ainsC, List.mem_cons, List.not_mem_nil, or_false] at hu
  rcases hu with rfl | rfl | rfl | rfl | rfl | rfl | rfl <;> rfl
theorem acC_get {l : List AIns} {j : Nat} {u : Value} (h : (acC l)[j]? = some u) : ∃ x, l[j / 7]? = some x ∧ (ainsC x)[j % 7]? = some u := by
  have hj : j < l.length * 7 := by rw [← acC_len]; exact (List.getElem?_eq_some_iff.1 h).1
  have hi : j / 7 < l.length := by omega
  have hg := List.getElem?_eq_getElem hi
  refine ⟨_, hg, ?_⟩
  rw [← flat_get ainsC 7 ainsC_len l (j / 7) (j % 7) _ hg (by omega)]
  rw [← h]
  congr 1
  omega
theorem ACodeAt.srow {w : World} {v : Value} {l : List AIns} (h : ACodeAt w v l) : Srow w v l.length (acC l) := by
  obtain ⟨a, cap, hv, h1, h0, h2⟩ := h
  subst hv
  cases a with
  | none =>
    obtain ⟨rfl, rfl⟩ := h0 rfl
    exact .inr ⟨rfl, rfl⟩
  | some ad =>
    refine .inl ⟨ad, cap, rfl, fun j u hj => ?_⟩
    obtain ⟨x, hx, hu⟩ := acC_get hj
    obtain ⟨b, off, e, hc⟩ := h2 (fun e => by rw [e] at hx; simp at hx)
    cases e
    obtain ⟨c0, c1, c2, c3, c4, c5, c6⟩ := hc _ x hx
    rw [show (⟨b, off, none⟩ : Addr).add j = ⟨b, off + j, none⟩ from Addr.add_mid _ _ _]
    have hm : j % 7 = 0 ∨ j % 7 = 1 ∨ j % 7 = 2 ∨ j % 7 = 3 ∨ j % 7 = 4 ∨ j % 7 = 5 ∨ j % 7 = 6 := by omega
    rcases hm with e | e | e | e | e | e | e <;> rw [e] at hu <;> simp [ainsC] at hu <;> subst hu
    · rw [show off + j = off + j / 7 * 7 by omega]; exact c0
    · rw [show off + j = off + j / 7 * 7 + 1 by omega]; exact c1
    · rw [show off + j = off + j / 7 * 7 + 2 by omega]; exact c2
    · rw [show off + j = off + j / 7 * 7 + 3 by omega]; exact c3
    · rw [show off + j = off + j / 7 * 7 + 4 by omega]; exact c4
    · rw [show off + j = off + j / 7 * 7 + 5 by omega]; exact c5
    · rw [show off + j = off + j / 7 * 7 + 6 by omega]; exact c6
/-- Code in Q's blocks. -/
def ACodeQ (Q : Nat → Prop) (w : World) (v : Value) (l : List AIns) : Prop := ACodeAt w v l ∧ (l ≠ [] → ∀ b o s n c, v = .slice (some ⟨b, o, s⟩) n c → Q b)
theorem ACodeQ.keep {Q : Nat → Prop} {w w' : World} {v : Value} {l : List AIns} (h : ACodeQ Q w v l) (hk : Kc Q w w') : ACodeQ Q w' v l := by
  obtain ⟨⟨a, cap, hv, h1, h0, h2⟩, hq⟩ := h
  refine ⟨⟨a, cap, hv, h1, h0, fun hl => ?_⟩, hq⟩
  obtain ⟨b, off, rfl, hc⟩ := h2 hl
  have qb := hq hl b off none _ _ hv
  refine ⟨b, off, rfl, fun i x hx => ?_⟩
  obtain ⟨c0, c1, c2, c3, c4, c5, c6⟩ := hc i x hx
  exact ⟨hk _ _ qb c0, hk _ _ qb c1, hk _ _ qb c2, hk _ _ qb c3, hk _ _ qb c4, hk _ _ qb c5, hk _ _ qb c6⟩
theorem ACodeQ.mono {Q R : Nat → Prop} {w : World} {v : Value} {l : List AIns} (h : ACodeQ Q w v l) (hr : ∀ k, Q k → R k) : ACodeQ R w v l := ⟨h.1, fun hl b o s n c e => hr _ (h.2 hl b o s n c e)⟩
theorem ACodeAt.own {w : World} {B : Nat} {v : Value} {l : List AIns} (h : w.ownsRow B 46 7 v l.length (acC l)) (hb : l.length * 56 ≤ 140737488355328) : ACodeAt w v l := by
  rcases h.2 with ⟨h1, h2⟩ | ⟨g, cap, cur, h1, h2, h3, h4, h5, h6, h7⟩
  · have : l = [] := List.length_eq_zero_iff.1 h2
    subst this
    exact ⟨none, 0, h1, hb, fun _ => ⟨rfl, rfl⟩, fun h => absurd rfl h⟩
  · refine ⟨_, cap, h1, hb, (fun h => by cases h), fun hl => ⟨g, 0, rfl, fun i x hx => ?_⟩⟩
    have hc : ∀ j u, j < 7 → (ainsC x)[j]? = some u → w.cell? ⟨g, 0 + i * 7 + j, none⟩ = some u := by
      intro j u hj hu
      have := h.cells (g := g) (by rw [h1]; rfl) (i * 7 + j) u (by rw [acC, flat_get ainsC 7 ainsC_len l i j x hx hj]; exact hu)
      rw [show (⟨g, 0, none⟩ : Addr).add (i * 7 + j) = ⟨g, 0 + (i * 7 + j), none⟩ from Addr.add_mid _ _ _, ← Nat.add_assoc] at this
      exact this
    exact ⟨hc 0 _ (by decide) rfl, hc 1 _ (by decide) rfl, hc 2 _ (by decide) rfl, hc 3 _ (by decide) rfl, hc 4 _ (by decide) rfl, hc 5 _ (by decide) rfl, hc 6 _ (by decide) rfl⟩
theorem ACodeAt.fresh {w : World} {B : Nat} {v : Value} {l : List AIns} (h : w.ownsRow B 46 7 v l.length (acC l)) (hb : l.length * 56 ≤ 140737488355328) : ACodeQ (fun k => B ≤ k ∧ k < w.heap.size) w v l :=
  ⟨ACodeAt.own h hb, fun _ b o s n c e => by subst e; have := xrow_lt h (b := b) rfl; exact ⟨this.2, this.1⟩⟩
/-- The cells of a function. -/
def afC (r : AFn × Value) : List Value := [.string r.1.name, r.2]
theorem afC_len (r : AFn × Value) : (afC r).length = 2 := rfl
/-- Functions with their code. -/
def AFnsQ (Q : Nat → Prop) (w : World) (rows : List (AFn × Value)) : Prop := ∀ r ∈ rows, ACodeQ Q w r.2 r.1.code ∧ r.1.name.size ≤ 140737488355328
theorem AFnsQ.keep {Q : Nat → Prop} {w w' : World} {rows : List (AFn × Value)} (h : AFnsQ Q w rows) (hk : Kc Q w w') : AFnsQ Q w' rows := fun r hr => ⟨(h r hr).1.keep hk, (h r hr).2⟩
theorem AFnsQ.mono {Q R : Nat → Prop} {w : World} {rows : List (AFn × Value)} (h : AFnsQ Q w rows) (hq : ∀ k, Q k → R k) : AFnsQ R w rows := fun r hr => ⟨(h r hr).1.mono hq, (h r hr).2⟩
theorem AFnsQ.snoc {Q : Nat → Prop} {w : World} {rows : List (AFn × Value)} (h : AFnsQ Q w rows) {f : AFn} {cv : Value} (h2 : ACodeQ Q w cv f.code) (h3 : f.name.size ≤ 140737488355328) : AFnsQ Q w (rows ++ [(f, cv)]) := by
  intro r hr
  rcases List.mem_append.1 hr with h' | h'
  · exact h r h'
  · cases List.mem_singleton.1 h'
    exact ⟨h2, h3⟩
/-- A row that is ours, with its functions' code: functions in memory. -/
theorem AFnsQ.at {Q : Nat → Prop} {w : World} {B : Nat} {v : Value} {rows : List (AFn × Value)} {l : List AFn} (h : AFnsQ Q w rows) (hl : rows.map (·.1) = l) (ho : w.ownsRow B 44 2 v l.length (rows.flatMap afC)) (hb : l.length * 40 ≤ 140737488355328) : AFnsAt w v l := by
  subst hl
  rcases ho.2 with ⟨h1, h2⟩ | ⟨g, cap, cur, h1, h2, h3, h4, h5, h6, h7⟩
  · have e : rows.map (·.1) = [] := List.length_eq_zero_iff.1 h2
    exact ⟨none, 0, by rw [h1, h2], hb, fun _ => ⟨e, rfl⟩, fun h => absurd e h⟩
  · refine ⟨_, cap, h1, hb, (fun h => by cases h), fun hl => ⟨g, 0, rfl, fun i x hx => ?_⟩⟩
    rw [List.getElem?_map, Option.map_eq_some_iff] at hx
    obtain ⟨r, hr, rfl⟩ := hx
    have hc : ∀ j u, j < 2 → (afC r)[j]? = some u → w.cell? ⟨g, 0 + i * 2 + j, none⟩ = some u := by
      intro j u hj hu
      have := ho.cells (g := g) (by rw [h1]; rfl) (i * 2 + j) u (by rw [flat_get afC 2 afC_len rows i j r hr hj]; exact hu)
      rw [show (⟨g, 0, none⟩ : Addr).add (i * 2 + j) = ⟨g, 0 + (i * 2 + j), none⟩ from Addr.add_mid _ _ _, ← Nat.add_assoc] at this
      exact this
    obtain ⟨q2, q3⟩ := h r (List.mem_of_getElem? hr)
    exact ⟨r.2, q2.1, q3, hc 0 _ (by decide) rfl, hc 1 _ (by decide) rfl⟩
/-- A program that is being copied: its box, the functions that are there already. -/
structure ACpI (w W : World) (QB : Nat) (gv fv : Value) (main params : Int) (globals : List Int) (rows : List (AFn × Value)) : Prop where
  bel : Below w.heap.size w W
  box : W.heap[QB]? = some (.cells #[gv, fv, .int .i64 main, .int .i64 params] 25 (0, 0))
  own : W.ownsRow w.heap.size 44 2 fv rows.length (rows.flatMap afC)
  ne : fv.ownBlock ≠ some QB
  ge : w.heap.size ≤ QB
  gl : ILq (fun k => k < W.heap.size ∧ k ≠ QB ∧ fv.ownBlock ≠ some k ∧ w.heap.size ≤ k) W gv globals
  fns : AFnsQ (fun k => k < W.heap.size ∧ k ≠ QB ∧ fv.ownBlock ≠ some k ∧ w.heap.size ≤ k) W rows
/-- Wo: ahead of a function's copying; W: behind its code's; then a row of one, an append, a store. -/
theorem ACpI.step {w Wo W w3 : World} {QB g cap : Nat} {gv fv cv : Value} {main params : Int} {globals : List Int} {rows : List (AFn × Value)} {f : AFn} {o : Obj} (h : ACpI w Wo QB gv fv main params globals rows) (hb : Below Wo.heap.size Wo W) (hc : ACodeQ (fun k => Wo.heap.size ≤ k ∧ k < W.heap.size) W cv f.code)
    (hnm : f.name.size ≤ 140737488355328)
    (ho : w3.ownsRow w.heap.size 44 2 (.slice (some ⟨g, 0, none⟩) (rows.length + 1) cap) (rows.length + 1) (rows.flatMap afC ++ afC (f, cv))) (hg : (W.alloc o).grownBy w3 fv.ownBlock) (hat : fv.ownBlock = some g ∨ g = W.heap.size + 1) :
    ACpI w (w3.setCell ⟨QB, 1, none⟩ (.slice (some ⟨g, 0, none⟩) (rows.length + 1) cap)) QB gv (.slice (some ⟨g, 0, none⟩) (rows.length + 1) cap) main params globals (rows ++ [(f, cv)]) := by
  have s1 := h.bel.size
  have s2 := hb.size
  have s3 := hg.size
  rw [World.size_alloc] at s3
  have hQ := xheap_lt h.box
  have hold : ∀ k, k < W.heap.size → fv.ownBlock ≠ some k → w3.heap[k]? = W.heap[k]? := fun k h1 h2 => by
    rw [hg.block k (by rw [World.size_alloc]; omega) (Ne.symm h2), Below.heap_alloc W o k h1]
  have hQ3 : w3.heap[QB]? = some (.cells #[gv, fv, .int .i64 main, .int .i64 params] 25 (0, 0)) := by
    rw [hold QB (by omega) h.ne]
    exact xkeep_heap hb h.box
  have hrow : ∀ k, fv.ownBlock = some k → k < Wo.heap.size ∧ w.heap.size ≤ k := fun k hk => xrow_lt h.own hk
  have hgw : g < w3.heap.size := (xrow_lt ho (b := g) rfl).1
  have hgQ : g ≠ QB := by
    rcases hat with e | e
    · intro e2; rw [e2] at e; exact h.ne e
    · omega
  have hgn : ∀ k, k < W.heap.size → fv.ownBlock ≠ some k → g ≠ k := fun k h1 h2 => by
    rcases hat with e | e
    · intro e2; rw [e2] at e; exact h2 e
    · omega
  have hkc : Kc (fun k => k < W.heap.size ∧ k ≠ QB ∧ fv.ownBlock ≠ some k ∧ w.heap.size ≤ k) W (w3.setCell ⟨QB, 1, none⟩ (.slice (some ⟨g, 0, none⟩) (rows.length + 1) cap)) := fun p u hq hc => by
    have : w3.cell? p = some u := by rw [World.cell?_of_block (hold p.block hq.1 hq.2.2.1)]; exact hc
    exact keep_set this hq.2.1
  have hkc0 : Kc (fun k => k < Wo.heap.size ∧ k ≠ QB ∧ fv.ownBlock ≠ some k ∧ w.heap.size ≤ k) Wo (w3.setCell ⟨QB, 1, none⟩ (.slice (some ⟨g, 0, none⟩) (rows.length + 1) cap)) :=
    (Kc.all (Q := fun k => k < Wo.heap.size ∧ k ≠ QB ∧ fv.ownBlock ≠ some k ∧ w.heap.size ≤ k) hb).trans (hkc.mono (fun k hk => ⟨by omega, hk.2⟩))
  have hmono : ∀ k, (k < Wo.heap.size ∧ k ≠ QB ∧ fv.ownBlock ≠ some k ∧ w.heap.size ≤ k) → k < (w3.setCell ⟨QB, 1, none⟩ (.slice (some ⟨g, 0, none⟩) (rows.length + 1) cap)).heap.size ∧ k ≠ QB ∧ (Value.slice (some ⟨g, 0, none⟩) (rows.length + 1) cap).ownBlock ≠ some k ∧ w.heap.size ≤ k := fun k hk =>
    ⟨by rw [xsize_set]; omega, hk.2.1, by simp only [Value.ownBlock, ne_eq, Option.some.injEq]; exact hgn k (by omega) hk.2.2.1, hk.2.2.2⟩
  have hnew : ∀ k, (Wo.heap.size ≤ k ∧ k < W.heap.size) → (k < W.heap.size ∧ k ≠ QB ∧ fv.ownBlock ≠ some k ∧ w.heap.size ≤ k) := fun k hk =>
    ⟨hk.2, by omega, (fun e => by have := hrow k e; omega), by omega⟩
  have hmono2 : ∀ k, (k < W.heap.size ∧ k ≠ QB ∧ fv.ownBlock ≠ some k ∧ w.heap.size ≤ k) → k < (w3.setCell ⟨QB, 1, none⟩ (.slice (some ⟨g, 0, none⟩) (rows.length + 1) cap)).heap.size ∧ k ≠ QB ∧ (Value.slice (some ⟨g, 0, none⟩) (rows.length + 1) cap).ownBlock ≠ some k ∧ w.heap.size ≤ k := fun k hk =>
    ⟨by rw [xsize_set]; omega, hk.2.1, by simp only [Value.ownBlock, ne_eq, Option.some.injEq]; exact hgn k hk.1 hk.2.2.1, hk.2.2.2⟩
  refine ⟨?_, ?_, ?_, ?_, h.ge, (h.gl.keep hkc0).mono hmono, ?_⟩
  · refine (Below.trans h.bel (?_ : Below w.heap.size Wo w3)).setCell h.ge _
    refine ⟨hg.os.trans hb.os, hg.tape.trans hb.tape, hg.output.trans hb.output, by omega, fun k hk => ?_⟩
    rw [hold k (by omega) (fun e => by have := hrow k e; omega)]
    exact hb.block k (by omega)
  · rw [xheap_set_same hQ3]; rfl
  · rw [List.length_append, List.length_singleton, List.flatMap_append, List.flatMap_singleton]
    refine xowns_of_heap ho (fun b hb => ?_)
    simp only [Value.ownBlock, Option.some.injEq] at hb
    subst hb
    exact xheap_set_other hgQ
  · simp only [Value.ownBlock, ne_eq, Option.some.injEq]; exact hgQ
  · exact ((h.fns.keep hkc0).mono hmono).snoc (((hc.mono hnew).keep hkc).mono hmono2) hnm
theorem ACpI.done {w W W' : World} {QB : Nat} {gv fv : Value} {p : APg} {rows : List (AFn × Value)} (h : ACpI w W QB gv fv p.main p.params p.globals rows) (hm : rows.map (·.1) = p.funcs) (hl : p.funcs.length * 40 ≤ 140737488355328) (hk : ∀ k, w.heap.size ≤ k → W'.heap[k]? = W.heap[k]?) : APgV W' (.agg #[gv, fv, .int .i64 p.main, .int .i64 p.params]) p := by
  have hlen : rows.length = p.funcs.length := by rw [← hm, List.length_map]
  have ho := h.own
  rw [hlen] at ho
  have hkc : Kc (fun k => k < W.heap.size ∧ k ≠ QB ∧ fv.ownBlock ≠ some k ∧ w.heap.size ≤ k) W W' := fun q u hq hc => by rw [World.cell?_of_block (hk _ hq.2.2.2)]; exact hc
  exact ⟨gv, fv, rfl, (h.gl.keep hkc).1, (h.fns.keep hkc).at hm (xowns_of_heap ho (fun b hb => hk b (xrow_lt ho hb).2)) hl⟩
end Go.Proofs.YtofnnpchobgapaaGreatDoor
