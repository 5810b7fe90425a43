/- The document's own graphs: what a program being copied looks like in memory. -/
import Derived.Test.YtfepkekielopmaaGreatDoorRCp1
import Derived.Test.YtfepkekielopmaaGreatDoorRCp0
namespace Go.Proofs.YtfepkekielopmaaGreatDoor
open Go.ChangeShapes Go.WideShapes Go.ChangeAt Go.RowKit
set_option linter.unusedSimpArgs false
set_option linter.unusedVariables false

theorem xheap_set_same {w : World} {b o : Nat} {c : Array Value} {t : TypeId} {fr : Nat × Nat} (h : w.heap[b]? = some (.cells c t fr)) (v : Value) : (w.setCell ⟨b, o, none⟩ v).heap[b]? = some (.cells (c.setIfInBounds o v) t fr) := by
  simp only [World.setCell, Array.getElem?_modify, if_true, h, Option.map_some]
  rfl
theorem xheap_set_other {w : World} {b b' o : Nat} {v : Value} (h : b ≠ b') : (w.setCell ⟨b', o, none⟩ v).heap[b]? = w.heap[b]? := Below.heap_setCell w ⟨b', o, none⟩ v b h
theorem xheap_cell {w : World} {b o : Nat} {c : Array Value} {t : TypeId} {fr : Nat × Nat} {v : Value} (h : w.heap[b]? = some (.cells c t fr)) (hv : c[o]? = some v) : w.cell? ⟨b, o, none⟩ = some v := by
  rw [cell_of_row w b o c t fr h]; exact hv
theorem xheap_frozen {w : World} {b o : Nat} {c : Array Value} {t : TypeId} (h : w.heap[b]? = some (.cells c t (0, 0))) : w.frozen? ⟨b, o, none⟩ = false := by
  simp [World.frozen?, h]
theorem xsize_set (w : World) (p : Addr) (u : Value) : (w.setCell p u).heap.size = w.heap.size := by simp [World.setCell]
theorem xkeep_heap {W w1 : World} (hb : Below W.heap.size W w1) {b : Nat} {o : Obj} (h : W.heap[b]? = some o) : w1.heap[b]? = some o := (hb.block b (Array.getElem?_eq_some_iff.1 h).1).trans h
theorem xheap_new (w : World) (o : Obj) : (w.alloc o).heap[w.heap.size]? = some o := by show (w.heap.push o)[w.heap.size]? = _; exact Array.getElem?_push_size
theorem xheap_lt {w : World} {b : Nat} {o : Obj} (h : w.heap[b]? = some o) : b < w.heap.size := (Array.getElem?_eq_some_iff.1 h).1
theorem xrow_lt {w : World} {base e size n : Nat} {v : Value} {xs : List Value} (h : w.ownsRow base e size v n xs) {b : Nat} (hb : v.ownBlock = some b) : b < w.heap.size ∧ base ≤ b := by
  obtain ⟨_, ⟨e0, _⟩ | ⟨g2, c2, cur, e0, hb2, hh, _⟩⟩ := h
  · rw [e0] at hb; simp [Value.ownBlock] at hb
  · rw [e0] at hb
    simp only [Value.ownBlock, Option.some.injEq] at hb
    subst hb
    exact ⟨(Array.getElem?_eq_some_iff.1 hh).1, hb2⟩
theorem xowns_of_heap {w w' : World} {base e size n : Nat} {v : Value} {xs : List Value} (h : w.ownsRow base e size v n xs) (hb : ∀ b, v.ownBlock = some b → w'.heap[b]? = w.heap[b]?) : w'.ownsRow base e size v n xs := by
  obtain ⟨hl, ⟨e0, h0⟩ | ⟨g2, c2, cur, e0, hb2, hh, h4, h5, h6, h7⟩⟩ := h
  · exact ⟨hl, .inl ⟨e0, h0⟩⟩
  · exact ⟨hl, .inr ⟨g2, c2, cur, e0, hb2, (hb g2 (by rw [e0]; rfl)).trans hh, h4, h5, h6, h7⟩⟩

/-- append onto an empty row that was just made. -/
theorem run_append_fresh {P : Program} (w : World) (t ty e : TypeId) (i : TypeInfo) (z : Value) (size bytes : Nat) (ht : P.underlying t = some (.slice e)) (hi : P.info? e = some i) (hz : i.zero = some z)
    (hsize : i.size = size) (hby : i.bytes = bytes) (hzs : z.cells.size = size) (hsz : 0 < size) (g : Nat) (hg : w.heap[g]? = some (.cells #[] e (0, 0)))
    (xv : Value) (m : Nat) (news : List Value) (hl : news.length = m * size) (hx : Srow w xv m news) (h1 : ∀ u ∈ news, u.oneCell' = true)
    (h63 : m ≤ maxLen) (hbytes : m * bytes ≤ 140737488355328) :
    ∃ a' cap w', (Builtin.append_ #[t, t] ty #[.slice (some ⟨g, 0, none⟩) 0 0, xv]).run P w = .ok (.slice a' m cap) w' ∧ w'.ownsRow g e size (.slice a' m cap) m news ∧ w.grownBy w' (some g) := by
  have ho : w.ownsRow g e size (.slice (some ⟨g, 0, none⟩) 0 0) 0 [] := ⟨by simp, .inr ⟨g, 0, #[], rfl, Nat.le_refl _, hg, Nat.le_refl _, by unfold maxLen; omega, by simp, by simp⟩⟩
  have hlt := xheap_lt hg
  obtain ⟨a', cap, w', hr, h2, h3, h4⟩ := run_append_any (P := P) w g t ty e i z size bytes ht hi hz hsize hby hzs hsz _ 0 [] ho xv m news hl hx h1 (by omega) (by rw [Nat.zero_add]; exact hbytes) (by omega)
  rw [Nat.zero_add, List.nil_append] at h2
  rw [Nat.zero_add] at hr
  exact ⟨a', cap, w', hr, h2, h3⟩
theorem grown_below {w w' : World} {g : Nat} (h : w.grownBy w' (some g)) (hg : g ≤ w.heap.size) : Below g w w' := ⟨h.os, h.tape, h.output, h.size, fun k hk => h.block k (by omega) (fun e => by injection e; omega)⟩
theorem wp_append_fresh {P : Program} (w : World) {o : Oper} {a : Act} {K : Act → World → Prop} {Q : Exit → Act → World → Prop} (s x : Operand) (t : TypeId)
    (ho : o.op = .call { callee := .builtin .append, args := #[s, x], argTypes := #[t, t] })
    (e : TypeId) (i : TypeInfo) (z : Value) (size bytes : Nat) (ht : P.underlying t = some (.slice e)) (hi : P.info? e = some i) (hz : i.zero = some z)
    (hsize : i.size = size) (hby : i.bytes = bytes) (hzs : z.cells.size = size) (hsz : 0 < size) (g : Nat) (hs : a.eval s = .slice (some ⟨g, 0, none⟩) 0 0) (hg : w.heap[g]? = some (.cells #[] e (0, 0)))
    (xv : Value) (m : Nat) (news : List Value) (hx : a.eval x = xv) (hl : news.length = m * size) (hnews : Srow w xv m news) (h1 : ∀ u ∈ news, u.oneCell' = true)
    (h63 : m ≤ maxLen) (hbytes : m * bytes ≤ 140737488355328)
    (h : ∀ a' cap w', w'.ownsRow g e size (.slice a' m cap) m news → w.grownBy w' (some g) → K (a.put o.dst (.slice a' m cap)) w') : o.wp P a w K Q := by
  obtain ⟨a', cap, w', hr, h2, h3⟩ := run_append_fresh (P := P) w t o.type e i z size bytes ht hi hz hsize hby hzs hsz g hg xv m news hl hnews h1 h63 hbytes
  unfold Oper.wp execOp
  simp only [ho, resolve, invoke, builtin, Sem.run_bind, Sem.run_pure, Result.andThen_ok, List.map_toArray, List.map_cons, List.map_nil, hs, hx, hr]
  exact h a' cap w' h2 h3
theorem wpList_append_fresh {P : Program} (w : World) {ops : Array Oper} {rest : List Oper} {o : Oper} {a : Act} {Q : Exit → Act → World → Prop} (hgd : o.guard = none) (s x : Operand) (t : TypeId)
    (ho : o.op = .call { callee := .builtin .append, args := #[s, x], argTypes := #[t, t] })
    (e : TypeId) (i : TypeInfo) (z : Value) (size bytes : Nat) (ht : P.underlying t = some (.slice e)) (hi : P.info? e = some i) (hz : i.zero = some z)
    (hsize : i.size = size) (hby : i.bytes = bytes) (hzs : z.cells.size = size) (hsz : 0 < size) (g : Nat) (hs : a.eval s = .slice (some ⟨g, 0, none⟩) 0 0) (hg : w.heap[g]? = some (.cells #[] e (0, 0)))
    (xv : Value) (m : Nat) (news : List Value) (hx : a.eval x = xv) (hl : news.length = m * size) (hnews : Srow w xv m news) (h1 : ∀ u ∈ news, u.oneCell' = true)
    (h63 : m ≤ maxLen) (hbytes : m * bytes ≤ 140737488355328)
    (h : ∀ a' cap w', w'.ownsRow g e size (.slice a' m cap) m news → w.grownBy w' (some g) → wpList P ops Q rest (a.put o.dst (.slice a' m cap)) w') : wpList P ops Q (o :: rest) a w :=
  wpList_plain hgd fun _ hK => wp_append_fresh w s x t ho e i z size bytes ht hi hz hsize hby hzs hsz g hs hg xv m news hx hl hnews h1 h63 hbytes fun a' cap w' h2 h3 => hK _ _ (h a' cap w' h2 h3)
theorem step_append_fresh {P : Program} (w : World) {ops : Array Oper} {o : Oper} {a : Act} {K : Act → World → Prop} {Q : Exit → Act → World → Prop} {E : Prop} (hgd : o.guard = none) (s x : Operand) (t : TypeId)
    (ho : o.op = .call { callee := .builtin .append, args := #[s, x], argTypes := #[t, t] })
    (e : TypeId) (i : TypeInfo) (z : Value) (size bytes : Nat) (ht : P.underlying t = some (.slice e)) (hi : P.info? e = some i) (hz : i.zero = some z)
    (hsize : i.size = size) (hby : i.bytes = bytes) (hzs : z.cells.size = size) (hsz : 0 < size) (g : Nat) (hs : a.eval s = .slice (some ⟨g, 0, none⟩) 0 0) (hg : w.heap[g]? = some (.cells #[] e (0, 0)))
    (xv : Value) (m : Nat) (news : List Value) (hx : a.eval x = xv) (hl : news.length = m * size) (hnews : Srow w xv m news) (h1 : ∀ u ∈ news, u.oneCell' = true)
    (h63 : m ≤ maxLen) (hbytes : m * bytes ≤ 140737488355328)
    (h : ∀ a' cap w', w'.ownsRow g e size (.slice a' m cap) m news → w.grownBy w' (some g) → K (a.put o.dst (.slice a' m cap)) w') :
    if Region.wanted o (yielded ops a.tmps) = true then Oper.wp P o a w K Q else E := by
  have hw : Region.wanted o (yielded ops a.tmps) = true := by simp [Region.wanted, hgd]
  rw [if_pos hw]
  exact wp_append_fresh w s x t ho e i z size bytes ht hi hz hsize hby hzs hsz g hs hg xv m news hx hl hnews h1 h63 hbytes h
theorem IL.srow {w : World} {v : Value} {l : List Int} (h : IL w v l) : Srow w v l.length (ints l) := by
  obtain ⟨a, cap, hv, h1, h0, h2⟩ := h
  subst hv
  cases a with
  | none =>
    obtain ⟨rfl, rfl⟩ := h0 rfl
    exact .inr ⟨rfl, rfl⟩
  | some ad =>
    refine .inl ⟨ad, cap, rfl, fun j u hj => ?_⟩
    simp only [ints, List.getElem?_map, Option.map_eq_some_iff] at hj
    obtain ⟨x, hx, rfl⟩ := hj
    obtain ⟨b, off, e, hc⟩ := h2 (fun e => by rw [e] at hx; simp at hx)
    cases e
    rw [show (⟨b, off, none⟩ : Addr).add j = ⟨b, off + j, none⟩ from Addr.add_mid _ _ _]
    exact hc j x hx
theorem ints_one (l : List Int) : ∀ u ∈ ints l, u.oneCell' = true := by
  intro u hu
  simp only [ints, List.mem_map] at hu
  obtain ⟨x, _, rfl⟩ := hu
  rfl
/-- A list in a row that is ours and new. -/
theorem IL.fresh {w w' : World} {B : Nat} {v : Value} {l : List Int} (h : w.ownsRow B 3 1 v l.length (ints l)) (hb : l.length * 8 ≤ 140737488355328) : ILq (fun k => B ≤ k ∧ k < w.heap.size) w v l :=
  ⟨IL.own h hb, fun _ b o s n c e => by subst e; have := xrow_lt h (b := b) rfl; exact ⟨this.2, this.1⟩⟩
/-- Code's cells, with the lists that it has. -/
theorem CodeAt.srow {w : World} {v : Value} {l : List Ins} (h : CodeAt w v l) : ∃ rows : List (Ins × Value), rows.map (·.1) = l ∧ (∀ r ∈ rows, IL w r.2 r.1.args) ∧ Srow w v l.length (rows.flatMap inC) ∧ ∀ u ∈ rows.flatMap inC, u.oneCell' = true := by
  have one : ∀ rows : List (Ins × Value), (∀ r ∈ rows, IL w r.2 r.1.args) → ∀ u ∈ rows.flatMap inC, u.oneCell' = true := by
    intro rows hr u hu
    obtain ⟨r, hm, hu⟩ := List.mem_flatMap.1 hu
    obtain ⟨a, cap, e, _⟩ := hr r hm
    simp only [inC, List.mem_cons, List.not_mem_nil, or_false] at hu
    rcases hu with rfl | rfl | rfl | rfl | rfl | rfl | rfl | rfl | rfl <;> first | rfl | (rw [e]; rfl)
  obtain ⟨a, cap, hv, h1, h0, h2⟩ := h
  subst hv
  by_cases hl : l = []
  · subst hl
    refine ⟨[], rfl, (fun r hr => by cases hr), ?_, fun u hu => by cases hu⟩
    cases a with
    | none =>
      obtain ⟨_, rfl⟩ := h0 rfl
      exact .inr ⟨rfl, rfl⟩
    | some ad => exact .inl ⟨ad, cap, rfl, fun j u hj => by simp at hj⟩
  · obtain ⟨b, off, rfl, hc⟩ := h2 hl
    obtain ⟨rows, e, hr, hcl⟩ := code_rows w b l off hc
    refine ⟨rows, e, hr, .inl ⟨_, cap, rfl, fun j u hj => ?_⟩, one rows hr⟩
    rw [show (⟨b, off, none⟩ : Addr).add j = ⟨b, off + j, none⟩ from Addr.add_mid _ _ _]
    exact hcl j u hj

/-- A function that is being copied: its box, its lists, its code's row. -/
structure CpJ (h0 : Nat) (Wo W : World) (FB CB : Nat) (f : Fn) (pv : Value) (ca : Option Addr) (n cc : Nat) : Prop where
  bel : Below Wo.heap.size Wo W
  box : W.heap[FB]? = some (.cells #[.string f.name, pv, .int .i64 f.regs, .int .i64 f.frame, .int .i64 f.entry, .slice ca n cc] 49 (0, 0))
  par : ILq (fun k => (Wo.heap.size ≤ k ∧ k < W.heap.size) ∧ k ≠ CB) W pv f.params
  len : f.code.length = n
  nil : ca = none → n = 0 ∧ cc = 0
  row : 0 < n → ca = some ⟨CB, 0, none⟩ ∧ (∃ cur, W.heap[CB]? = some (.cells cur 57 (0, 0))) ∧ RowQ (fun k => k < W.heap.size ∧ (k < h0 ∨ Wo.heap.size ≤ k) ∧ k ≠ CB) W CB 0 f.code
  ge : Wo.heap.size ≤ CB
  ne : CB ≠ FB
theorem CpJ.set {Wo W W2 : World} {h0 FB CB n cc k an ac : Nat} {f : Fn} {pv : Value} {ca aa : Option Addr} {x : Ins} (h : CpJ h0 Wo W FB CB f pv ca n cc) (hx : f.code[k]? = some x) (hb : Below W.heap.size W W2) (hil : ILq (fun k => W.heap.size ≤ k ∧ k < W2.heap.size) W2 (.slice aa an ac) x.args) :
    CpJ h0 Wo (W2.setCell ⟨CB, 0 + k * 9 + 6, none⟩ (.slice aa an ac)) FB CB f pv ca n cc := by
  have hk : k < f.code.length := (List.getElem?_eq_some_iff.1 hx).1
  have hn : 0 < n := by have := h.len; omega
  obtain ⟨r1, ⟨cur, r2⟩, r3⟩ := h.row hn
  have hs := hb.size
  have hos := h.bel.size
  have hcb := xheap_lt r2
  have hal : Below Wo.heap.size Wo W2 := h.bel.trans (hb.mono h.bel.size)
  have hR : RowQ (fun k => k < W2.heap.size ∧ (k < h0 ∨ Wo.heap.size ≤ k) ∧ k ≠ CB) W2 CB 0 f.code := (r3.keep (Kc.all hb) (Kc.all hb)).mono (fun k hk => ⟨by omega, hk.2⟩)
  have hR2 := hR.set (n := k) (x := x) (v := .slice aa an ac) (fun hq => hq.2.2 rfl) hx (hil.mono (fun j hj => ⟨hj.2, .inr (by omega), by omega⟩))
  refine ⟨hal.setCell h.ge _, ?_, ?_, h.len, h.nil, fun _ => ⟨r1, ⟨_, xheap_set_same (xkeep_heap hb r2) _⟩, ?_⟩, h.ge, h.ne⟩
  · rw [xheap_set_other (Ne.symm h.ne)]
    exact xkeep_heap hb h.box
  · have p1 := h.par.keep (w' := W2) (Kc.all hb)
    have p2 := p1.keep (w' := W2.setCell ⟨CB, 0 + k * 9 + 6, none⟩ (.slice aa an ac)) ((Kc.refl _ _).set (fun hq => hq.2 rfl) _)
    exact p2.mono (fun j hj => ⟨⟨hj.1.1, by rw [xsize_set]; omega⟩, hj.2⟩)
  · exact hR2.mono (fun j hj => by rw [xsize_set]; exact hj)
theorem CpJ.start {Wo W : World} {h0 FB g n cc : Nat} {f : Fn} {pv : Value} {ca : Option Addr} {rows : List (Ins × Value)} (hn : f.code.length = n) (hb : Below Wo.heap.size Wo W) (hbox : W.heap[FB]? = some (.cells #[.string f.name, pv, .int .i64 f.regs, .int .i64 f.frame, .int .i64 f.entry, .slice ca n cc] 49 (0, 0)))
    (hp : ILq (fun k => Wo.heap.size ≤ k ∧ k < g) W pv f.params) (hm : rows.map (·.1) = f.code) (hr : ∀ r ∈ rows, ILq (· < h0) W r.2 r.1.args) (hwo : h0 ≤ Wo.heap.size)
    (ho : W.ownsRow g 57 9 (.slice ca n cc) n (rows.flatMap inC)) (hg : Wo.heap.size ≤ g) (hf : FB < g) (hgs : g < W.heap.size) : ∃ CB, CpJ h0 Wo W FB CB f pv ca n cc := by
  subst hn
  rcases ho.2 with ⟨e, hn0⟩ | ⟨g2, cap, cur, e, hg2, hh, h4, h5, h6, h7⟩
  · injection e with e1 e2 e3
    refine ⟨g, hb, hbox, hp.mono (fun k hk => ⟨⟨hk.1, by omega⟩, by omega⟩), rfl, fun _ => ⟨hn0, e3⟩, fun h => by omega, hg, by omega⟩
  · cases e
    have hlt := xheap_lt hh
    refine ⟨g2, hb, hbox, hp.mono (fun k hk => ⟨⟨hk.1, by omega⟩, by omega⟩), rfl, (fun h => by cases h), fun _ => ⟨rfl, ⟨_, hh⟩, ?_⟩, by omega, by omega⟩
    refine RowQ.own hm (fun r hr' => ?_) ho rfl
    exact (hr r hr').mono (fun k hk => ⟨by omega, .inl hk, by omega⟩)
theorem Srow.keep {w w' : World} {v : Value} {m : Nat} {news : List Value} (h : Srow w v m news) (hb : Below w.heap.size w w') : Srow w' v m news := by
  rcases h with ⟨ad, c, e, hn⟩ | h
  · exact .inl ⟨ad, c, e, fun j u hj => keep_cell hb (hn j u hj)⟩
  · exact .inr h
theorem CpJ.code {Wo W : World} {h0 FB CB n cc : Nat} {f : Fn} {pv : Value} {ca : Option Addr} (h : CpJ h0 Wo W FB CB f pv ca n cc) (hl : f.code.length * 88 ≤ 140737488355328) : CodeQ (fun k => k < W.heap.size ∧ (k < h0 ∨ Wo.heap.size ≤ k)) W (.slice ca n cc) f.code := by
  refine ⟨ca, cc, by rw [h.len], hl, fun e => ?_, fun hne => ?_⟩
  · obtain ⟨hz, h1⟩ := h.nil e
    exact ⟨List.eq_nil_of_length_eq_zero (by rw [h.len]; exact hz), h1⟩
  · have hn : 0 < n := by
      rcases Nat.eq_zero_or_pos n with hz | hz
      · exact absurd (List.eq_nil_of_length_eq_zero (by rw [h.len]; exact hz)) hne
      · exact hz
    obtain ⟨r1, ⟨cur, r2⟩, r3⟩ := h.row hn
    exact ⟨CB, 0, r1, ⟨xheap_lt r2, .inr h.ge⟩, r3.mono (fun k hk => ⟨hk.1, hk.2.1⟩)⟩

/-- A program that is being copied: its box, the functions that are there already. -/
structure CpI (h0 : Nat) (w W : World) (QB : Nat) (gv fv : Value) (main : Int) (globals : List Int) (rows : List (Fn × Value × Value)) : Prop where
  bel : Below w.heap.size w W
  box : W.heap[QB]? = some (.cells #[gv, fv, .int .i64 main] 25 (0, 0))
  own : W.ownsRow w.heap.size 49 6 fv rows.length (rows.flatMap fnC)
  ne : fv.ownBlock ≠ some QB
  ge : w.heap.size ≤ QB
  le : h0 ≤ w.heap.size
  gl : ILq (fun k => k < W.heap.size ∧ k ≠ QB ∧ fv.ownBlock ≠ some k ∧ (k < h0 ∨ w.heap.size ≤ k)) W gv globals
  fns : FnsQ (fun k => k < W.heap.size ∧ k ≠ QB ∧ fv.ownBlock ≠ some k ∧ (k < h0 ∨ w.heap.size ≤ k)) W rows
theorem CpI.step {w Wo W w3 : World} {h0 QB FB CB n cc g cap : Nat} {gv fv pv : Value} {ca : Option Addr} {main : Int} {globals : List Int} {rows : List (Fn × Value × Value)} {f : Fn} {o : Obj} (h : CpI h0 w Wo QB gv fv main globals rows) (j : CpJ h0 Wo W FB CB f pv ca n cc)
    (hl : f.code.length * 88 ≤ 140737488355328) (hnm : f.name.size ≤ 140737488355328)
    (ho : w3.ownsRow w.heap.size 49 6 (.slice (some ⟨g, 0, none⟩) (rows.length + 1) cap) (rows.length + 1) (rows.flatMap fnC ++ fnC (f, pv, .slice ca n cc))) (hg : (W.alloc o).grownBy w3 fv.ownBlock) (hat : fv.ownBlock = some g ∨ g = W.heap.size + 1) :
    CpI h0 w (w3.setCell ⟨QB, 1, none⟩ (.slice (some ⟨g, 0, none⟩) (rows.length + 1) cap)) QB gv (.slice (some ⟨g, 0, none⟩) (rows.length + 1) cap) main globals (rows ++ [(f, pv, .slice ca n cc)]) := by
  have s1 := h.bel.size
  have s2 := j.bel.size
  have s3 := hg.size
  rw [World.size_alloc] at s3
  have hQ := xheap_lt h.box
  have hold : ∀ k, k < W.heap.size → fv.ownBlock ≠ some k → w3.heap[k]? = W.heap[k]? := fun k h1 h2 => by
    rw [hg.block k (by rw [World.size_alloc]; omega) (Ne.symm h2), Below.heap_alloc W o k h1]
  have hQ3 : w3.heap[QB]? = some (.cells #[gv, fv, .int .i64 main] 25 (0, 0)) := by
    rw [hold QB (by omega) h.ne]
    exact xkeep_heap j.bel h.box
  have hrow : ∀ k, fv.ownBlock = some k → k < Wo.heap.size ∧ w.heap.size ≤ k := fun k hk => xrow_lt h.own hk
  have hgw : g < w3.heap.size := (xrow_lt ho (b := g) rfl).1
  have hgQ : g ≠ QB := by
    rcases hat with e | e
    · intro e2; rw [e2] at e; exact h.ne e
    · omega
  have hgn : ∀ k, k < W.heap.size → fv.ownBlock ≠ some k → g ≠ k := fun k h1 h2 => by
    rcases hat with e | e
    · intro e2; rw [e2] at e; exact h2 e
    · omega
  have hkc : Kc (fun k => k < W.heap.size ∧ k ≠ QB ∧ fv.ownBlock ≠ some k ∧ (k < h0 ∨ w.heap.size ≤ k)) W (w3.setCell ⟨QB, 1, none⟩ (.slice (some ⟨g, 0, none⟩) (rows.length + 1) cap)) := fun p u hq hc => by
    have : w3.cell? p = some u := by rw [World.cell?_of_block (hold p.block hq.1 hq.2.2.1)]; exact hc
    exact keep_set this hq.2.1
  have hkc0 : Kc (fun k => k < Wo.heap.size ∧ k ≠ QB ∧ fv.ownBlock ≠ some k ∧ (k < h0 ∨ w.heap.size ≤ k)) Wo (w3.setCell ⟨QB, 1, none⟩ (.slice (some ⟨g, 0, none⟩) (rows.length + 1) cap)) :=
    (Kc.all (Q := fun k => k < Wo.heap.size ∧ k ≠ QB ∧ fv.ownBlock ≠ some k ∧ (k < h0 ∨ w.heap.size ≤ k)) j.bel).trans (hkc.mono (fun k hk => ⟨by omega, hk.2⟩))
  have hmono : ∀ k, (k < Wo.heap.size ∧ k ≠ QB ∧ fv.ownBlock ≠ some k ∧ (k < h0 ∨ w.heap.size ≤ k)) → k < (w3.setCell ⟨QB, 1, none⟩ (.slice (some ⟨g, 0, none⟩) (rows.length + 1) cap)).heap.size ∧ k ≠ QB ∧ (Value.slice (some ⟨g, 0, none⟩) (rows.length + 1) cap).ownBlock ≠ some k ∧ (k < h0 ∨ w.heap.size ≤ k) := fun k hk =>
    ⟨by rw [xsize_set]; omega, hk.2.1, by simp only [Value.ownBlock, ne_eq, Option.some.injEq]; exact hgn k (by omega) hk.2.2.1, hk.2.2.2⟩
  have hnew : ∀ k, (k < W.heap.size ∧ (k < h0 ∨ Wo.heap.size ≤ k)) → (k < W.heap.size ∧ k ≠ QB ∧ fv.ownBlock ≠ some k ∧ (k < h0 ∨ w.heap.size ≤ k)) := fun k hk =>
    ⟨hk.1, by have := h.ge; have := h.le; omega, (fun e => by have := hrow k e; have := h.le; omega), by omega⟩
  have hmono2 : ∀ k, (k < W.heap.size ∧ k ≠ QB ∧ fv.ownBlock ≠ some k ∧ (k < h0 ∨ w.heap.size ≤ k)) → k < (w3.setCell ⟨QB, 1, none⟩ (.slice (some ⟨g, 0, none⟩) (rows.length + 1) cap)).heap.size ∧ k ≠ QB ∧ (Value.slice (some ⟨g, 0, none⟩) (rows.length + 1) cap).ownBlock ≠ some k ∧ (k < h0 ∨ w.heap.size ≤ k) := fun k hk =>
    ⟨by rw [xsize_set]; omega, hk.2.1, by simp only [Value.ownBlock, ne_eq, Option.some.injEq]; exact hgn k hk.1 hk.2.2.1, hk.2.2.2⟩
  refine ⟨?_, ?_, ?_, ?_, h.ge, h.le, (h.gl.keep hkc0).mono hmono, ?_⟩
  · refine (Below.trans h.bel (?_ : Below w.heap.size Wo w3)).setCell h.ge _
    refine ⟨hg.os.trans j.bel.os, hg.tape.trans j.bel.tape, hg.output.trans j.bel.output, by omega, fun k hk => ?_⟩
    rw [hold k (by omega) (fun e => by have := hrow k e; omega)]
    exact j.bel.block k (by omega)
  · rw [xheap_set_same hQ3]; rfl
  · rw [List.length_append, List.length_singleton, List.flatMap_append, List.flatMap_singleton]
    refine xowns_of_heap ho (fun b hb => ?_)
    simp only [Value.ownBlock, Option.some.injEq] at hb
    subst hb
    exact xheap_set_other hgQ
  · simp only [Value.ownBlock, ne_eq, Option.some.injEq]; exact hgQ
  · refine ((h.fns.keep hkc0).mono hmono).snoc ?_ ?_ hnm
    · exact ((j.par.mono (fun k hk => hnew k ⟨hk.1.2, .inr hk.1.1⟩)).keep hkc).mono hmono2
    · exact (((j.code hl).mono hnew).keep hkc).mono hmono2
theorem CpI.done {w W W' : World} {h0 QB : Nat} {gv fv : Value} {p : Pg} {rows : List (Fn × Value × Value)} (h : CpI h0 w W QB gv fv p.main p.globals rows) (hm : rows.map (·.1) = p.funcs) (hl : p.funcs.length * 88 ≤ 140737488355328) (hk : ∀ k, (k < h0 ∨ w.heap.size ≤ k) → W'.heap[k]? = W.heap[k]?) : PgV W' (.agg #[gv, fv, .int .i64 p.main]) p := by
  have hlen : rows.length = p.funcs.length := by rw [← hm, List.length_map]
  have ho := h.own
  rw [hlen] at ho
  have hkc : Kc (fun k => k < W.heap.size ∧ k ≠ QB ∧ fv.ownBlock ≠ some k ∧ (k < h0 ∨ w.heap.size ≤ k)) W W' := fun q u hq hc => by rw [World.cell?_of_block (hk _ hq.2.2.2)]; exact hc
  exact ⟨gv, fv, rfl, (h.gl.keep hkc).1, (h.fns.keep hkc).at hm (xowns_of_heap ho (fun b hb => hk b (.inr (xrow_lt ho hb).2))) hl⟩
end Go.Proofs.YtfepkekielopmaaGreatDoor
