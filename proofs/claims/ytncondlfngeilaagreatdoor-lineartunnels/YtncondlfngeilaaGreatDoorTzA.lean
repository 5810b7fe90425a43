import Derived.Test.YtncondlfngeilaaGreatDoorRows
import Derived.Deep.RegionHeld3
import Derived.Deep.DeepCutAuto
import Derived.Deep.Light
import Derived.Deep.Draws
import Derived.WalkKit
import Derived.ProofKit
import Derived.OpenShut
import Derived.WalkSpells
import Derived.Maps.AppendAt
import Derived.Deep.AppendLies
import Derived.RangeFuncNested
import Derived.RangeFuncCalls
import Derived.RangeFuncLeaves
import Derived.RangeFuncBox
import Derived.Shelf.Abstract
import Derived.OwnWalkIn
import Derived.TacticsInMore
import Derived.LoopNIn
import Derived.LoopIn
namespace Go.Proofs.YtncondlfngeilaaGreatDoor
open Go.ChangeShapes Go.WideShapes Go.ChangeAt Go.RowKit
set_option linter.unusedSimpArgs false
set_option linter.unusedVariables false
def retP (v : Value) (w : World) : Ending → World → Prop := fun e w' => e = .returned v ∧ Below w.heap.size w w'
theorem keep_cell {W w1 : World} (hb : Below W.heap.size W w1) {p : Addr} {v : Value} (h : W.cell? p = some v) : w1.cell? p = some v := by
  rw [hb.cell (p := p) (block_lt_of_cell h)]; exact h
theorem keep_frozen {W w1 : World} (hb : Below W.heap.size W w1) {p : Addr} {v : Value} (h : W.cell? p = some v) (hf : W.frozen? p = false) : w1.frozen? p = false := by
  rw [hb.frozen (p := p) (block_lt_of_cell h)]; exact hf
theorem keep_alloc {w : World} {p : Addr} {v : Value} (h : w.cell? p = some v) (o : Obj) : (w.alloc o).cell? p = some v := by
  rw [World.cell?_alloc_lt w o p (block_lt_of_cell h)]; exact h
theorem keep_set {w : World} {p q : Addr} {v u : Value} (h : w.cell? q = some v) (hne : q.block ≠ p.block) : (w.setCell p u).cell? q = some v := by
  rw [World.cell?_of_block (w := w) (Below.heap_setCell w p u q.block hne)]; exact h
theorem bel_alloc {w w' : World} (h : Below w.heap.size w w') (o : Obj) : Below w.heap.size w (w'.alloc o) := h.alloc h.size o
theorem bel_trans {w a b : World} (h : Below w.heap.size w a) (k : Below a.heap.size a b) : Below w.heap.size w b := h.trans (k.mono h.size)
theorem bel_set {w w' : World} (h : Below w.heap.size w w') {p : Addr} (hp : w.heap.size ≤ p.block) (u : Value) : Below w.heap.size w (w'.setCell p u) := h.setCell hp u
end Go.Proofs.YtncondlfngeilaaGreatDoor
namespace Go.Proofs.YtncondlfngeilaaGreatDoor
open Go.ChangeShapes Go.WideShapes Go.ChangeAt Go.RowKit
set_option linter.unusedSimpArgs false
set_option linter.unusedVariables false

structure Ins where
  op : Int
  sub : Int
  a : Int
  b : Int
  d : Int
  k : Int
  args : List Int
  s : Int
  t : Int
structure Fn where
  name : ByteArray
  params : List Int
  regs : Int
  frame : Int
  entry : Int
  code : List Ins
structure Pg where
  globals : List Int
  funcs : List Fn
  main : Int

def insV (op sub a b d k : Int) (v : Value) (s t : Int) : Value := .agg #[.int .i64 op, .int .i64 sub, .int .i64 a, .int .i64 b, .int .i64 d, .int .i64 k, v, .int .i64 s, .int .i64 t]
def IL (w : World) (v : Value) (l : List Int) : Prop := ∃ (a : Option Addr) (cap : Nat), v = .slice a l.length cap ∧ l.length * 8 ≤ 140737488355328 ∧ (a = none → l = [] ∧ cap = 0) ∧ (l ≠ [] → ∃ b off : Nat, a = some ⟨b, off, none⟩ ∧ ∀ (i : Nat) (x : Int), l[i]? = some x → w.cell? ⟨b, off + i, none⟩ = some (.int .i64 x))
theorem IL.keep {w w' : World} {v : Value} {l : List Int} (h : IL w v l) (hb : Below w.heap.size w w') : IL w' v l := by
  obtain ⟨a, cap, hv, h1, h0, h2⟩ := h
  refine ⟨a, cap, hv, h1, h0, fun hl => ?_⟩
  obtain ⟨b, off, e, hc⟩ := h2 hl
  exact ⟨b, off, e, fun i x hx => keep_cell hb (hc i x hx)⟩
end Go.Proofs.YtncondlfngeilaaGreatDoor
namespace Go.Proofs.YtncondlfngeilaaGreatDoor
open Go.ChangeShapes Go.WideShapes Go.ChangeAt Go.RowKit
set_option linter.unusedSimpArgs false
set_option linter.unusedVariables false

def Srow (w : World) (xv : Value) (m : Nat) (news : List Value) : Prop := (∃ ad c, xv = .slice (some ad) m c ∧ ∀ j u, news[j]? = some u → w.cell? (ad.add j) = some u) ∨ (xv = .slice none 0 0 ∧ m = 0)
theorem run_append_any {P : Program} (w : World) (base : Nat) (t ty e : TypeId) (i : TypeInfo) (z : Value) (size bytes : Nat) (ht : P.underlying t = some (.slice e)) (hi : P.info? e = some i) (hz : i.zero = some z)
    (hsize : i.size = size) (hby : i.bytes = bytes) (hzs : z.cells.size = size) (hsz : 0 < size)
    (v : Value) (n : Nat) (xs : List Value) (hown : w.ownsRow base e size v n xs)
    (xv : Value) (m : Nat) (news : List Value) (hl : news.length = m * size) (hx : Srow w xv m news) (h1 : ∀ u ∈ news, u.oneCell' = true)
    (h63 : n + m ≤ maxLen) (hbytes : (n + m) * bytes ≤ 140737488355328) (hbase : base ≤ w.heap.size) :
    ∃ a' cap w', (Builtin.append_ #[t, t] ty #[v, xv]).run P w = .ok (.slice a' (n + m) cap) w' ∧ w'.ownsRow base e size (.slice a' (n + m) cap) (n + m) (xs ++ news) ∧ w.grownBy w' v.ownBlock ∧
      ((Value.slice a' (n + m) cap).ownBlock = v.ownBlock ∨ (Value.slice a' (n + m) cap).ownBlock = some w.heap.size) := by
  rcases hx with ⟨ad, c, rfl, hnews⟩ | ⟨rfl, rfl⟩
  · obtain ⟨v', w', hr, h2, h3, _, h5⟩ := run_append_own_at (P := P) w base t ty e i z size bytes ht hi hz hsize hby hzs hsz v n xs hown ad m c news hl hnews h1 h63 hbytes hbase
    rcases h2.2 with ⟨e1, e2⟩ | ⟨g, cap, cur, e1, _⟩
    · rw [e1] at hr h2 h5
      refine ⟨none, 0, w', ?_, ?_, h3, ?_⟩
      · rw [hr, e2]
      · rw [e2] at h2 ⊢; exact h2
      · rw [e2]; exact h5
    · rw [e1] at hr h2 h5
      exact ⟨_, cap, w', hr, h2, h3, h5⟩
  · have hn : news = [] := List.eq_nil_of_length_eq_zero (by simpa using hl)
    subst hn
    rw [List.append_nil, Nat.add_zero]
    have hg : w.grownBy w v.ownBlock := ⟨rfl, rfl, rfl, Nat.le_refl _, fun _ _ _ => rfl⟩
    rcases hown.2 with ⟨rfl, rfl⟩ | ⟨g, cap, cur, rfl, hbg, hg', hnc, hcm, hcs, htake⟩
    · refine ⟨none, 0, w, ?_, hown, hg, .inl rfl⟩
      simp [Builtin.append_, run_underlying ht, sizeOf, typeInfo, hi, Builtin.lenOf, Builtin.firstCells, loadCells, loadCellsFrom]
    · refine ⟨some ⟨g, 0, none⟩, cap, w, ?_, hown, hg, .inl rfl⟩
      simp [Builtin.append_, run_underlying ht, sizeOf, typeInfo, hi, Builtin.lenOf, Builtin.firstCells, loadCells, loadCellsFrom, hnc, storeCells]
theorem wp_append_any {P : Program} (w : World) {o : Oper} {a : Act} {K : Act → World → Prop} {Q : Exit → Act → World → Prop} (s x : Operand) (t : TypeId)
    (ho : o.op = .call { callee := .builtin .append, args := #[s, x], argTypes := #[t, t] })
    (base : Nat) (e : TypeId) (i : TypeInfo) (z : Value) (size bytes : Nat) (ht : P.underlying t = some (.slice e)) (hi : P.info? e = some i) (hz : i.zero = some z)
    (hsize : i.size = size) (hby : i.bytes = bytes) (hzs : z.cells.size = size) (hsz : 0 < size)
    (v : Value) (n : Nat) (xs : List Value) (hs : a.eval s = v) (hown : w.ownsRow base e size v n xs)
    (xv : Value) (m : Nat) (news : List Value) (hx : a.eval x = xv) (hl : news.length = m * size) (hnews : Srow w xv m news) (h1 : ∀ u ∈ news, u.oneCell' = true)
    (h63 : n + m ≤ maxLen) (hbytes : (n + m) * bytes ≤ 140737488355328) (hbase : base ≤ w.heap.size) (H : Nat) (hH : w.heap.size = H)
    (h : ∀ a' cap w', w'.ownsRow base e size (.slice a' (n + m) cap) (n + m) (xs ++ news) → w.grownBy w' v.ownBlock → ((Value.slice a' (n + m) cap).ownBlock = v.ownBlock ∨ (Value.slice a' (n + m) cap).ownBlock = some H) → K (a.put o.dst (.slice a' (n + m) cap)) w') : o.wp P a w K Q := by
  subst hH
  obtain ⟨g, cap, w', hr, h2, h3, h4⟩ := run_append_any (P := P) w base t o.type e i z size bytes ht hi hz hsize hby hzs hsz v n xs hown xv m news hl hnews h1 h63 hbytes hbase
  unfold Oper.wp execOp
  simp only [ho, resolve, invoke, builtin, Sem.run_bind, Sem.run_pure, Result.andThen_ok, List.map_toArray, List.map_cons, List.map_nil, hs, hx, hr]
  exact h g cap w' h2 h3 h4
theorem wpList_append_any {P : Program} (w : World) {ops : Array Oper} {rest : List Oper} {o : Oper} {a : Act} {Q : Exit → Act → World → Prop} (hgd : o.guard = none) (s x : Operand) (t : TypeId)
    (ho : o.op = .call { callee := .builtin .append, args := #[s, x], argTypes := #[t, t] })
    (base : Nat) (e : TypeId) (i : TypeInfo) (z : Value) (size bytes : Nat) (ht : P.underlying t = some (.slice e)) (hi : P.info? e = some i) (hz : i.zero = some z)
    (hsize : i.size = size) (hby : i.bytes = bytes) (hzs : z.cells.size = size) (hsz : 0 < size)
    (v : Value) (n : Nat) (xs : List Value) (hs : a.eval s = v) (hown : w.ownsRow base e size v n xs)
    (xv : Value) (m : Nat) (news : List Value) (hx : a.eval x = xv) (hl : news.length = m * size) (hnews : Srow w xv m news) (h1 : ∀ u ∈ news, u.oneCell' = true)
    (h63 : n + m ≤ maxLen) (hbytes : (n + m) * bytes ≤ 140737488355328) (hbase : base ≤ w.heap.size) (H : Nat) (hH : w.heap.size = H)
    (h : ∀ a' cap w', w'.ownsRow base e size (.slice a' (n + m) cap) (n + m) (xs ++ news) → w.grownBy w' v.ownBlock → ((Value.slice a' (n + m) cap).ownBlock = v.ownBlock ∨ (Value.slice a' (n + m) cap).ownBlock = some H) → wpList P ops Q rest (a.put o.dst (.slice a' (n + m) cap)) w') : wpList P ops Q (o :: rest) a w :=
  wpList_plain hgd fun _ hK => wp_append_any w s x t ho base e i z size bytes ht hi hz hsize hby hzs hsz v n xs hs hown xv m news hx hl hnews h1 h63 hbytes hbase H hH fun g cap w' h2 h3 h4 => hK _ _ (h g cap w' h2 h3 h4)
theorem step_append_any {P : Program} (w : World) {ops : Array Oper} {o : Oper} {a : Act} {K : Act → World → Prop} {Q : Exit → Act → World → Prop} {E : Prop} (hgd : o.guard = none) (s x : Operand) (t : TypeId)
    (ho : o.op = .call { callee := .builtin .append, args := #[s, x], argTypes := #[t, t] })
    (base : Nat) (e : TypeId) (i : TypeInfo) (z : Value) (size bytes : Nat) (ht : P.underlying t = some (.slice e)) (hi : P.info? e = some i) (hz : i.zero = some z)
    (hsize : i.size = size) (hby : i.bytes = bytes) (hzs : z.cells.size = size) (hsz : 0 < size)
    (v : Value) (n : Nat) (xs : List Value) (hs : a.eval s = v) (hown : w.ownsRow base e size v n xs)
    (xv : Value) (m : Nat) (news : List Value) (hx : a.eval x = xv) (hl : news.length = m * size) (hnews : Srow w xv m news) (h1 : ∀ u ∈ news, u.oneCell' = true)
    (h63 : n + m ≤ maxLen) (hbytes : (n + m) * bytes ≤ 140737488355328) (hbase : base ≤ w.heap.size) (H : Nat) (hH : w.heap.size = H)
    (h : ∀ a' cap w', w'.ownsRow base e size (.slice a' (n + m) cap) (n + m) (xs ++ news) → w.grownBy w' v.ownBlock → ((Value.slice a' (n + m) cap).ownBlock = v.ownBlock ∨ (Value.slice a' (n + m) cap).ownBlock = some H) → K (a.put o.dst (.slice a' (n + m) cap)) w') :
    if Region.wanted o (yielded ops a.tmps) = true then Oper.wp P o a w K Q else E := by
  have hw : Region.wanted o (yielded ops a.tmps) = true := by simp [Region.wanted, hgd]
  rw [if_pos hw]
  exact wp_append_any w s x t ho base e i z size bytes ht hi hz hsize hby hzs hsz v n xs hs hown xv m news hx hl hnews h1 h63 hbytes hbase H hH h
end Go.Proofs.YtncondlfngeilaaGreatDoor
namespace Go.Proofs.YtncondlfngeilaaGreatDoor
open Go.RowKit

def loopRec (fn : FuncId) (tmps : Array Value) (ps : Array Tmp) (assign body : Code) (d : Nat) : Loop := { state := .ready, pending := none, fn, tmps, params := ps, assign, body, defers := d }
def loopW (w : World) (r : Loop) : World := (w.alloc (.deferred (some []))).alloc (.loop r)
def rangeEnd (F : Fence) (n : Nat) (P : Program) (l : Nat) (Q : Exit → Act → World → Prop) (a : Act) : Ending → World → Prop := fun e W2 =>
  (∃ v, e = .returned v) ∧ ∃ r : Loop, W2.heap[l]? = some (.loop r) ∧ r.state ≠ .busy ∧
    ((r.pending = none ∧ Q .normal a (W2.putObj l (.loop { r with state := .exhausted }))) ∨ ∃ c, r.pending = some c ∧ c.wpIn F n P Q a (W2.putObj l (.loop { r with state := .exhausted })))
theorem range_of {F : Fence} {n : Nat} {P : Program} {l : Nat} {Q : Exit → Act → World → Prop} {a : Act} : ∀ e W2, rangeEnd F n P l Q a e W2 → rangePost F n P l Q a e W2 := by
  rintro e W2 ⟨⟨v, rfl⟩, r, hl, hb, h⟩
  refine ⟨r.pending, _, run_endLoop hl hb, ?_⟩
  obtain ⟨st, pe, fn, tm, ps, asg, bd, df⟩ := r
  rcases h with ⟨e, h⟩ | ⟨c, e, h⟩
  · obtain rfl : pe = none := e
    exact h
  · obtain rfl : pe = some c := e
    exact h
theorem range_outer {F : Fence} {n : Nat} {P : Program} {g : Operand} {ps : Array Tmp} {assign body : Code} {Q : Exit → Act → World → Prop} {a : Act} {w : World}
    (hro : F.round = none) (h1 : 1 ≤ n) {gf : Nat} {lb : Array Value} (hg : a.eval g = .func (.func gf) #[] lb) (hFg : F.fn gf) (eg : ∀ args w, (callFunc gf args).run P w = .ok (.enter gf args) w)
    (h : ∀ fn, F.fn fn → CallsIn F (n - 1) P gf (#[.func (.yield (w.heap.size + 1)) #[] #[]] ++ lb) (loopW w (loopRec fn a.tmps ps assign body w.heap.size))
      (rangeEnd F n P (w.heap.size + 1) Q { a with defers := { target := .collected w.heap.size, args := #[] } :: a.defers })) :
    (Code.rangeFunc g ps assign body).wpIn F n P Q a w := by
  refine wpIn_rangeFunc fun fn hfn => ?_
  rw [hro]
  have he := run_enterLoop_outer (P := P) (w := w) fn a.tmps ps assign body
  have hc := h fn hfn
  have eW : (w.alloc (.deferred (some []))).alloc (.loop { state := .ready, pending := none, fn, tmps := a.tmps, params := ps, assign, body, defers := w.heap.size }) = loopW w (loopRec fn a.tmps ps assign body w.heap.size) := rfl
  rw [eW] at he
  generalize loopW w (loopRec fn a.tmps ps assign body w.heap.size) = W1 at he hc
  have hd : (resolve a.eval (rangeCall g (w.heap.size + 1)) 0).run P W1 = .ok { target := .fn (.func gf) lb, args := #[.func (.yield (w.heap.size + 1)) #[] #[]] } W1 := by
    simp only [resolve, hg]
    simp [go_sem]
  have hi : (invoke (.fn (.func gf) lb) #[.func (.yield (w.heap.size + 1)) #[] #[]]).run P W1 = .ok (.enter gf (#[.func (.yield (w.heap.size + 1)) #[] #[]] ++ lb)) W1 := by
    simp [invoke, go_sem, eg]
  refine ⟨_, _, W1, _, W1, gf, _, W1, he, hd, ?_, hi, fun _ => h1, hc.mono range_of⟩
  intro f' hf'
  simp [Target.leads] at hf'
  subst hf'
  exact hFg
def roundEnd (l : Nat) (r : Loop) (R : Ending → World → Prop) : Exit → Act → World → Prop
  | .normal, _, W => W.heap[l]? = some (.loop { r with state := .busy }) ∧ R (.returned (.bool true)) (W.putObj l (.loop { r with state := .ready, pending := none }))
  | .ret, _, W => W.heap[l]? = some (.loop { r with state := .busy }) ∧ R (.returned (.bool false)) (W.putObj l (.loop { r with state := .done, pending := some .ret }))
  | .exit id, _, W => W.heap[l]? = some (.loop { r with state := .busy }) ∧ R (.returned (.bool false)) (W.putObj l (.loop { r with state := .done, pending := some (.exit id) }))
  | .goto t, _, W => W.heap[l]? = some (.loop { r with state := .busy }) ∧ R (.returned (.bool false)) (W.putObj l (.loop { r with state := .done, pending := some (.goto t) }))
  | .panic _, _, _ => False
  | .outgrown, _, _ => False
theorem round_of {P : Program} {l : Nat} {r : Loop} {R : Ending → World → Prop} : ∀ e a W, roundEnd l r R e a W → roundPost P l R e a W := by
  intro e a W h
  cases e with
  | normal => exact ⟨_, _, run_endRound none h.1, h.2⟩
  | ret => exact ⟨_, _, run_endRound (some .ret) h.1, h.2⟩
  | exit id => exact ⟨_, _, run_endRound (some (.exit id)) h.1, h.2⟩
  | goto t => exact ⟨_, _, run_endRound (some (.goto t)) h.1, h.2⟩
  | panic c => exact h.elim
  | outgrown => exact h.elim
theorem yield_round {F : Fence} {m : Nat} {P : Program} {l : Nat} {r : Loop} {args : Array Value} {W : World} {R : Ending → World → Prop}
    (hl : W.heap[l]? = some (.loop r)) (hs : args.size = r.params.size) (hr : r.state = .ready) (hF : F.fn r.fn)
    (h : r.assign.wpIn (F.inRound l) m P (Exit.then (fun a1 W1 => W1.heap[l]? = some (.loop r) ∧ r.body.wpIn (F.inRound l) m P (roundEnd l r R) a1 (W1.putObj l (.loop { r with state := .busy }))) (fun _ _ _ => False))
      { tmps := (r.params.zip args).foldl (fun tmps (t, a) => tmps.setIfInBounds t a) r.tmps, defers := [] } W) :
    YieldAt F m P l args W R := by
  refine ⟨r.fn, _, r.assign, r.body, run_yield hl hs, roundIn_of_wpIn hF (wpIn_mono h ?_)⟩
  intro e a W1 hq
  cases e with
  | normal => exact ⟨_, run_beginRound hq.1 hr, wpIn_mono hq.2 round_of⟩
  | ret => exact hq
  | exit id => exact hq
  | goto t => exact hq
  | panic c => exact hq
  | outgrown => exact hq
end Go.Proofs.YtncondlfngeilaaGreatDoor
namespace Go.Proofs.YtncondlfngeilaaGreatDoor
open Go.ChangeShapes Go.WideShapes Go.ChangeAt Go.RowKit
set_option linter.unusedSimpArgs false
set_option linter.unusedVariables false
theorem zga {α : Type} {l : List α} {i : Nat} : l.toArray[i]? = l[i]? := List.getElem?_toArray
theorem zgs {α : Type} {a : α} {l : List α} {i : Nat} : (a :: l)[i + 1]? = l[i]? := rfl
theorem zgz {α : Type} {a : α} {l : List α} : (a :: l)[0]? = some a := rfl
theorem zsa {α : Type} {l : List α} {i : Nat} {a : α} : l.toArray.setIfInBounds i a = (l.set i a).toArray := List.setIfInBounds_toArray ..
theorem zsz {α : Type} {a x : α} {l : List α} : (x :: l).set 0 a = a :: l := rfl
theorem zss {α : Type} {a x : α} {l : List α} {i : Nat} : (x :: l).set (i + 1) a = x :: l.set i a := rfl
theorem zge {α : Type} {xs : Array α} {i : Nat} {a : α} (h : xs[i]? = some a) : ∃ h : i < xs.size, xs[i] = a := Array.getElem?_eq_some_iff.1 h
theorem zr {P : Program} {ops : Array Oper} {Q : Exit → Act → World → Prop} {md : Region.Mode} {S : World → Prop} {r fuel : Nat} {listed : Array Bool} {a : Act} {w : World} {o : Oper} (hr : Region.ready md ops listed = [r]) (ho : ops[r]? = some o)
  (h : ∀ K' : Act → World → Prop, Shut (∀ a w, S w → (S w → wpAnyH P md ops Q S fuel (listed.setIfInBounds r true) a w) → K' a w) → if Region.wanted o (yielded ops a.tmps) = true then Oper.wp P o a w K' Q else K' (a.put o.dst undef) w) : wpAnyH P md ops Q S (fuel + 1) listed a w :=
  wpAnyH_ready hr (by simp) (AllReadyH.cons ho h AllReadyH.nil)

theorem hidF {p : Prop} (h : p) : Hid p := h
def regionNF (n : Nat) : Code → Option Code
 | .region k o b => if k = n then some (.region k o b) else none
 | .seq a b => match regionNF n a with
  | some c => some c
  | none => regionNF n b
 | .block _ c => regionNF n c
 | .scope c => regionNF n c
 | .loop c => regionNF n c
 | .cond _ a b => match regionNF n a with
  | some c => some c
  | none => regionNF n b
 | _ => none
def intsF (l : List Int) : List Value := l.map fun n => .int .i64 n
theorem ints_lengthF (l : List Int) : (intsF l).length = l.length := List.length_map _
def up (l : List Nat) : List Int := l.map fun (x : Nat) => (x : Int)
theorem up_length (l : List Nat) : (up l).length = l.length := List.length_map _
theorem up_get (l : List Nat) (i : Nat) : (up l)[i]? = (l[i]?).map fun (x : Nat) => (x : Int) := List.getElem?_map
theorem up_append (a b : List Nat) : up (a ++ b) = up a ++ up b := List.map_append
theorem ints_append (a b : List Int) : intsF (a ++ b) = intsF a ++ intsF b := List.map_append
theorem IL.nilF (w : World) : IL w (.slice none 0 0) [] := ⟨none, 0, rfl, by simp, fun _ => ⟨rfl, rfl⟩, fun h => absurd rfl h⟩
theorem IL.ownF {w : World} {B : Nat} {v : Value} {l : List Int} (h : w.ownsRow B 3 1 v l.length (intsF l)) (hb : l.length * 8 ≤ 140737488355328) : IL w v l := by
 rcases h.2 with ⟨h1, h2⟩ | ⟨g, cap, cur, h1, h2, h3, h4, h5, h6, h7⟩
 ·have e : l = [] := List.length_eq_zero_iff.1 h2
  subst e;exact ⟨none, 0, by rw [h1]; rfl, hb, fun _ => ⟨rfl, rfl⟩, fun h => absurd rfl h⟩
 ·refine ⟨_, cap, h1, hb, (fun h => by cases h), fun _ => ⟨g, 0, rfl, fun i x hx => ?_⟩⟩
  have := h.cells (g := g) (by rw [h1]; rfl) i (.int .i64 x) (by simp only [intsF, List.getElem?_map, hx, Option.map_some]);rw [show (⟨g, 0, none⟩ : Addr).add i = ⟨g, 0 + i, none⟩ from Addr.add_mid _ _ _] at this;exact this
theorem IL.partsF {w : World} {v : Value} {l : List Int} (h : IL w v l) : ∃ (a : Option Addr) (cap : Nat), v = .slice a l.length cap ∧ l.length * 8 ≤ 140737488355328 := by
 obtain ⟨a, cap, hv, h1, _⟩ := h;exact ⟨a, cap, hv, h1⟩
theorem IL.of {w w' : World} {v : Value} {l : List Int} (h : IL w v l) (hk : ∀ b o s n c, v = .slice (some ⟨b, o, s⟩) n c → w'.heap[b]? = w.heap[b]?) : IL w' v l := by
 obtain ⟨a, cap, hv, h1, h0, h2⟩ := h;refine ⟨a, cap, hv, h1, h0, fun hl => ?_⟩;obtain ⟨b, off, rfl, hc⟩ := h2 hl;exact ⟨b, off, rfl, fun i x hx => by rw [World.cell?_of_block (w := w) (hk b off none _ _ hv)]; exact hc i x hx⟩
theorem ownsRow_pop {w : World} {B : Nat} {e : TypeId} {a : Option Addr} {n cap : Nat} {xs : List Value} {x : Value} (h : w.ownsRow B e 1 (.slice a (n + 1) cap) (n + 1) (xs ++ [x])) : w.ownsRow B e 1 (.slice a n cap) n xs := by
 have hl : xs.length = n := by have := h.1; simp at this; omega
 refine ⟨by omega, ?_⟩
 rcases h.2 with ⟨h1, h2⟩ | ⟨g, cap', cur, h1, h2, h3, h4, h5, h6, h7⟩
 ·omega
 ·cases h1
  refine .inr ⟨g, cap, cur, rfl, h2, h3, by omega, h5, h6, ?_⟩;rw [Nat.mul_one] at h7 ⊢;have := congrArg (List.take n) h7;rw [List.take_take, Nat.min_eq_left (by omega), List.take_left' hl] at this;exact this
structure Mv (H mb : Nat) (w w' : World) : Prop where
 os : w'.os = w.os
 tape : w'.tape = w.tape
 output : w'.output = w.output
 size : w.heap.size ≤ w'.heap.size
 block : ∀ k, k < H → k ≠ mb → w'.heap[k]? = w.heap[k]?
theorem Mv.refl (H mb : Nat) (w : World) : Mv H mb w w := ⟨rfl, rfl, rfl, Nat.le_refl _, fun _ _ _ => rfl⟩
theorem Mv.trans {H mb : Nat} {a b c : World} (h : Mv H mb a b) (k : Mv H mb b c) : Mv H mb a c :=
 ⟨k.os.trans h.os, k.tape.trans h.tape, k.output.trans h.output, Nat.le_trans h.size k.size, fun q h1 h2 => (k.block q h1 h2).trans (h.block q h1 h2)⟩
theorem Mv.alloc {H mb : Nat} {a b : World} (h : Mv H mb a b) (hH : H ≤ b.heap.size) (o : Obj) : Mv H mb a (b.alloc o) :=
 h.trans ⟨rfl, rfl, rfl, by show _ ≤ (b.heap.push o).size; simp, fun q h1 _ => Below.heap_alloc b o q (by omega)⟩
theorem Mv.set {H mb : Nat} {a b : World} (h : Mv H mb a b) {p : Addr} (hp : p.block = mb ∨ H ≤ p.block) (v : Value) : Mv H mb a (b.setCell p v) :=
 h.trans ⟨rfl, rfl, rfl, by simp [World.setCell], fun q h1 h2 => Below.heap_setCell b p v q (by rcases hp with e | e <;> omega)⟩
theorem Mv.grown {H mb : Nat} {a b c : World} {row : Option Nat} (h : Mv H mb a b) (hg : b.grownBy c row) (hH : H ≤ b.heap.size) (hr : ∀ k, row = some k → H ≤ k) : Mv H mb a c :=
 h.trans ⟨hg.os, hg.tape, hg.output, hg.size, fun q h1 _ => hg.block q (by omega) (fun e => by have := hr q e.symm; omega)⟩
theorem Mv.below {H mb n : Nat} {a b c : World} (h : Mv H mb a b) (hb : Below n b c) (hn : H ≤ n) : Mv H mb a c :=
 h.trans ⟨hb.os, hb.tape, hb.output, hb.size, fun q h1 _ => hb.block q (by omega)⟩
end Go.Proofs.YtncondlfngeilaaGreatDoor
namespace Go.Proofs.YtncondlfngeilaaGreatDoor
set_option linter.unusedSimpArgs false
set_option linter.unusedVariables false

def updB (m : Nat → Bool) (x : Nat) : Nat → Bool := fun i => if i = x then true else m i
def unm (m : Nat → Bool) : Nat → Nat
 | 0 => 0
 | n + 1 => unm m n + (if m n = true then 0 else 1)
theorem unm_same {m m' : Nat → Bool} : ∀ {n : Nat}, (∀ i, i < n → m i = m' i) → unm m n = unm m' n
 | 0, _ => rfl
 | n + 1, h => by
  simp only [unm];rw [unm_same (fun i hi => h i (by omega)), h n (by omega)]
theorem unm_upd {m : Nat → Bool} {x : Nat} : ∀ {n : Nat}, x < n → m x = false → unm (updB m x) n + 1 = unm m n
 | n + 1, hx, hm => by
  simp only [unm]
  by_cases e : x = n
  ·subst e
   have h1 : unm (updB m x) x = unm m x := unm_same (fun i hi => by unfold updB; rw [if_neg (by omega)]);rw [h1, hm];simp [updB]
  ·have h1 := unm_upd (n := n) (by omega) hm
   have h2 : updB m x n = m n := by unfold updB; rw [if_neg (by omega)]
   rw [h2]
   omega
theorem unm_le (m : Nat → Bool) : ∀ n, unm m n ≤ n
 | 0 => Nat.le_refl _
 | n + 1 => by
  simp only [unm];have := unm_le m n
  split <;> omega
structure SI (n : Nat) (g : Nat → List Nat) (m0 : Nat → Bool) (ss : List Nat) (m : Nat → Bool) (o wt : List Nat) : Prop where
 mem : ∀ i, m i = true ↔ m0 i = true ∨ i ∈ o ∨ i ∈ wt
 nd : (o ++ wt).Nodup
 un : ∀ i, i ∈ o ∨ i ∈ wt → m0 i = false ∧ i < n
 re : ∀ S : Nat → Prop, (∀ s ∈ ss, S s) → (∀ i, S i → m0 i = false → ∀ t ∈ g i, S t) → ∀ i, i ∈ o ∨ i ∈ wt → S i
theorem SI.start (n : Nat) (g : Nat → List Nat) (m0 : Nat → Bool) (ss : List Nat) : SI n g m0 ss m0 [] [] :=
 ⟨fun i => by simp, by simp, fun i h => by simp at h, fun S _ _ i h => by simp at h⟩
section
variable {n : Nat} {g : Nat → List Nat} {m0 m : Nat → Bool} {ss o wt : List Nat} {x y : Nat}
theorem SI.push (h : SI n g m0 ss m o wt) (hx : m x = false) (hn : x < n) (hw : x ∈ ss ∨ ∃ y ∈ o, x ∈ g y) : SI n g m0 ss (updB m x) o (wt ++ [x]) := by
 have hno : ¬ (m0 x = true ∨ x ∈ o ∨ x ∈ wt) := fun z => by rw [(h.mem x).2 z] at hx; cases hx
 refine ⟨fun i => ?_, ?_, fun i hi => ?_, fun S h1 h2 i hi => ?_⟩
 ·unfold updB
  by_cases e : i = x
  ·subst e; simp
  ·rw [if_neg e, h.mem i]; simp [e]
 ·rw [← List.append_assoc, List.nodup_append]
  refine ⟨h.nd, by simp, fun a ha b hb => ?_⟩;have hb' : b = x := by simpa using hb
  subst hb';intro e;subst e;exact hno (.inr (List.mem_append.1 ha))
 ·simp only [List.mem_append, List.mem_singleton] at hi
  rcases hi with hi | hi | rfl
  ·exact h.un i (.inl hi)
  ·exact h.un i (.inr hi)
  ·exact ⟨by cases hm : m0 i with | false => rfl | true => exact absurd (.inl hm) hno, hn⟩
 ·simp only [List.mem_append, List.mem_singleton] at hi
  rcases hi with hi | hi | rfl
  ·exact h.re S h1 h2 i (.inl hi)
  ·exact h.re S h1 h2 i (.inr hi)
  ·rcases hw with hw | ⟨y, hy, hg⟩
   ·exact h1 i hw
   ·exact h2 y (h.re S h1 h2 y (.inl hy)) (h.un y (.inl hy)).1 i hg
theorem SI.pop (h : SI n g m0 ss m o (wt ++ [x])) : SI n g m0 ss m (o ++ [x]) wt := by
 have hm : ∀ i, (i ∈ o ++ [x] ∨ i ∈ wt) ↔ (i ∈ o ∨ i ∈ wt ++ [x]) := fun i => by
  simp only [List.mem_append, List.mem_singleton]
  constructor
  ·rintro ((h | h) | h)
   ·exact .inl h
   ·exact .inr (.inr h)
   ·exact .inr (.inl h)
  ·rintro (h | h | h)
   ·exact .inl (.inl h)
   ·exact .inr h
   ·exact .inl (.inr h)
 refine ⟨fun i => ?_, ?_, fun i hi => h.un i ((hm i).1 hi), fun S h1 h2 i hi => h.re S h1 h2 i ((hm i).1 hi)⟩
 ·rw [h.mem i, hm i]
 ·have hp : (o ++ [x] ++ wt).Perm (o ++ (wt ++ [x])) := by
   rw [List.append_assoc];exact (List.Perm.refl o).append List.perm_append_comm
  exact (hp.nodup_iff).2 h.nd
theorem SI.met (h : SI n g m0 ss m o wt) {i : Nat} (hi : i ∈ o ∨ i ∈ wt) : m i = true := (h.mem i).2 (.inr hi)
end
structure SR (n : Nat) (g : Nat → List Nat) (m0 : Nat → Bool) (ss : List Nat) (m : Nat → Bool) (o : List Nat) : Prop where
 si : SI n g m0 ss m o []
 st : ∀ s ∈ ss, m s = true
 cl : ∀ y ∈ o, ∀ t ∈ g y, m t = true
theorem updB_mono {m : Nat → Bool} {x i : Nat} (h : m i = true) : updB m x i = true := by unfold updB; split <;> simp_all
theorem updB_self (m : Nat → Bool) (x : Nat) : updB m x x = true := by simp [updB]
end Go.Proofs.YtncondlfngeilaaGreatDoor
