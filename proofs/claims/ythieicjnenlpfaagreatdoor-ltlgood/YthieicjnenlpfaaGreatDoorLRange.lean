/- A range over an iterator, in two tools: entering and leaving the loop; one round. Nothing is asked of what the iterator or the round does to the memory: that is said where they are used. -/
import Derived.RangeFuncNested
import Derived.RangeFuncCalls
namespace Go.Proofs.YthieicjnenlpfaaGreatDoor
open Go.RowKit

/-- The loop's record. -/
def loopRec (fn : FuncId) (tmps : Array Value) (ps : Array Tmp) (assign body : Code) (d : Nat) : Loop := { state := .ready, pending := none, fn, tmps, params := ps, assign, body, defers := d }
/-- The world in which the iterator begins, at an outermost loop. -/
def loopW (w : World) (r : Loop) : World := (w.alloc (.deferred (some []))).alloc (.loop r)
/-- What the iterator's call must end in. -/
def rangeEnd (F : Fence) (n : Nat) (P : Program) (l : Nat) (Q : Exit → Act → World → Prop) (a : Act) : Ending → World → Prop := fun e W2 =>
  (∃ v, e = .returned v) ∧ ∃ r : Loop, W2.heap[l]? = some (.loop r) ∧ r.state ≠ .busy ∧
    ((r.pending = none ∧ Q .normal a (W2.putObj l (.loop { r with state := .exhausted }))) ∨ ∃ c, r.pending = some c ∧ c.wpIn F n P Q a (W2.putObj l (.loop { r with state := .exhausted })))
theorem range_of {F : Fence} {n : Nat} {P : Program} {l : Nat} {Q : Exit → Act → World → Prop} {a : Act} : ∀ e W2, rangeEnd F n P l Q a e W2 → rangePost F n P l Q a e W2 := by
  rintro e W2 ⟨⟨v, rfl⟩, r, hl, hb, h⟩
  refine ⟨r.pending, _, run_endLoop hl hb, ?_⟩
  obtain ⟨st, pe, fn, tm, ps, asg, bd, df⟩ := r
  rcases h with ⟨e, h⟩ | ⟨c, e, h⟩
  · obtain rfl : pe = none := e
    exact h
  · obtain rfl : pe = some c := e
    exact h
/-- An outermost loop. -/
theorem range_outer {F : Fence} {n : Nat} {P : Program} {g : Operand} {ps : Array Tmp} {assign body : Code} {Q : Exit → Act → World → Prop} {a : Act} {w : World}
    (hro : F.round = none) (h1 : 1 ≤ n) {gf : Nat} {lb : Array Value} (hg : a.eval g = .func (.func gf) #[] lb) (hFg : F.fn gf) (eg : ∀ args w, (callFunc gf args).run P w = .ok (.enter gf args) w)
    (h : ∀ fn, F.fn fn → CallsIn F (n - 1) P gf (#[.func (.yield (w.heap.size + 1)) #[] #[]] ++ lb) (loopW w (loopRec fn a.tmps ps assign body w.heap.size))
      (rangeEnd F n P (w.heap.size + 1) Q { a with defers := { target := .collected w.heap.size, args := #[] } :: a.defers })) :
    (Code.rangeFunc g ps assign body).wpIn F n P Q a w := by
  refine wpIn_rangeFunc fun fn hfn => ?_
  rw [hro]
  have he := run_enterLoop_outer (P := P) (w := w) fn a.tmps ps assign body
  have hc := h fn hfn
  have eW : (w.alloc (.deferred (some []))).alloc (.loop { state := .ready, pending := none, fn, tmps := a.tmps, params := ps, assign, body, defers := w.heap.size }) = loopW w (loopRec fn a.tmps ps assign body w.heap.size) := rfl
  rw [eW] at he
  generalize loopW w (loopRec fn a.tmps ps assign body w.heap.size) = W1 at he hc
  have hd : (resolve a.eval (rangeCall g (w.heap.size + 1)) 0).run P W1 = .ok { target := .fn (.func gf) lb, args := #[.func (.yield (w.heap.size + 1)) #[] #[]] } W1 := by
    simp only [resolve, hg]
    simp [go_sem]
  have hi : (invoke (.fn (.func gf) lb) #[.func (.yield (w.heap.size + 1)) #[] #[]]).run P W1 = .ok (.enter gf (#[.func (.yield (w.heap.size + 1)) #[] #[]] ++ lb)) W1 := by
    simp [invoke, go_sem, eg]
  refine ⟨_, _, W1, _, W1, gf, _, W1, he, hd, ?_, hi, fun _ => h1, hc.mono range_of⟩
  intro f' hf'
  simp [Target.leads] at hf'
  subst hf'
  exact hFg
/-- How a round's body may be left: the record is still the busy one; what yield hands back. -/
def roundEnd (l : Nat) (r : Loop) (R : Ending → World → Prop) : Exit → Act → World → Prop
  | .normal, _, W => W.heap[l]? = some (.loop { r with state := .busy }) ∧ R (.returned (.bool true)) (W.putObj l (.loop { r with state := .ready, pending := none }))
  | .ret, _, W => W.heap[l]? = some (.loop { r with state := .busy }) ∧ R (.returned (.bool false)) (W.putObj l (.loop { r with state := .done, pending := some .ret }))
  | .exit id, _, W => W.heap[l]? = some (.loop { r with state := .busy }) ∧ R (.returned (.bool false)) (W.putObj l (.loop { r with state := .done, pending := some (.exit id) }))
  | .goto t, _, W => W.heap[l]? = some (.loop { r with state := .busy }) ∧ R (.returned (.bool false)) (W.putObj l (.loop { r with state := .done, pending := some (.goto t) }))
  | .panic _, _, _ => False
  | .outgrown, _, _ => False
theorem round_of {P : Program} {l : Nat} {r : Loop} {R : Ending → World → Prop} : ∀ e a W, roundEnd l r R e a W → roundPost P l R e a W := by
  intro e a W h
  cases e with
  | normal => exact ⟨_, _, run_endRound none h.1, h.2⟩
  | ret => exact ⟨_, _, run_endRound (some .ret) h.1, h.2⟩
  | exit id => exact ⟨_, _, run_endRound (some (.exit id)) h.1, h.2⟩
  | goto t => exact ⟨_, _, run_endRound (some (.goto t)) h.1, h.2⟩
  | panic c => exact h.elim
  | outgrown => exact h.elim
/-- One round. -/
theorem yield_round {F : Fence} {m : Nat} {P : Program} {l : Nat} {r : Loop} {args : Array Value} {W : World} {R : Ending → World → Prop}
    (hl : W.heap[l]? = some (.loop r)) (hs : args.size = r.params.size) (hr : r.state = .ready) (hF : F.fn r.fn)
    (h : r.assign.wpIn (F.inRound l) m P (Exit.then (fun a1 W1 => W1.heap[l]? = some (.loop r) ∧ r.body.wpIn (F.inRound l) m P (roundEnd l r R) a1 (W1.putObj l (.loop { r with state := .busy }))) (fun _ _ _ => False))
      { tmps := (r.params.zip args).foldl (fun tmps (t, a) => tmps.setIfInBounds t a) r.tmps, defers := [] } W) :
    YieldAt F m P l args W R := by
  refine ⟨r.fn, _, r.assign, r.body, run_yield hl hs, roundIn_of_wpIn hF (wpIn_mono h ?_)⟩
  intro e a W1 hq
  cases e with
  | normal => exact ⟨_, run_beginRound hq.1 hr, wpIn_mono hq.2 round_of⟩
  | ret => exact hq
  | exit id => exact hq
  | goto t => exact hq
  | panic c => exact hq
  | outgrown => exact hq
end Go.Proofs.YthieicjnenlpfaaGreatDoor
