/- A part of a machine of our own for closed calls, and of the proof that it says what the runs do. -/
import Derived.Test.YtofnnpchobgapaaGreatDoorEvOps
import Derived.RangeFuncIn
import Derived.Defers
set_option linter.unusedSimpArgs false
set_option linter.unusedVariables false
namespace Go.Ev
open Go Go.RowKit

/-- The memory has gone on. -/
structure Mv (P : Program) (B : World) (σ : Sg) (h : H) (w : World) (τ : Sg) (h' : H) (w' : World) : Prop where
  ex : EX σ τ h.next h'.next
  hr : HR P B τ h' w'
  fp : FP σ h w w'
  nb : NB σ τ h w h'

section
variable {P : Program} {B : World} {σ τ υ : Sg} {h h' h2 : H} {w w' w2 : World}

theorem Mv.refl (K : HR P B σ h w) : Mv P B σ h w σ h w := ⟨EX.refl σ _, K, FP.refl _ _ _, NB.none (Stay.refl h)⟩
theorem Mv.trans (a : Mv P B σ h w τ h' w') (b : Mv P B τ h' w' υ h2 w2) : Mv P B σ h w υ h2 w2 := by
  have e1 := a.ex.1
  have e2 := b.ex.1
  have s1 := a.fp.1
  have s2 := b.fp.1
  have _ := e1
  have _ := e2
  refine ⟨a.ex.trans b.ex, b.hr, ⟨Nat.le_trans s1 s2, fun r hr hn => ?_⟩, fun q o ho hl r δ x e => ?_⟩
  · rw [b.fp.2 r (by omega) (fun q o ho hw r' δ x e => ?_), a.fp.2 r hr hn]
    rcases a.nb q o ho (owned_live hw) r' δ x e with z | ⟨b', o', δ', x', z1, _, z3, z4⟩
    · omega
    · exact hn b' o' z1 (z3 hw) r' δ' x' z4
  · rcases b.nb q o ho hl r δ x e with z | ⟨b', o', δ', x', z1, z2, z3, z4⟩
    · exact .inl (by omega)
    · rcases a.nb b' o' z1 z2 r δ' x' z4 with y | ⟨b2, o2, δ2, x2, y1, y2, y3, y4⟩
      · exact .inl y
      · exact .inr ⟨b2, o2, δ2, x2, y1, y2, fun k => y3 (z3 k), y4⟩

/-- The numbers to come are not taken. -/
def Free (σ : Sg) (lo hi : Nat) : Prop := ∀ q, lo ≤ q → q < hi → σ q = none
theorem Free.left {a b c : Nat} (f : Free σ a c) (h : b ≤ c) : Free σ a b := fun q h1 h2 => f q h1 (by omega)
theorem Free.right (m : Mv P B σ h w τ h' w') {c : Nat} (f : Free σ h.next c) : Free τ h'.next c := fun q h1 h2 => by
  have := m.ex.1
  rw [m.ex.2.2 q (.inr h1)]
  exact f q (by omega) h2

/-- Behind a call that only adds blocks. -/
theorem Mv.below (K : HR P B σ h w) (hb : Below w.heap.size w w') : Mv P B σ h w σ h w' := by
  have hbs := K.bel.size
  refine ⟨EX.refl σ _, ?_, ⟨hb.size, fun r hr _ => hb.block r hr⟩, NB.none (Stay.refl h)⟩
  exact {
    bel := K.bel.trans ⟨hb.os, hb.tape, hb.output, hb.size, fun k hk => hb.block k (by omega)⟩
    glob := K.glob
    obj := fun n o ho hl => let ⟨r, δ, x, h1, h2⟩ := K.obj n o ho hl; ⟨r, δ, x, h1, h2.mono (Sub.refl σ) (hb.block r (h2.lt hl))⟩
    inj := K.inj
    own := K.own
    low := K.low
    bnd := fun b r δ x hb2 => Nat.lt_of_lt_of_le (K.bnd b r δ x hb2) hb.size }

def RnR (σ : Sg) : Option Nat → Option Nat → Prop
  | none, none => True
  | some l, some r => ∃ δ x, σ l = some (r, δ, x)
  | _, _ => False
theorem RnR.mono (hs : Sub σ τ) {a b : Option Nat} (h : RnR σ a b) : RnR τ a b := by
  cases a <;> cases b <;> simp only [RnR] at h ⊢
  obtain ⟨δ, x, e⟩ := h
  exact ⟨δ, x, hs _ _ e⟩

/-- How a frame's run ends, above these callers. -/
def Ends (P : Program) (b : Frame) (a : Act) (todo : List Item) (cs : List Frame) (w : World) (v' : Value) (w' : World) : Prop :=
  (b.roundOf = none → ∃ a' todo', Steps P (lone (b.atR a todo) cs w) (lone { b.atR a' todo' with mode := .returning } cs w') ∧ a'.defers = [] ∧ ∃ fn, P.funcs[b.fn]? = some fn ∧ (results fn a'.tmps).run P w' = .ok v' w') ∧
  (b.roundOf.isSome = true → b.kind = .normal → ∀ c cs', cs = c :: cs' → Steps P (lone (b.atR a todo) (c :: cs') w) (lone (c.finish v') cs' w'))

structure FR (σ : Sg) (fr : Fr) (b : Frame) (a : Act) : Prop where
  fn : b.fn = fr.fn
  tmps : TR σ fr.nt fr.tmps a.tmps
  defers : DRs σ fr.defers a.defers
  round : RnR σ fr.round b.roundOf

def Ok (P : Program) (B : World) (call : Oracle) : Prop := ∀ fr h v h', call fr h = some (v, h') → fr.ret = false → ∀ σ w b a, FR σ fr b a → HR P B σ h w → P.globals.size ≤ h.next → Free σ h.next h'.next →
  ∀ cs, ∃ v' w' τ, VR τ v v' ∧ Mv P B σ h w τ h' w' ∧ Ends P b a fr.todo cs w v' w'

/-- What a function that is not run, but told, comes to: in every world that keeps what lay at the start. -/
def ValOk (P : Program) (B : World) (pr : FuncId → List Value → Option Value) : Prop := ∀ f args v, pr f args = some v → args.all plain1 = true ∧ plain1 v = true ∧
  ((∀ w, (callFunc f ⟨args⟩).run P w = .ok (.value v) w) ∨ (∀ w, (callFunc f ⟨args⟩).run P w = .ok (.enter f ⟨args⟩) w) ∧ ∀ w, Below B.heap.size B w → Calls P f ⟨args⟩ w (fun e W => e = .returned v ∧ Below w.heap.size w W))

def NoCount (P : Program) : Prop := ∀ (f : Nat) (fn : Func), P.funcs[f]? = some fn → (fn.name == "runtime.NumGoroutine") = false

theorem VRs.plain_eq {a a' : List Value} (h : VRs σ a a') (hp : a.all plain1 = true) : a' = a := by
  apply List.ext_getElem?
  intro i
  by_cases hi : i < a.length
  · obtain ⟨v', h1, h2⟩ := h.at (List.getElem?_eq_getElem hi)
    have := VR.plain1 (σ := σ) (List.all_eq_true.1 hp _ (List.getElem_mem hi))
    rw [h1, List.getElem?_eq_getElem hi, h2.one this]
  · rw [List.getElem?_eq_none (by have := h.1; omega), List.getElem?_eq_none (by omega)]

theorem putAll_get : ∀ (vs : List Value) (t : Tm) (i j : Nat), (putAll t i vs).get j = if i ≤ j ∧ j < i + vs.length then vs[j - i]? else t.get j
  | [], t, i, j => by simp [putAll]; omega
  | v :: vs, t, i, j => by
    simp only [putAll]
    rw [putAll_get vs _ (i + 1) j, Tr.get_put]
    simp only [List.length_cons]
    by_cases e : j = i
    · subst e; rw [if_neg (by omega), if_pos (by omega)]; simp
    · by_cases hc : i + 1 ≤ j ∧ j < i + 1 + vs.length
      · rw [if_pos hc, if_pos (by omega)]
        have : j - i = (j - (i + 1)) + 1 := by omega
        rw [this]; simp
      · rw [if_neg hc, if_neg e, if_neg (by omega)]

/-- The frame of a call. -/
theorem enterx_run {f : FuncId} {args args' : List Value} {fr : Fr} (ha : VRs σ args args') (he : enterx P f args = some fr) (hnc : NoCount P) (kind : CallKind) :
    ∃ b a, Frame.enter P f ⟨args'⟩ kind = b.atR a fr.todo ∧ b.kind = kind ∧ b.fn = f ∧ b.roundOf = none ∧ FR σ fr b a ∧ fr.ret = false ∧ fr.round = none ∧ ∀ w, (callFunc f ⟨args'⟩).run P w = .ok (.enter f ⟨args'⟩) w := by
  unfold enterx at he
  rw [funx_eq] at he
  cases hf : P.funcs[f]? with
  | none => rw [hf] at he; simp at he
  | some fn =>
    rw [hf] at he
    cases hb : fn.body with
    | none => simp [hb] at he
    | some c =>
      simp only [hb] at he
      cases hc : (Nat.ble args.length fn.ntmps && Nat.ble fn.ntmps 4000) with
      | false => rw [hc] at he; simp at he
      | true =>
        rw [hc] at he
        simp only [cond_true, Option.some.injEq] at he
        subst he
        simp only [Bool.and_eq_true] at hc
        have h1 := Nat.le_of_ble_eq_true hc.1
        have hlen := ha.1
        refine ⟨{ (default : Frame) with fn := f, kind := kind, roundOf := none }, { tmps := (⟨args'⟩ : Array Value) ++ Array.replicate (fn.ntmps - args'.length) undef, defers := [] }, ?_, rfl, rfl, rfl, ?_, rfl, rfl, fun w => ?_⟩
        · simp [Frame.enter, Frame.atR, hf, hb]
        · refine ⟨rfl, ⟨by simp; omega, fun i => ?_⟩, DRs.nil σ, trivial⟩
          rw [putAll_get]
          by_cases hi : i < args.length
          · rw [if_pos (by omega)]
            obtain ⟨v', k1, k2⟩ := ha.at (List.getElem?_eq_getElem hi)
            have e1 : (args[i - 0]?).getD undef = args[i] := by simp [hi]
            have e2 : ((⟨args'⟩ : Array Value) ++ Array.replicate (fn.ntmps - args'.length) undef).getD i undef = v' := by
              rw [Array.getD_eq_getD_getElem?, Array.getElem?_append_left (by simp; omega)]
              simp [k1]
            rw [e1, e2]; exact k2
          · rw [if_neg (by omega)]
            have e2 : ((⟨args'⟩ : Array Value) ++ Array.replicate (fn.ntmps - args'.length) undef).getD i undef = undef := by
              rw [Array.getD_eq_getD_getElem?]
              by_cases hi2 : i < fn.ntmps
              · rw [Array.getElem?_append_right (by simp; omega)]
                simp only [Array.getElem?_replicate]
                split <;> rfl
              · rw [Array.getElem?_eq_none (by simp; omega)]; rfl
            rw [e2]
            simp only [Tr.get, Option.getD_none]
            exact VR.undef σ
        · have hcn := hnc f fn hf
          unfold callFunc
          simp only [Sem.run_bind, run_program, Result.andThen_ok, hf, hcn, hb]
          simp

theorem fin_atR {b : Frame} {a : Act} {ops : Array Oper} {i : Nat} {rest : List Nat} {k : List Item} {o : Oper} (ho : ops[i]? = some o) (v : Value) : (b.atR a (.inRegion ops (i :: rest) :: k)).finish v = b.atR (a.put o.dst v) (.inRegion ops rest :: k) := by
  rw [Frame.finish_atR, ho]; rfl

section op
variable {b : Frame} {a : Act} {ops : Array Oper} {i : Nat} {rest : List Nat} {k : List Item} {cs : List Frame} {o : Oper} {v' : Value}

theorem op_value (ho : ops[i]? = some o) (hw : Region.wanted o (yielded ops a.tmps) = true) (h : (o.semAt b.roundOf a.eval).run P w = .ok (.value v') w') : Steps P (lone (b.atR a (.inRegion ops (i :: rest) :: k)) cs w) (lone (b.atR (a.put o.dst v') (.inRegion ops rest :: k)) cs w') := by
  have hg := stepGR_op (P := P) (b := b) (k := k) (cs := cs) (w := w) (rest := rest) ho hw
  refine .one (step_lone_go ?_)
  rw [hg, ← fin_atR ho]; simp [stepG.apply, h]
theorem op_skip (ho : ops[i]? = some o) (hw : Region.wanted o (yielded ops a.tmps) = true) (h : (o.semAt b.roundOf a.eval).run P w = .ok .skip w') : Steps P (lone (b.atR a (.inRegion ops (i :: rest) :: k)) cs w) (lone (b.atR (a.put o.dst undef) (.inRegion ops rest :: k)) cs w') := by
  have hg := stepGR_op (P := P) (b := b) (k := k) (cs := cs) (w := w) (rest := rest) ho hw
  refine .one (step_lone_go ?_)
  rw [hg, ← fin_atR ho]; simp [stepG.apply, h]
theorem op_defer {d : Deferred} (ho : ops[i]? = some o) (hw : Region.wanted o (yielded ops a.tmps) = true) (h : (o.semAt b.roundOf a.eval).run P w = .ok (.defer d) w') : Steps P (lone (b.atR a (.inRegion ops (i :: rest) :: k)) cs w) (lone (b.atR ({ a with defers := d :: a.defers }.put o.dst undef) (.inRegion ops rest :: k)) cs w') := by
  have hg := stepGR_op (P := P) (b := b) (k := k) (cs := cs) (w := w) (rest := rest) ho hw
  refine .one (step_lone_go ?_)
  have : ({ b.atR a (.inRegion ops (i :: rest) :: k) with defers := d :: a.defers } : Frame).finish undef = b.atR ({ a with defers := d :: a.defers }.put o.dst undef) (.inRegion ops rest :: k) := by
    have := Frame.finish_atR b { a with defers := d :: a.defers } ops i rest k undef
    rw [ho] at this; exact this
  rw [hg]; simp only [stepG.apply, Sem.runT_eq, h, GStep.bare_after]
  exact congrArg (fun fr => GStep.go { frame := fr, callers := cs, status := .running, dying := none } w') this
theorem op_enter {f : FuncId} {args : Array Value} {w1 : World} (ho : ops[i]? = some o) (hw : Region.wanted o (yielded ops a.tmps) = true) (h : (o.semAt b.roundOf a.eval).run P w = .ok (.enter f args) w1)
    (hc : Steps P (lone (Frame.enter P f args .normal) (b.atR a (.inRegion ops (i :: rest) :: k) :: cs) w1) (lone ((b.atR a (.inRegion ops (i :: rest) :: k)).finish v') cs w')) :
    Steps P (lone (b.atR a (.inRegion ops (i :: rest) :: k)) cs w) (lone (b.atR (a.put o.dst v') (.inRegion ops rest :: k)) cs w') := by
  have hg := stepGR_op (P := P) (b := b) (k := k) (cs := cs) (w := w) (rest := rest) ho hw
  have henter : step P (lone (b.atR a (.inRegion ops (i :: rest) :: k)) cs w) = .next (lone (Frame.enter P f args .normal) (b.atR a (.inRegion ops (i :: rest) :: k) :: cs) w1) :=
    step_lone_go (by rw [hg]; simp [stepG.apply, h, Frame.atR])
  refine .head henter ?_
  rw [← fin_atR ho]
  exact hc
theorem op_round {l : Nat} {f : FuncId} {tmps : Array Value} {assign body : Code} {w1 : World} (ho : ops[i]? = some o) (hw : Region.wanted o (yielded ops a.tmps) = true) (h : (o.semAt b.roundOf a.eval).run P w = .ok (.round l f tmps assign body) w1)
    (hc : Steps P (lone (Frame.round l f tmps assign body .normal) (b.atR a (.inRegion ops (i :: rest) :: k) :: cs) w1) (lone ((b.atR a (.inRegion ops (i :: rest) :: k)).finish v') cs w')) :
    Steps P (lone (b.atR a (.inRegion ops (i :: rest) :: k)) cs w) (lone (b.atR (a.put o.dst v') (.inRegion ops rest :: k)) cs w') := by
  have hg := stepGR_op (P := P) (b := b) (k := k) (cs := cs) (w := w) (rest := rest) ho hw
  have henter : step P (lone (b.atR a (.inRegion ops (i :: rest) :: k)) cs w) = .next (lone (Frame.round l f tmps assign body .normal) (b.atR a (.inRegion ops (i :: rest) :: k) :: cs) w1) :=
    step_lone_go (by rw [hg]; simp [stepG.apply, h, Frame.atR])
  refine .head henter ?_
  rw [← fin_atR ho]
  exact hc
end op

/-- A call's frame, to its caller. -/
theorem Ends.home {b : Frame} {a : Act} {todo : List Item} {v' : Value} {c : Frame} {cs : List Frame} (h : Ends P b a todo (c :: cs) w v' w') (hk : b.kind = .normal) : Steps P (lone (b.atR a todo) (c :: cs) w) (lone (c.finish v') cs w') := by
  cases hr : b.roundOf with
  | some l => exact h.2 (by rw [hr]; rfl) hk c cs rfl
  | none =>
    obtain ⟨a', todo', h1, h2, fn, h3, h4⟩ := h.1 hr
    exact h1.trans (.one (step_leave_returned ⟨rfl, h2, hk, fn, h3, h4⟩))

/-- What a call comes to, above a caller: a value at once, or by a frame of its own. -/
def Comes2 (P : Program) (f : FuncId) (args : Array Value) (c : Frame) (cs : List Frame) (w : World) (v' : Value) (w' : World) : Prop :=
  ((callFunc f args).run P w = .ok (.value v') w') ∨ ((callFunc f args).run P w = .ok (.enter f args) w ∧ Steps P (lone (Frame.enter P f args .normal) (c :: cs) w) (lone (c.finish v') cs w'))

/-- What a call that is told of a memory comes to. -/
def TelOk (P : Program) (B : World) (tel : FuncId → List Value → H → Option (Value × H)) : Prop := ∀ f args h v h', tel f args h = some (v, h') → ∀ σ w args', VRs σ args args' → HR P B σ h w → P.globals.size ≤ h.next → Free σ h.next h'.next →
  ∀ c cs, ∃ v' w' τ, VR τ v v' ∧ Mv P B σ h w τ h' w' ∧ Comes2 P f ⟨args'⟩ c cs w v' w'

structure PrimOk (P : Program) (B : World) (pr : Prim) : Prop where
  val : ValOk P B pr.val
  tel : TelOk P B pr.tel

theorem callx_run {pr : Prim} {call : Oracle} (hok : Ok P B call) (hpr : PrimOk P B pr) (hnc : NoCount P) (K : HR P B σ h w) (hg : P.globals.size ≤ h.next) {f : FuncId} {args args' : List Value} {v : Value} {h' : H} (ha : VRs σ args args') (hf : Free σ h.next h'.next)
    (hc : callx P pr call f args h = some (v, h')) (c : Frame) (cs : List Frame) : ∃ v' w' τ, VR τ v v' ∧ Mv P B σ h w τ h' w' ∧ Comes2 P f ⟨args'⟩ c cs w v' w' := by
  unfold callx at hc
  cases hp : pr.val f args with
  | some u =>
    rw [hp] at hc
    simp only [Option.some.injEq, Prod.mk.injEq] at hc
    obtain ⟨rfl, rfl⟩ := hc
    obtain ⟨p1, p2, p3⟩ := hpr.val f args u hp
    have := ha.plain_eq p1
    subst this
    rcases p3 with q | ⟨q1, q2⟩
    · exact ⟨u, w, σ, VR.plain1 p2, Mv.refl K, .inl (q w)⟩
    · obtain ⟨e, w', fr, ⟨rfl, hb⟩, hcm, hfn, hlv⟩ := q2 w K.bel (c :: cs)
      exact ⟨u, w', σ, VR.plain1 p2, Mv.below K hb, .inr ⟨q1 w, Steps.trans hcm (.one (step_leave_returned hlv))⟩⟩
  | none =>
    rw [hp] at hc
    simp only at hc
    cases ht : pr.tel f args h with
    | some r =>
      rw [ht] at hc
      simp only at hc
      cases hb : Nat.ble h.next r.2.next with
      | false => rw [hb] at hc; simp at hc
      | true =>
        rw [hb] at hc
        simp only [cond_true, Option.some.injEq] at hc
        subst hc
        exact hpr.tel f args h v h' ht σ w args' ha K hg hf c cs
    | none =>
    rw [ht] at hc
    simp only at hc
    cases he : enterx P f args with
    | none => rw [he] at hc; simp at hc
    | some fr =>
      rw [he] at hc
      simp only at hc
      obtain ⟨b, a, e1, e2, e3, e4, e5, e6, e7, e8⟩ := enterx_run ha he hnc .normal
      obtain ⟨v', w', τ, k1, k2, k3⟩ := hok fr h v h' hc e6 σ w b a e5 K hg hf (c :: cs)
      refine ⟨v', w', τ, k1, k2, .inr ⟨e8 w, ?_⟩⟩
      rw [e1]
      exact k3.home e2
end
end Go.Ev
namespace Go.Ev
open Go Go.RowKit
section
variable {P : Program} {B : World} {σ τ : Sg} {h h' : H} {w w' : World}

theorem putPs_run : ∀ {ps : List Tmp} {vs vs' : List Value} {nt : Nat} {t t2 : Tm} {a : Array Value}, TR σ nt t a → VRs σ vs vs' → putPs nt t ps vs = some t2 → ps.length = vs.length ∧ TR σ nt t2 ((ps.zip vs').foldl (fun tmps (p : Tmp × Value) => tmps.setIfInBounds p.1 p.2) a)
  | [], [], vs', nt, t, t2, a, ht, hv, h => by
    simp [putPs] at h; subst h; exact ⟨rfl, by simpa using ht⟩
  | [], v :: vs, vs', nt, t, t2, a, ht, hv, h => by simp [putPs] at h
  | p :: ps, [], vs', nt, t, t2, a, ht, hv, h => by simp [putPs] at h
  | p :: ps, v :: vs, [], nt, t, t2, a, ht, hv, h => by have := hv.1; simp at this
  | p :: ps, v :: vs, v' :: vs', nt, t, t2, a, ht, hv, h => by
    simp only [putPs] at h
    cases hp : Nat.blt p nt with
    | false => rw [hp] at h; simp at h
    | true =>
      rw [hp] at h
      simp only [cond_true] at h
      have := putPs_run (ht.set (by simpa [Nat.blt_eq] using hp) hv.head) hv.tail h
      exact ⟨by simp [this.1], by simpa using this.2⟩

theorem roundx_run (K : HR P B σ h w) {l r δ x : Nat} {args args' : List Value} {fr : Fr} (hl : σ l = some (r, δ, x)) (ha : VRs σ args args') (hr : roundx h l args = some fr) :
    ∃ f tmps assign body b a, (Instr.yield r ⟨args'⟩).run P w = .ok (.round r f tmps assign body) w ∧ Frame.round r f tmps assign body .normal = b.atR a fr.todo ∧ b.kind = .normal ∧ FR σ fr b a ∧ fr.ret = false := by
  unfold roundx at hr
  split at hr
  · rename_i lp ho
    obtain ⟨t, ht, rfl⟩ := Option.map_eq_some_iff.1 hr
    obtain ⟨r', δ', x', e1, lp', h1, k1, k2, k3, k4, k5, k6, k7, r2, δ2, x2, k8, k9⟩ := K.obj l _ ho rfl
    rw [hl] at e1
    cases e1
    obtain ⟨hlen, htr⟩ := putPs_run k4 ha ht
    have hg : (getObj r).run P w = .ok (.loop lp') w := by simp [getObj, Sem.run, h1]
    have hps : lp'.params.size = args'.length := by
      have := ha.1
      have : lp'.params.toList.length = lp.params.length := by rw [k5]
      simp only [Array.length_toList] at this
      omega
    have hfold : ((lp'.params.zip ⟨args'⟩).foldl (fun tmps (p : Tmp × Value) => tmps.setIfInBounds p.1 p.2) lp'.tmps) = ((lp.params.zip args').foldl (fun tmps (p : Tmp × Value) => tmps.setIfInBounds p.1 p.2) lp'.tmps) := by
      rw [← Array.foldl_toList, Array.toList_zip, k5]
    refine ⟨lp.fn, (lp.params.zip args').foldl (fun tmps (p : Tmp × Value) => tmps.setIfInBounds p.1 p.2) lp'.tmps, lp.assign, lp.body, { (default : Frame) with fn := lp.fn, kind := .normal, roundOf := some r }, { tmps := (lp.params.zip args').foldl (fun tmps (p : Tmp × Value) => tmps.setIfInBounds p.1 p.2) lp'.tmps, defers := [] }, ?_, ?_, rfl, ⟨rfl, htr, DRs.nil σ, δ, x, hl⟩, rfl⟩
    · unfold Instr.yield Instr.getLoop
      simp only [Sem.run_bind, hg, Result.andThen_ok, Sem.run_pure]
      rw [if_neg (by simp [hps])]
      simp only [Sem.run_bind, Result.andThen_ok, Sem.run_pure]
      rw [k3, k6, k7]
      exact congrArg (fun z => Result.ok (Next.round r lp.fn z lp.assign lp.body) w) hfold
    · rfl
  · simp at hr

/-- The state of a region under way. -/
structure SR (σ : Sg) (nt : Nat) (rnd : Option Nat) (s : St) (b : Frame) (a : Act) : Prop where
  tmps : TR σ nt s.t a.tmps
  defers : DRs σ s.ds a.defers
  round : RnR σ rnd b.roundOf

theorem SR.ev (K : HR P B σ h w) {nt : Nat} {t : Tm} {a : Act} (ht : TR σ nt t a.tmps) {x : Operand} (hx : okO P x = true) : VR σ (evx t x) (a.eval x) := by
  cases x with
  | tmp n => exact ht.2 n
  | const v => exact VR.plain hx
  | global g =>
    have hg : g < P.globals.size := by simpa [okO, Nat.blt_eq] using hx
    have := VR.ptr (o := 0) (K.glob g hg)
    simpa [evx, Act.eval] using this
  | func f => exact .func f rfl rfl (fun i v v' hh => by simp at hh) (fun i v v' hh => by simp at hh)

theorem SR.want {nt : Nat} {t : Tm} {a : Act} (ht : TR σ nt t a.tmps) {ops : Array Oper} {o : Oper} : Region.wanted o (yielded ops a.tmps) = wantx ops.toList t o := by
  unfold Region.wanted wantx
  cases hgd : o.guard with
  | none => rfl
  | some g =>
    obtain ⟨j, b⟩ := g
    simp only [yielded, Array.getElem?_toList]
    cases hd : (ops[j]?).bind (·.dst) with
    | none => simp
    | some d =>
      have hv := ht.2 d
      rw [Array.getD_eq_getD_getElem?] at hv
      simp only [Option.bind_some]
      generalize hz : a.tmps[d]? = z at hv
      cases htg : t.get d with
      | none =>
        rw [htg] at hv
        cases z with
        | none => rfl
        | some z =>
          simp only [Option.getD_none, Option.getD_some, undef] at hv
          cases hv
          rfl
      | some u =>
        rw [htg] at hv
        cases z with
        | none =>
          simp only [Option.getD_none, Option.getD_some, undef] at hv
          cases hv
          rfl
        | some z =>
          simp only [Option.getD_some] at hv
          cases hv <;> first | rfl | (rename_i c; cases c <;> cases b <;> rfl)

theorem setx_run {nt : Nat} {t t' : Tm} {a : Act} {d : Option Tmp} {v v' : Value} (ht : TR σ nt t a.tmps) (hv : VR σ v v') (h : setx nt t d v = some t') : TR σ nt t' (a.put d v').tmps ∧ (a.put d v').defers = a.defers := by
  unfold setx at h
  cases d with
  | none => simp at h; subst h; exact ⟨ht, rfl⟩
  | some d =>
    simp only at h
    cases hb : Nat.blt d nt with
    | false => rw [hb] at h; simp at h
    | true =>
      rw [hb] at h
      simp only [cond_true, Option.some.injEq] at h
      subst h
      exact ⟨ht.set (by simpa [Nat.blt_eq] using hb) hv, rfl⟩

theorem opX_same {t : Tm} {hh h2 : H} {o : Op} {res : Res} (h : opX P t hh o = some (res, h2)) (hne : (∃ f as, res = .enter f as) ∨ ∃ l as, res = .round l as) : h2 = hh := by
  have nv : ∀ v, res ≠ .val v := by rintro v rfl; rcases hne with ⟨f, as, e⟩ | ⟨l, as, e⟩ <;> cases e
  have nd : ∀ v, res ≠ .defer v := by rintro v rfl; rcases hne with ⟨f, as, e⟩ | ⟨l, as, e⟩ <;> cases e
  cases o <;> simp only [opX] at h <;> (try (simp at h; done))
  case store ty a x =>
    unfold storeX at h
    split at h
    · obtain ⟨_, _, h⟩ := Option.map_eq_some_iff.1 h; cases h; exact absurd rfl (nv _)
    · simp at h
  case mapUpdate =>
    unfold updX at h
    split at h
    · obtain ⟨_, _, h⟩ := Option.map_eq_some_iff.1 h; cases h; exact absurd rfl (nv _)
    · simp at h
  case insert =>
    unfold updX at h
    split at h
    · obtain ⟨_, _, h⟩ := Option.map_eq_some_iff.1 h; cases h; exact absurd rfl (nv _)
    · simp at h
  case convert =>
    unfold toBytesX at h
    split at h
    · split at h
      · split at h
        · simp only [Option.some.injEq, Prod.mk.injEq] at h; exact absurd h.1.symm (nv _)
        · simp at h
      · simp at h
    · simp at h
  case call c =>
    unfold callX at h
    split at h
    · unfold invokeX at h
      split at h
      · obtain ⟨_, _, h⟩ := Option.map_eq_some_iff.1 h; cases h; rfl
      · simp at h
    · obtain ⟨_, _, h⟩ := Option.map_eq_some_iff.1 h; cases h; rfl
    · unfold builtinX at h
      split at h
      · unfold appX at h
        split at h
        · obtain ⟨_, _, h⟩ := Option.map_eq_some_iff.1 h; cases h; exact absurd rfl (nv _)
        · simp at h
      · obtain ⟨v, e⟩ := copyX_val h; exact absurd e (nv v)
      · obtain ⟨v, e⟩ := clearX_val h; exact absurd e (nv v)
      · simp at h
  case defer c =>
    unfold deferX at h
    split at h
    · split at h
      · simp only [Option.some.injEq, Prod.mk.injEq] at h; exact absurd h.1.symm (nd _)
      · simp at h
    · simp at h

/-- One operation, as far as what it looks at is known. -/
theorem doOp_core {pr : Prim} {call : Oracle} (hok : Ok P B call) (hpr : PrimOk P B pr) (hnc : NoCount P) {rnd : Option Nat} {nt : Nat} {ops : Array Oper} {i : Nat} {o : Oper} {s s' : St} {b : Frame} {a : Act} (ho : ops[i]? = some o) (hw0 : Region.wanted o (yielded ops a.tmps) = wantx ops.toList s.t o) (hev : ∀ x ∈ o.op.operands, okO P x = true → VR σ (evx s.t x) (a.eval x)) (hdf : DRs σ s.ds a.defers) (hrn : RnR σ rnd b.roundOf) (K : HR P B σ s.h w) (hg : P.globals.size ≤ s.h.next) (hf : Free σ s.h.next s'.h.next)
    (hd : doOp P pr call rnd nt ops.toList o s = some s') (rest : List Nat) (k : List Item) (cs : List Frame) :
    ∃ v v' ds' w' τ, Mv P B σ s.h w τ s'.h w' ∧ VR τ v v' ∧ setx nt s.t o.dst v = some s'.t ∧ DRs τ s'.ds ds' ∧ Steps P (lone (b.atR a (.inRegion ops (i :: rest) :: k)) cs w) (lone (b.atR ({ a with defers := ds' }.put o.dst v') (.inRegion ops rest :: k)) cs w') := by
  unfold doOp at hd
  have hw := hw0
  cases hwx : wantx ops.toList s.t o with
  | false =>
    rw [hwx] at hd hw
    simp only [cond_false] at hd
    obtain ⟨t', h1, rfl⟩ := Option.map_eq_some_iff.1 hd
    refine ⟨undef, undef, a.defers, w, σ, Mv.refl K, VR.undef σ, h1, hdf, .one ?_⟩
    have := stepR_op_skip (P := P) (b := b) (a := a) (k := k) (cs := cs) (w := w) (ops := ops) (i := i) (rest := rest) (by simp [ho, hw])
    simpa [ho] using this
  | true =>
    rw [hwx] at hd hw
    simp only [cond_true] at hd
    cases hall : o.op.operands.toList.all (okO P) with
    | false => rw [hall] at hd; simp at hd
    | true =>
      rw [hall] at hd
      simp only [cond_true] at hd
      have hρ : ∀ x ∈ o.op.operands, VR σ (evx s.t x) (a.eval x) := fun x hx => hev x hx (List.all_eq_true.1 hall x (by simpa using hx))
      -- how a value comes home
      have put : ∀ {τ : Sg} {v v' : Value} {ds : List Deferred} {h2 : H}, EX σ τ s.h.next h2.next → VR τ v v' → ds = s.ds → (setx nt s.t o.dst v).map (fun t => (⟨t, ds, h2⟩ : St)) = some s' → (VR τ v v' ∧ setx nt s.t o.dst v = some s'.t ∧ DRs τ s'.ds a.defers) ∧ s'.h = h2 := by
        rintro τ v v' ds h2 hex hv rfl hs
        obtain ⟨t', h1, rfl⟩ := Option.map_eq_some_iff.1 hs
        exact ⟨⟨hv, h1, hdf.mono hex.2.1⟩, rfl⟩
      have notdefer : ∀ {res : Res} {h2 : H}, opx P s.t s.h o.op = some (res, h2) → (∀ d, res ≠ .defer d) → o.semAt b.roundOf a.eval = execOp a.eval o := by
        intro res h2 hx hnd
        refine Oper.semAt_eq _ _ _ fun c hc => ?_
        unfold opx at hx
        rw [hc] at hx
        simp only [clsx, opX, deferX] at hx
        split at hx
        · split at hx
          · simp only [Option.some.injEq, Prod.mk.injEq] at hx
            exact hnd _ hx.1.symm
          · simp at hx
        · simp at hx
      cases hx : opx P s.t s.h o.op with
      | none => rw [hx] at hd; simp at hd
      | some r =>
        obtain ⟨res, h2⟩ := r
        rw [hx] at hd
        simp only at hd
        cases hres : resx P pr call rnd s (res, h2) with
        | none => rw [hres] at hd; simp at hd
        | some q =>
          obtain ⟨v, ds, h3⟩ := q
          rw [hres] at hd
          simp only at hd
          have hnext3 : s'.h = h3 := by
            obtain ⟨t', _, rfl⟩ := Option.map_eq_some_iff.1 hd
            rfl
          -- the classes
          have cls : (clsx P o.op = 0 ∧ ∃ u, opP P s.t o.op = some u ∧ res = .val u ∧ h2 = s.h) ∨ (clsx P o.op = 1 ∧ ∃ u, opL P s.t s.h o.op = some u ∧ res = .val u ∧ h2 = s.h) ∨
              (clsx P o.op = 2 ∧ ∃ ob ak, opA P s.t o.op = some (ob, ak) ∧ res = .val (valA s.h.next ak) ∧ h2 = s.h.new ob) ∨ opX P s.t s.h o.op = some (res, h2) := by
            unfold opx at hx
            split at hx
            · rename_i hc
              obtain ⟨u, h1, h4⟩ := Option.map_eq_some_iff.1 hx
              simp only [Prod.mk.injEq] at h4
              exact .inl ⟨hc, u, h1, h4.1.symm, h4.2.symm⟩
            · rename_i hc
              obtain ⟨u, h1, h4⟩ := Option.map_eq_some_iff.1 hx
              simp only [Prod.mk.injEq] at h4
              exact .inr (.inl ⟨hc, u, h1, h4.1.symm, h4.2.symm⟩)
            · rename_i hc
              obtain ⟨⟨ob, ak⟩, h1, h4⟩ := Option.map_eq_some_iff.1 hx
              simp only [Prod.mk.injEq] at h4
              exact .inr (.inr (.inl ⟨hc, ob, ak, h1, h4.1.symm, h4.2.symm⟩))
            · exact .inr (.inr (.inr hx))
          rcases cls with ⟨_, u, h1, rfl, rfl⟩ | ⟨_, u, h1, rfl, rfl⟩ | ⟨_, ob, ak, h1, rfl, rfl⟩ | hX
          · simp only [resx, Option.some.injEq, Prod.mk.injEq] at hres
            obtain ⟨rfl, rfl, rfl⟩ := hres
            obtain ⟨v', r1, r2⟩ := opP_run hρ h1
            obtain ⟨p1, p2⟩ := put (EX.refl σ _) r2 rfl hd
            refine ⟨_, _, a.defers, w, σ, by rw [p2]; exact Mv.refl K, p1.1, p1.2.1, p1.2.2, op_value ho hw ?_⟩
            rw [notdefer hx (by simp)]; exact r1 w
          · simp only [resx, Option.some.injEq, Prod.mk.injEq] at hres
            obtain ⟨rfl, rfl, rfl⟩ := hres
            obtain ⟨v', r1, r2⟩ := opL_run K hρ h1
            obtain ⟨p1, p2⟩ := put (EX.refl σ _) r2 rfl hd
            refine ⟨_, _, a.defers, w, σ, by rw [p2]; exact Mv.refl K, p1.1, p1.2.1, p1.2.2, op_value ho hw ?_⟩
            rw [notdefer hx (by simp)]; exact r1
          · simp only [resx, Option.some.injEq, Prod.mk.injEq] at hres
            obtain ⟨rfl, rfl, rfl⟩ := hres
            obtain ⟨O, r1, r2, r3, r4⟩ := opA_run (σ := σ) hρ h1
            have hnx : σ s.h.next = none := hf _ (Nat.le_refl _) (by rw [hnext3]; show s.h.next < s.h.next + 1; omega)
            have hsub := addS_sub (w.heap.size, 0, 0) hnx
            have hnew := HR.new K (o := ob) (O := O) (δ := 0) (x := 0) hnx hg (.inl r3) (r2 _ hsub _ _ (by show (w.heap.push O)[w.heap.size]? = _; simp))
            obtain ⟨p1, p2⟩ := put (h2 := s.h.new ob) (addS_ex (w.heap.size, 0, 0) hnx) (valA_rel (addS_self _ _ _) r4) rfl hd
            refine ⟨_, _, a.defers, w.alloc O, _, by rw [p2]; exact ⟨addS_ex _ hnx, hnew.1, hnew.2.1, hnew.2.2⟩, p1.1, p1.2.1, p1.2.2, op_value ho hw ?_⟩
            rw [notdefer hx (by simp)]; exact r1 w
          · cases res with
            | val u =>
              simp only [resx, Option.some.injEq, Prod.mk.injEq] at hres
              obtain ⟨rfl, rfl, rfl⟩ := hres
              obtain ⟨w', τ, x1, x2, x3, x4, nx, v', x5, x6, x7⟩ := opX_run K hρ (by rw [hnext3] at hf; exact hf) hg hX
              obtain ⟨p1, p2⟩ := put x1 x7 rfl hd
              have hm : Mv P B σ s.h w τ s'.h w' := by rw [p2]; exact ⟨x1, x2, x3, x4⟩
              have hsem := notdefer hx (by simp)
              rcases x6 with rfl | ⟨rfl, rfl⟩
              · exact ⟨_, _, a.defers, w', τ, hm, p1.1, p1.2.1, p1.2.2, op_value ho hw (by rw [hsem]; exact x5)⟩
              · exact ⟨_, _, a.defers, w', τ, hm, p1.1, p1.2.1, p1.2.2, op_skip ho hw (by rw [hsem]; exact x5)⟩
            | enter f args =>
              simp only [resx] at hres
              cases hcx : callx P pr call f args h2 with
              | none => rw [hcx] at hres; simp at hres
              | some r =>
                obtain ⟨rv, rh⟩ := r
                rw [hcx] at hres
                simp only [Option.some.injEq, Prod.mk.injEq] at hres
                obtain ⟨rfl, rfl, rfl⟩ := hres
                have hsame := opX_same hX (.inl ⟨f, args, rfl⟩)
                obtain ⟨w1, τ1, x1, x2, x3, x4, rfl, args', x5, x6⟩ := opX_run K hρ (by rw [hsame]; exact fun q h1 h2 => by omega) hg hX
                have m1 : Mv P B σ s.h w1 τ1 h2 w1 := ⟨x1, x2, x3, x4⟩
                obtain ⟨v', w', τ, c1, c2, c3⟩ := callx_run hok hpr hnc x2 (by have := x1.1; omega) x5 (Free.right m1 (by rw [hnext3] at hf; exact hf)) hcx (b.atR a (.inRegion ops (i :: rest) :: k)) cs
                have m2 := m1.trans c2
                obtain ⟨p1, p2⟩ := put m2.ex c1 rfl hd
                have hsem := notdefer hx (by simp)
                refine ⟨_, _, a.defers, w', τ, by rw [p2]; exact m2, p1.1, p1.2.1, p1.2.2, ?_⟩
                rcases c3 with z | ⟨z1, z2⟩
                · exact op_value ho hw (by rw [hsem, x6]; exact z)
                · exact op_enter ho hw (by rw [hsem, x6]; exact z1) z2
            | round l args =>
              simp only [resx] at hres
              cases hrx : roundx h2 l args with
              | none => rw [hrx] at hres; simp at hres
              | some fr =>
                rw [hrx] at hres
                simp only at hres
                cases hcx : call fr h2 with
                | none => rw [hcx] at hres; simp at hres
                | some r =>
                  obtain ⟨rv, rh⟩ := r
                  rw [hcx] at hres
                  simp only [Option.some.injEq, Prod.mk.injEq] at hres
                  obtain ⟨rfl, rfl, rfl⟩ := hres
                  have hsame := opX_same hX (.inr ⟨l, args, rfl⟩)
                  obtain ⟨w1, τ1, x1, x2, x3, x4, rfl, r0, δ0, x0, args', x5, x6, x7⟩ := opX_run K hρ (by rw [hsame]; exact fun q h1 h2 => by omega) hg hX
                  have m1 : Mv P B σ s.h w1 τ1 h2 w1 := ⟨x1, x2, x3, x4⟩
                  obtain ⟨f, tmps, assign, body, b2, a2, y1, y2, y3, y4, y5⟩ := roundx_run x2 x5 x6 hrx
                  obtain ⟨v', w', τ, c1, c2, c3⟩ := hok fr h2 rv rh hcx y5 τ1 w1 b2 a2 y4 x2 (by have := x1.1; omega) (Free.right m1 (by rw [hnext3] at hf; exact hf)) (b.atR a (.inRegion ops (i :: rest) :: k) :: cs)
                  have m2 := m1.trans c2
                  obtain ⟨p1, p2⟩ := put m2.ex c1 rfl hd
                  have hsem := notdefer hx (by simp)
                  refine ⟨_, _, a.defers, w', τ, by rw [p2]; exact m2, p1.1, p1.2.1, p1.2.2, op_round ho hw (by rw [hsem, x7]; exact y1) ?_⟩
                  rw [y2]
                  exact c3.home y3
            | defer d =>
              simp only [resx] at hres
              cases rnd with
              | some l => simp at hres
              | none =>
                simp only [Option.some.injEq, Prod.mk.injEq] at hres
                obtain ⟨rfl, rfl, rfl⟩ := hres
                obtain ⟨w1, τ1, x1, x2, x3, x4, rfl, d', x5, x6⟩ := opX_run K hρ (by rw [hnext3] at hf; exact hf) hg hX
                have m1 : Mv P B σ s.h w1 τ1 h2 w1 := ⟨x1, x2, x3, x4⟩
                obtain ⟨t', h1, rfl⟩ := Option.map_eq_some_iff.1 hd
                have hro : b.roundOf = none := by
                  cases hb : b.roundOf with
                  | none => rfl
                  | some r => rw [hb] at hrn; exact hrn.elim
                exact ⟨undef, undef, d' :: a.defers, w1, τ1, m1, VR.undef τ1, h1, DRs.cons x5 (hdf.mono x1.2.1), op_defer ho hw (by rw [hro]; exact x6)⟩

/-- One operation. -/
theorem doOp_run {pr : Prim} {call : Oracle} (hok : Ok P B call) (hpr : PrimOk P B pr) (hnc : NoCount P) {rnd : Option Nat} {nt : Nat} {ops : Array Oper} {i : Nat} {o : Oper} {s s' : St} {b : Frame} {a : Act} (ho : ops[i]? = some o) (S : SR σ nt rnd s b a) (K : HR P B σ s.h w) (hg : P.globals.size ≤ s.h.next) (hf : Free σ s.h.next s'.h.next)
    (hd : doOp P pr call rnd nt ops.toList o s = some s') (rest : List Nat) (k : List Item) (cs : List Frame) :
    ∃ a' w' τ, Mv P B σ s.h w τ s'.h w' ∧ SR τ nt rnd s' b a' ∧ Steps P (lone (b.atR a (.inRegion ops (i :: rest) :: k)) cs w) (lone (b.atR a' (.inRegion ops rest :: k)) cs w') := by
  obtain ⟨v, v', ds', w', τ, m, hv, hs, hds, st⟩ := doOp_core hok hpr hnc ho (SR.want S.tmps) (fun x _ hx => SR.ev K S.tmps hx) S.defers S.round K hg hf hd rest k cs
  obtain ⟨q1, q2⟩ := setx_run (a := { a with defers := ds' }) (S.tmps.mono m.ex.2.1) hv hs
  exact ⟨_, w', τ, m, ⟨q1, by rw [q2]; exact hds, S.round.mono m.ex.2.1⟩, st⟩

end
end Go.Ev
namespace Go.Ev
open Go Go.RowKit
section
variable {P : Program} {B : World} {σ τ : Sg} {h h' : H} {w w' : World}

theorem cond_none {α : Type} {c : Bool} {x : Option α} {r : α} (hv : cond c x none = some r) : c = true ∧ x = some r := by cases c <;> simp_all

theorem cond_or {α : Type} {c : Bool} {x y z : α} (h : cond c x y = z) : x = z ∨ y = z := by cases c <;> simp_all

theorem over_next {a : Addr} {vs : List Value} (hv : h.over a vs = some h') : h'.next = h.next := by
  unfold H.over at hv
  split at hv
  · obtain ⟨_, hv⟩ := cond_none hv
    obtain ⟨_, _, rfl⟩ := Option.map_eq_some_iff.1 hv
    rfl
  · simp at hv
theorem app2_next {e size : Nat} {base : Option Addr} {len cap n : Nat} {new : List Value} {r : Value × H} (hv : app2 h e size base len cap n new = some r) : h.next ≤ r.2.next := by
  have one : h.next ≤ h.next + 1 := by omega
  unfold app2 at hv
  split at hv
  · simp only [Option.some.injEq] at hv; subst hv; exact one
  · split at hv
    · simp at hv
    · cases hb : Nat.beq (cap % 2) 0 with
      | true =>
        rw [hb] at hv
        simp only [cond_true] at hv
        cases hb2 : Nat.ble (len + n) (cap / 2) with
        | true =>
          rw [hb2] at hv
          simp only [cond_true] at hv
          obtain ⟨h2, h3, rfl⟩ := Option.map_eq_some_iff.1 hv
          rw [over_next h3]; exact Nat.le_refl _
        | false =>
          rw [hb2] at hv
          simp only [cond_false, Option.some.injEq] at hv
          subst hv; exact one
      | false =>
        rw [hb] at hv
        simp only [cond_false] at hv
        split at hv
        · obtain ⟨_, hv⟩ := cond_none hv
          simp only [Option.some.injEq] at hv
          subst hv; exact one
        · simp at hv
theorem appendx0_next {t t2 : TypeId} {s x : Value} {r : Value × H} (hv : appendx0 P h t t2 s x = some r) : h.next ≤ r.2.next := by
  unfold appendx0 at hv
  split at hv
  · split at hv
    · split at hv
      · obtain ⟨_, hv⟩ := cond_none hv
        unfold app1 at hv
        split at hv
        · rcases cond_or hv with hv | hv
          · simp only [Option.some.injEq] at hv; subst hv; exact Nat.le_refl _
          · exact app2_next hv
        · simp at hv
      · simp at hv
    · simp at hv
  · simp at hv
theorem appendz_next {t t2 : TypeId} {s x : Value} {r : Value × H} (hv : appendz P h t t2 s x = some r) : h.next ≤ r.2.next := by
  unfold appendz at hv
  split at hv
  · split at hv
    · split at hv
      · obtain ⟨_, hv⟩ := cond_none hv
        simp only [Option.some.injEq] at hv
        subst hv
        show h.next ≤ h.next + 1
        omega
      · simp at hv
    · simp at hv
  · simp at hv
theorem appendx_next {t t2 : TypeId} {s x : Value} {r : Value × H} (hv : appendx P h t t2 s x = some r) : h.next ≤ r.2.next := by
  unfold appendx at hv
  cases h0 : appendx0 P h t t2 s x with
  | none => rw [h0] at hv; exact appendz_next hv
  | some q => rw [h0] at hv; cases hv; exact appendx0_next h0
theorem opX_next {t : Tm} {o : Op} {res : Res} (hv : opX P t h o = some (res, h')) : h.next ≤ h'.next := by
  cases o <;> simp only [opX] at hv <;> (try (simp at hv; done))
  case store ty a x =>
    unfold storeX at hv
    split at hv
    · obtain ⟨h2, h3, hv⟩ := Option.map_eq_some_iff.1 hv
      cases hv
      unfold storex at h3
      dsimp only at h3
      split at h3
      · obtain ⟨_, h3⟩ := cond_none h3
        rw [over_next h3]; exact Nat.le_refl _
      · simp at h3
    · simp at hv
  case mapUpdate =>
    unfold updX at hv
    split at hv
    · obtain ⟨h2, h3, hv⟩ := Option.map_eq_some_iff.1 hv
      cases hv
      unfold mapUpdx at h3
      split at h3
      · split at h3
        · obtain ⟨_, h3⟩ := cond_none h3
          obtain ⟨u, _, rfl⟩ := Option.map_eq_some_iff.1 h3
          exact Nat.le_refl _
        · simp at h3
      · simp at h3
    · simp at hv
  case insert =>
    unfold updX at hv
    split at hv
    · obtain ⟨h2, h3, hv⟩ := Option.map_eq_some_iff.1 hv
      cases hv
      unfold mapUpdx at h3
      split at h3
      · split at h3
        · obtain ⟨_, h3⟩ := cond_none h3
          obtain ⟨u, _, rfl⟩ := Option.map_eq_some_iff.1 h3
          exact Nat.le_refl _
        · simp at h3
      · simp at h3
    · simp at hv
  case convert =>
    unfold toBytesX at hv
    split at hv
    · split at hv
      · split at hv
        · simp only [Option.some.injEq, Prod.mk.injEq] at hv
          rw [← hv.2]; show h.next ≤ h.next + 1; omega
        · simp at hv
      · simp at hv
    · simp at hv
  case call c =>
    unfold callX at hv
    split at hv
    · unfold invokeX at hv
      split at hv
      · obtain ⟨_, _, hv⟩ := Option.map_eq_some_iff.1 hv; cases hv; exact Nat.le_refl _
      · simp at hv
    · obtain ⟨_, _, hv⟩ := Option.map_eq_some_iff.1 hv; cases hv; exact Nat.le_refl _
    · unfold builtinX at hv
      split at hv
      · unfold appX at hv
        split at hv
        · obtain ⟨r, h3, hv⟩ := Option.map_eq_some_iff.1 hv; cases hv; exact appendx_next h3
        · simp at hv
      · rw [(copyX_parts hv).2]; exact Nat.le_refl _
      · rw [(clearX_parts hv).2]; exact Nat.le_refl _
      · simp at hv
  case defer c =>
    unfold deferX at hv
    split at hv
    · split at hv
      · simp only [Option.some.injEq, Prod.mk.injEq] at hv; rw [← hv.2]; exact Nat.le_refl _
      · simp at hv
    · simp at hv

def Mono (call : Oracle) : Prop := ∀ fr h v h', call fr h = some (v, h') → h.next ≤ h'.next

theorem opx_next {t : Tm} {o : Op} {r : Res × H} (hv : opx P t h o = some r) : h.next ≤ r.2.next := by
  unfold opx at hv
  split at hv
  · obtain ⟨_, _, rfl⟩ := Option.map_eq_some_iff.1 hv; exact Nat.le_refl _
  · obtain ⟨_, _, rfl⟩ := Option.map_eq_some_iff.1 hv; exact Nat.le_refl _
  · obtain ⟨_, _, rfl⟩ := Option.map_eq_some_iff.1 hv; show h.next ≤ h.next + 1; omega
  · exact opX_next (res := r.1) (h' := r.2) hv
theorem callx_next {pr : Prim} {call : Oracle} (hm : Mono call) {f : FuncId} {args : List Value} {r : Value × H} (hv : callx P pr call f args h = some r) : h.next ≤ r.2.next := by
  unfold callx at hv
  split at hv
  · simp only [Option.some.injEq] at hv; subst hv; exact Nat.le_refl _
  · split at hv
    · rename_i q _
      cases hb : Nat.ble h.next q.2.next with
      | false => rw [hb] at hv; simp at hv
      | true =>
        rw [hb] at hv
        simp only [cond_true, Option.some.injEq] at hv
        subst hv
        exact Nat.le_of_ble_eq_true hb
    · split at hv
      · exact hm _ _ r.1 r.2 hv
      · simp at hv
theorem doOp_next {pr : Prim} {call : Oracle} (hm : Mono call) {rnd : Option Nat} {nt : Nat} {all : List Oper} {o : Oper} {s s' : St} (hd : doOp P pr call rnd nt all o s = some s') : s.h.next ≤ s'.h.next := by
  unfold doOp at hd
  cases hw : wantx all s.t o with
  | false =>
    rw [hw] at hd
    simp only [cond_false] at hd
    obtain ⟨_, _, rfl⟩ := Option.map_eq_some_iff.1 hd
    exact Nat.le_refl _
  | true =>
    rw [hw] at hd
    simp only [cond_true] at hd
    split at hd
    · rename_i r hr
      obtain ⟨_, hr⟩ := cond_none hr
      have h1 := opx_next hr
      split at hd
      · rename_i v ds h2 hres
        obtain ⟨_, _, rfl⟩ := Option.map_eq_some_iff.1 hd
        obtain ⟨res, hh⟩ := r
        cases res with
        | val u => simp only [resx, Option.some.injEq, Prod.mk.injEq] at hres; rw [← hres.2.2]; exact h1
        | enter f args =>
          simp only [resx] at hres
          split at hres
          · rename_i q hq
            simp only [Option.some.injEq, Prod.mk.injEq] at hres
            have := callx_next hm hq
            rw [← hres.2.2]; exact Nat.le_trans h1 this
          · simp at hres
        | round l args =>
          simp only [resx] at hres
          split at hres
          · split at hres
            · rename_i q hq
              simp only [Option.some.injEq, Prod.mk.injEq] at hres
              have := hm _ _ q.1 q.2 hq
              rw [← hres.2.2]; exact Nat.le_trans h1 this
            · simp at hres
          · simp at hres
        | defer d =>
          simp only [resx] at hres
          split at hres
          · simp only [Option.some.injEq, Prod.mk.injEq] at hres; rw [← hres.2.2]; exact h1
          · simp at hres
      · simp at hd
    · simp at hd
theorem opsx_next {pr : Prim} {call : Oracle} (hm : Mono call) {rnd : Option Nat} {nt : Nat} {all : List Oper} : ∀ {os : List Oper} {s s' : St}, opsx P pr call rnd nt all os s = some s' → s.h.next ≤ s'.h.next
  | [], s, s', hd => by simp [opsx] at hd; subst hd; exact Nat.le_refl _
  | o :: os, s, s', hd => by
    simp only [opsx] at hd
    split at hd
    · rename_i s1 h1
      exact Nat.le_trans (doOp_next hm h1) (opsx_next hm hd)
    · simp at hd

/-- A region whose order is the text's. -/
theorem opsx_run {pr : Prim} {call : Oracle} (hok : Ok P B call) (hm : Mono call) (hpr : PrimOk P B pr) (hnc : NoCount P) {rnd : Option Nat} {nt : Nat} {ops : Array Oper} {b : Frame} (k : List Item) (cs : List Frame) : ∀ {os : List Oper} {i : Nat} {σ : Sg} {w : World} {s s' : St} {a : Act},
    os = ops.toList.drop i → SR σ nt rnd s b a → HR P B σ s.h w → P.globals.size ≤ s.h.next → Free σ s.h.next s'.h.next → opsx P pr call rnd nt ops.toList os s = some s' →
    ∃ a' w' τ, Mv P B σ s.h w τ s'.h w' ∧ SR τ nt rnd s' b a' ∧ Steps P (lone (b.atR a (.inRegion ops (List.range' i os.length) :: k)) cs w) (lone (b.atR a' (.inRegion ops [] :: k)) cs w')
  | [], i, σ, w, s, s', a, _, S, K, hg, hf, hd => by
    simp [opsx] at hd
    subst hd
    exact ⟨a, w, σ, Mv.refl K, S, by simpa using Steps.refl P _⟩
  | o :: os, i, σ, w, s, s', a, he, S, K, hg, hf, hd => by
    simp only [opsx] at hd
    split at hd
    · rename_i s1 h1
      have ho : ops[i]? = some o := by
        have : (ops.toList.drop i)[0]? = some o := by rw [← he]; rfl
        simpa using this
      have n1 := doOp_next hm h1
      have n2 := opsx_next hm hd
      obtain ⟨a1, w1, τ1, m1, S1, st1⟩ := doOp_run hok hpr hnc ho S K hg (hf.left n2) h1 (List.range' (i + 1) os.length) k cs
      have he2 : os = ops.toList.drop (i + 1) := by
        have : ops.toList.drop (i + 1) = (ops.toList.drop i).drop 1 := by rw [List.drop_drop]
        rw [this, ← he]; rfl
      obtain ⟨a2, w2, τ2, m2, S2, st2⟩ := opsx_run hok hm hpr hnc k cs he2 S1 m1.hr (Nat.le_trans hg n1) (Free.right m1 hf) hd
      exact ⟨a2, w2, τ2, m1.trans m2, S2, st1.trans st2⟩
    · simp at hd
end
end Go.Ev
namespace Go.Ev
open Go Go.RowKit
section
variable {P : Program} {B : World} {σ τ : Sg} {h h' : H} {w w' : World}

/-- The real frame of ours. -/
def RS (fr : Fr) (b : Frame) (a : Act) (X : Frame) : Prop :=
  (fr.ret = false ∧ X = b.atR a fr.todo) ∨ (fr.ret = true ∧ b.roundOf = none ∧ ∃ todo, X = { b.atR a todo with mode := .returning })

/-- How a run from a real frame ends. -/
def EndsX (P : Program) (b : Frame) (X : Frame) (cs : List Frame) (w : World) (v' : Value) (w' : World) : Prop :=
  (b.roundOf = none → ∃ a' todo', Steps P (lone X cs w) (lone { b.atR a' todo' with mode := .returning } cs w') ∧ a'.defers = [] ∧ ∃ fn, P.funcs[b.fn]? = some fn ∧ (results fn a'.tmps).run P w' = .ok v' w') ∧
  (b.roundOf.isSome = true → b.kind = .normal → ∀ c cs', cs = c :: cs' → Steps P (lone X (c :: cs') w) (lone (c.finish v') cs' w'))

theorem EndsX.head {b X X1 : Frame} {cs : List Frame} {w1 : World} {v' : Value} (hs : Steps P (lone X cs w) (lone X1 cs w1)) (h : EndsX P b X1 cs w1 v' w') : EndsX P b X cs w v' w' :=
  ⟨fun hr => let ⟨a', t', h1, h2⟩ := h.1 hr; ⟨a', t', hs.trans h1, h2⟩, fun h1 h2 c cs' e => by subst e; exact hs.trans (h.2 h1 h2 c cs' rfl)⟩

/-- What a step of ours says of the real machine. -/
def StepOk (P : Program) (B : World) (σ : Sg) (h : H) (w : World) (b : Frame) (X : Frame) (cs : List Frame) : Out → Prop
  | .more fr2 h2 => ∃ a2 w2 τ X2, Mv P B σ h w τ h2 w2 ∧ FR τ fr2 b a2 ∧ RS fr2 b a2 X2 ∧ Steps P (lone X cs w) (lone X2 cs w2)
  | .done v h2 => ∃ v' w2 τ, VR τ v v' ∧ Mv P B σ h w τ h2 w2 ∧ EndsX P b X cs w v' w2

def outNext : Out → Nat
  | .more _ h => h.next
  | .done _ h => h.next

/-- The loop that a round belongs to. -/
theorem loopObj (K : HR P B σ h w) {l r δ x : Nat} {lp : ALoop} (hl : σ l = some (r, δ, x)) (ho : h.objs.get l = some (.loop lp)) : ∃ lp', w.heap[r]? = some (.loop lp') ∧ LR σ lp lp' ∧ (getObj r).run P w = .ok (.loop lp') w ∧
    ∀ (lp2 : ALoop) (lp2' : Loop), LR σ lp2 lp2' → (setObj r (.loop lp2')).run P w = .ok () { w with heap := w.heap.setIfInBounds r (.loop lp2') } ∧ Mv P B σ h w σ (h.put l (.loop lp2)) { w with heap := w.heap.setIfInBounds r (.loop lp2') } := by
  obtain ⟨r', δ', x', e1, lp', h1, h2⟩ := K.obj l _ ho rfl
  rw [hl] at e1
  cases e1
  have hlt : r < w.heap.size := (Array.getElem?_eq_some_iff.1 h1).1
  have hB := K.own l _ r δ x ho rfl hl
  refine ⟨lp', h1, h2, by simp [getObj, Sem.run, h1], fun lp2 lp2' hlr => ⟨by simp [setObj, Sem.run, h1], ?_⟩⟩
  have hst : ∀ p, p ≠ r → (w.heap.setIfInBounds r (.loop lp2'))[p]? = w.heap[p]? := fun p hp => Array.getElem?_setIfInBounds_ne (Ne.symm hp)
  have hk := K.upd (w' := { w with heap := w.heap.setIfInBounds r (.loop lp2') }) (o2 := .loop lp2) ho rfl hl (K.bel.trans ⟨rfl, rfl, rfl, by simp, fun p hp => hst p (by omega)⟩) hst ⟨lp2', by simp [hlt], hlr⟩ (by simp) (.inl rfl)
  exact ⟨EX.refl σ _, hk, FP.upd K ho rfl hl (by simp) hst, NB.none (Stay.put ho rfl)⟩

theorem FR.todo {fr : Fr} {b : Frame} {a : Act} (F : FR σ fr b a) (k : List Item) : FR σ { fr with todo := k } b a := ⟨F.fn, F.tmps, F.defers, F.round⟩

theorem leavex_run (K : HR P B σ h w) {fr : Fr} {b : Frame} {a : Act} (F : FR σ fr b a) (hr : fr.ret = false) {j : Option Code} {k : List Item} {cs : List Frame} {out : Out}
    (hret : b.roundOf = none → (j = none ∨ j = some .ret) → step P (lone (b.atR a k) cs w) = .next (lone { b.atR a k with mode := .returning } cs w))
    (hrnd : ∀ l v w' c cs', b.roundOf = some l → b.kind = .normal → (Instr.endRound l j).run P w = .ok v w' → cs = c :: cs' → step P (lone (b.atR a k) (c :: cs') w) = .next (lone (c.finish v) cs' w'))
    (hl : leavex fr h j = some out) : StepOk P B σ h w b (b.atR a k) cs out := by
  unfold leavex at hl
  cases hrd : fr.round with
  | none =>
    rw [hrd] at hl
    have hb : b.roundOf = none := by
      have := F.round
      rw [hrd] at this
      cases hb : b.roundOf with
      | none => rfl
      | some r => rw [hb] at this; exact this.elim
    have fin : (j = none ∨ j = some .ret) → out = .more { fn := fr.fn, nt := fr.nt, tmps := fr.tmps, todo := fr.todo, defers := fr.defers, round := none, ret := true } h → StepOk P B σ h w b (b.atR a k) cs out := by
      rintro hj rfl
      exact ⟨a, w, σ, _, Mv.refl K, ⟨F.fn, F.tmps, F.defers, by rw [hb]; trivial⟩, .inr ⟨rfl, hb, k, rfl⟩, .one (hret hb hj)⟩
    cases j with
    | none => simp at hl; exact fin (.inl rfl) hl.symm
    | some c =>
      cases c <;> simp at hl
      exact fin (.inr rfl) hl.symm
  | some l =>
    rw [hrd] at hl
    simp only at hl
    obtain ⟨r, hb, δ, x, hlr⟩ : ∃ r, b.roundOf = some r ∧ ∃ δ x, σ l = some (r, δ, x) := by
      have := F.round
      rw [hrd] at this
      cases hb : b.roundOf with
      | none => rw [hb] at this; exact this.elim
      | some r => rw [hb] at this; exact ⟨r, rfl, this⟩
    split at hl
    · rename_i lp ho
      simp only [Option.some.injEq] at hl
      subst hl
      obtain ⟨lp', h1, h2, h3, h4⟩ := loopObj K hlr ho
      have hst : (if j.isNone = true then LoopState.ready else LoopState.done) = cond j.isNone .ready .done := by cases j <;> rfl
      obtain ⟨h5, h6⟩ := h4 { lp with state := cond j.isNone .ready .done, pending := j } { lp' with state := if j.isNone then .ready else .done, pending := j } (by
        obtain ⟨q1, q2, q3, q4, q5, q6, q7, q8⟩ := h2
        exact ⟨hst, rfl, q3, q4, q5, q6, q7, q8⟩)
      have her : (Instr.endRound r j).run P w = .ok (.bool j.isNone) { w with heap := w.heap.setIfInBounds r (.loop { lp' with state := if j.isNone then .ready else .done, pending := j }) } := by
        unfold Instr.endRound Instr.getLoop
        simp only [Sem.run_bind, h3, Result.andThen_ok, Sem.run_pure, h5]
      exact ⟨.bool j.isNone, _, σ, .bool _, h6, ⟨fun h => (by rw [hb] at h; cases h), fun _ hk c cs' e => by subst e; exact .one (hrnd r _ _ c cs' hb hk her rfl)⟩⟩
    · simp at hl

def resF (a : Array Value) : ResultVar → Sem Value
  | .tmp t => pure (a.getD t undef)
  | .cell p ty => do loadVar ty (← asAddr (a.getD p undef))

theorem resultsx_run (K : HR P B σ h w) {nt : Nat} {t : Tm} {a : Array Value} (ht : TR σ nt t a) : ∀ {rs : List ResultVar} {vs : List Value}, resultsx P h t rs = some vs →
    ∃ vs', (rs.mapM (resF a)).run P w = .ok vs' w ∧ VRs σ vs vs'
  | [], vs, hv => by simp [resultsx] at hv; subst hv; exact ⟨[], rfl, .nil σ⟩
  | .tmp n :: rs, vs, hv => by
    simp only [resultsx] at hv
    obtain ⟨q, hq, rfl⟩ := Option.map_eq_some_iff.1 hv
    obtain ⟨vs', h1, h2⟩ := resultsx_run K ht hq
    refine ⟨a.getD n undef :: vs', ?_, .cons (ht.2 n) h2⟩
    simp only [List.mapM_cons, resF, Sem.run_bind, Sem.run_pure, Result.andThen_ok, h1]
  | .cell p ty :: rs, vs, hv => by
    simp only [resultsx] at hv
    have hp := ht.2 p
    split at hv
    · rename_i ad hpe
      split at hv
      · rename_i v hld
        obtain ⟨q, hq, rfl⟩ := Option.map_eq_some_iff.1 hv
        obtain ⟨vs', h1, h2⟩ := resultsx_run K ht hq
        rw [hpe] at hp
        generalize hz : a.getD p undef = z at hp
        cases hp
        rename_i e
        obtain ⟨v', l1, l2⟩ := loadx_run K e hld
        refine ⟨v' :: vs', ?_, .cons l2 h2⟩
        simp only [List.mapM_cons, resF, Sem.run_bind, Sem.run_pure, Result.andThen_ok, hz, asAddr, l1, h1]
      · simp at hv
    · simp at hv

theorem results_run (K : HR P B σ h w) {nt : Nat} {t : Tm} {a : Array Value} (ht : TR σ nt t a) {fn : Func} {vs : List Value} (hv : resultsx P h t fn.results.toList = some vs) : ∃ v', (results fn a).run P w = .ok v' w ∧ VR σ (packx vs) v' := by
  obtain ⟨vs', h1, h2⟩ := resultsx_run K ht hv
  have e0 : results fn a = (do let vs ← fn.results.mapM (resF a); pure (if h : vs.size = 1 then vs[0] else .tuple vs)) := by
    unfold results
    rfl
  rw [e0, Array.mapM_eq_mapM_toList]
  simp only [Sem.run_bind, Sem.run_map, h1, Result.andThen_ok, Sem.run_pure]
  refine ⟨_, rfl, ?_⟩
  have hl := h2.1
  match vs, vs', h2, hl with
  | [], [], h2, _ => exact .tuple rfl (fun i v v' hh => by simp at hh)
  | [v], [v'], h2, _ => simpa [packx] using h2.head
  | u :: v :: l, u' :: v' :: l', h2, _ =>
    have : ¬ ((u' :: v' :: l').toArray.size = 1) := by simp
    rw [dif_neg this]
    exact .tuple h2.1 h2.2

theorem unwindx_run {pr : Prim} {call : Oracle} (hok : Ok P B call) (hnc : NoCount P) (K : HR P B σ h w) (hg : P.globals.size ≤ h.next) {fr : Fr} {b : Frame} {a : Act} {X : Frame} (F : FR σ fr b a) (hr : fr.ret = true) (R : RS fr b a X) {cs : List Frame} {out : Out} (hf : Free σ h.next (outNext out))
    (hu : unwindx P pr call fr h = some out) : StepOk P B σ h w b X cs out := by
  obtain ⟨hb, todo, rfl⟩ : b.roundOf = none ∧ ∃ todo, X = { b.atR a todo with mode := .returning } := by
    rcases R with ⟨e, _⟩ | ⟨_, h1, h2⟩
    · rw [hr] at e; cases e
    · exact ⟨h1, h2⟩
  unfold unwindx at hu
  split at hu
  · rename_i hds
    have hnil : a.defers = [] := by have := F.defers; rw [hds] at this; exact this.inv_nil
    rw [funx_eq] at hu
    split at hu
    · rename_i fn hfn
      obtain ⟨vs, hvs, rfl⟩ := Option.map_eq_some_iff.1 hu
      obtain ⟨v', h1, h2⟩ := results_run K F.tmps hvs
      refine ⟨v', w, σ, h2, Mv.refl K, ⟨fun _ => ⟨a, todo, .refl P _, hnil, fn, by rw [F.fn]; exact hfn, h1⟩, fun hh => ?_⟩⟩
      rw [hb] at hh; cases hh
    · simp at hu
  · rename_i bk args0 ds hds
    have hD := F.defers
    rw [hds] at hD
    obtain ⟨d', ds', e1, ⟨e2, e2b⟩, e3⟩ := hD.inv
    split at hu
    · rename_i l ho
      simp only [Option.some.injEq] at hu
      subst hu
      obtain ⟨r, δ, x, hs, dl', k1, k2⟩ := K.obj bk _ ho rfl
      obtain ⟨l', rfl⟩ : ∃ l', dl' = some l' := by
        cases dl' with
        | none => exact k2.elim
        | some l' => exact ⟨l', rfl⟩
      obtain ⟨tg, ar⟩ := d'
      simp only at e2
      cases e2
      rename_i r2 δ2 x2 hs2
      rw [hs] at hs2
      cases hs2
      have hlt : r < w.heap.size := (Array.getElem?_eq_some_iff.1 k1).1
      have hB := K.own bk _ r δ x ho rfl hs
      have hst : ∀ p, p ≠ r → (w.heap.setIfInBounds r (.deferred none))[p]? = w.heap[p]? := fun p hp => Array.getElem?_setIfInBounds_ne (Ne.symm hp)
      have hk := K.upd (w' := { w with heap := w.heap.setIfInBounds r (.deferred none) }) (o2 := .deferred none) ho rfl hs (K.bel.trans ⟨rfl, rfl, rfl, by simp, fun p hp => hst p (by omega)⟩) hst ⟨none, by simp [hlt], trivial⟩ (by simp) (.inl rfl)
      refine ⟨{ a with defers := l' ++ ds' }, _, σ, { b.atR { a with defers := l' ++ ds' } todo with mode := .returning }, ⟨EX.refl σ _, hk, FP.upd K ho rfl hs (by simp) hst, NB.none (Stay.put ho rfl)⟩, ⟨F.fn, F.tmps, DRs.append k2 e3, F.round⟩, .inr ⟨hr, hb, todo, rfl⟩, .one (step_lone_go ?_)⟩
      have htk : (Instr.takeDeferred r).run P w = .ok l' { w with heap := w.heap.setIfInBounds r (.deferred none) } := by
        simp [Instr.takeDeferred, getObj, setObj, Sem.run, k1]
      simp [stepG, unwind, Frame.atR, e1, Sem.runT_eq, htk]
    · simp at hu
  · rename_i g cap as ds hds
    have hD := F.defers
    rw [hds] at hD
    obtain ⟨d', ds', e1, ⟨e2, e2b⟩, e3⟩ := hD.inv
    obtain ⟨tg, ar⟩ := d'
    simp only at e2 e2b
    cases e2
    rename_i cap' hcap
    split at hu
    · simp at hu
    · split at hu
      · rename_i fr2 hen
        split at hu
        · rename_i r hcall
          obtain ⟨rv, rh⟩ := r
          simp only [Option.some.injEq] at hu
          subst hu
          have hargs : VRs σ (as.toList ++ cap.toList) (ar.toList ++ cap'.toList) := e2b.append hcap
          obtain ⟨b2, a2, y1, y2, y3, y4, y5, y6, y7, y8⟩ := enterx_run hargs hen hnc .deferred
          have ear : (⟨ar.toList ++ cap'.toList⟩ : Array Value) = ar ++ cap' := by apply Array.ext'; simp
          rw [ear] at y1 y8
          have hinv : (invoke (.fn (.func g) cap') ar).run P w = .ok (.enter g (ar ++ cap')) w := by
            simp only [invoke]; exact y8 w
          let X2 : Frame := { b.atR { a with defers := ds' } todo with mode := .returning }
          have hstep : step P (lone { b.atR a todo with mode := .returning } cs w) = .next (lone (Frame.enter P g (ar ++ cap') .deferred) (X2 :: cs) w) :=
            step_defer (by simp) e1 rfl hinv
          obtain ⟨v', w2, τ, c1, c2, c3⟩ := hok fr2 h rv rh hcall y6 σ w b2 a2 y5 K hg hf (X2 :: cs)
          obtain ⟨a3, t3, s1, s2, fn3, s3, s4⟩ := c3.1 y4
          refine ⟨{ a with defers := ds' }, w2, τ, X2, c2, ⟨F.fn, F.tmps.mono c2.ex.2.1, e3.mono c2.ex.2.1, F.round.mono c2.ex.2.1⟩, .inr ⟨hr, hb, todo, rfl⟩, .head hstep ?_⟩
          rw [y1]
          refine s1.trans (.one ?_)
          have := step_going_returned (P := P) (fr := { b2.atR a3 t3 with mode := .returning }) (c := X2) (cs := cs) (w := w2) (v := v') (by show b2.kind = _; exact y2) ⟨rfl, s2, fn3, s3, s4⟩
          simpa [settle, X2] using this
        · simp at hu
      · simp at hu
  · simp at hu
end
end Go.Ev
namespace Go.Ev
open Go Go.RowKit
section
variable {P : Program} {B : World} {σ τ : Sg} {h h' : H} {w w' : World}

/-- A region that draws its order. -/
def DrawOk (P : Program) (B : World) (pr : Prim) (call : Oracle) : Prop := ∀ {rnd : Option Nat} {nt : Nat} {ops : Array Oper} {b : Frame} {σ : Sg} {w : World} {s s' : St} {a : Act} (id : Nat) (k : List Item) (cs : List Frame),
  SR σ nt rnd s b a → HR P B σ s.h w → P.globals.size ≤ s.h.next → Free σ s.h.next s'.h.next → drawx P pr call rnd nt ops s = some s' →
  ∃ a' w' τ, Mv P B σ s.h w τ s'.h w' ∧ SR τ nt rnd s' b a' ∧ Steps P (lone (b.atR a (.code (.region id ops true) :: k)) cs w) (lone (b.atR a' k) cs w')

theorem goto_run (K : HR P B σ h w) {fr : Fr} {b : Frame} {a : Act} {X : Frame} (F : FR σ fr b a) (hr : fr.ret = false) {k : List Item} {cs : List Frame} {out : Out} (hs : step P (lone X cs w) = .next (lone (b.atR a k) cs w)) (hg : goto fr h k = some out) : StepOk P B σ h w b X cs out := by
  unfold goto at hg
  simp only [Option.some.injEq] at hg
  subst hg
  exact ⟨a, w, σ, _, Mv.refl K, F.todo k, .inl ⟨hr, rfl⟩, .one hs⟩

theorem FR.cond (K : HR P B σ h w) {fr : Fr} {b : Frame} {a : Act} (F : FR σ fr b a) {c : Operand} {v : Value} (hc : cond (okO P c) (evx fr.tmps c) undef = v) (hv : v ≠ undef) : VR σ v (a.eval c) := by
  cases ho : okO P c with
  | false => rw [ho] at hc; exact absurd hc.symm hv
  | true => rw [ho] at hc; simp only [cond_true] at hc; rw [← hc]; exact SR.ev K F.tmps ho

theorem rangex1_run {pr : Prim} {call : Oracle} (hok : Ok P B call) (hnc : NoCount P) {h0 : H} {w0 : World} {σ0 : Sg} (m0 : Mv P B σ0 h0 w0 σ h w) (hg : P.globals.size ≤ h.next) {fr : Fr} {b : Frame} {a : Act} (F : FR σ fr b a) (hr : fr.ret = false) {k : List Item} {f : Operand} {ps : Array Tmp} {as bd : Code} {d : Nat} {ds : List Deferred} {mark : List Deferred}
    {cs : List Frame} {out : Out} (hf : Free σ h.next (outNext out)) (hds : DRs σ ds (mark ++ a.defers)) {rd δd xd : Nat} (hd : σ d = some (rd, δd, xd))
    (hen : (Instr.enterLoop b.fn a.tmps ps as bd b.roundOf).run P w0 = .ok (w.heap.size, mark) (w.alloc (.loop { state := .ready, pending := none, fn := b.fn, tmps := a.tmps, params := ps, assign := as, body := bd, defers := rd })))
    (hx : rangex1 P pr call fr k f ps as bd h d ds = some out) (hmono : Mono call) : StepOk P B σ0 h0 w0 b (b.atR a (.code (.rangeFunc f ps as bd) :: k)) cs out := by
  unfold rangex1 at hx
  split at hx
  · rename_i g first cap hfv
    have hvf := FR.cond m0.hr F hfv (by simp [undef])
    split at hx
    · simp at hx
    · split at hx
      · rename_i fr2 hent
        split at hx
        · rename_i r hcall
          obtain ⟨rv, rh⟩ := r
          split at hx
          · rename_i q hq
            obtain ⟨hbusy, hx⟩ : decide (q.state = LoopState.busy) = false ∧ some (Out.more { fr with defers := ds, todo := (q.pending.map Item.code).toList ++ k } (rh.put h.next .dead)) = some out := by
              cases hb : decide (q.state = LoopState.busy) with
              | true => rw [hb] at hx; simp at hx
              | false => rw [hb] at hx; exact ⟨rfl, hx⟩
            simp only [Option.some.injEq] at hx
            subst hx
            have hrh := hmono _ _ _ _ hcall
            have hrh' : h.next + 1 ≤ rh.next := hrh
            have hf' : Free σ h.next rh.next := hf
            have hnx : σ h.next = none := hf' _ (Nat.le_refl _) (by omega)
            let lpA : ALoop := { state := .ready, pending := none, fn := fr.fn, nt := fr.nt, tmps := fr.tmps, params := ps.toList, assign := as, body := bd, defers := d }
            let lpR : Loop := { state := .ready, pending := none, fn := b.fn, tmps := a.tmps, params := ps, assign := as, body := bd, defers := rd }
            have hsub := addS_sub (w.heap.size, 0, 0) hnx
            have hnew := HR.new m0.hr (o := .loop lpA) (O := .loop lpR) (δ := 0) (x := 0) hnx hg (.inl rfl) ⟨lpR, by show (w.heap.push _)[w.heap.size]? = _; simp, rfl, rfl, F.fn, F.tmps.mono hsub, rfl, rfl, rfl, rd, δd, xd, hsub _ _ hd, rfl⟩
            have m1 : Mv P B σ h w (addS σ h.next (w.heap.size, 0, 0)) (h.new (.loop lpA)) (w.alloc (.loop lpR)) := ⟨addS_ex _ hnx, hnew.1, hnew.2.1, hnew.2.2⟩
            generalize hfr : a.eval f = fv at hvf
            obtain ⟨af, af', cf, cf', rfl, rfl, rfl, l1, l2, i1, i2⟩ : ∃ af af' cf cf', first = ⟨af⟩ ∧ cap = ⟨cf⟩ ∧ fv = .func (.func g) ⟨af'⟩ ⟨cf'⟩ ∧ af.length = af'.length ∧ cf.length = cf'.length ∧ (∀ (i : Nat) v v', af[i]? = some v → af'[i]? = some v' → VR σ v v') ∧ (∀ (i : Nat) v v', cf[i]? = some v → cf'[i]? = some v' → VR σ v v') := by
              cases hvf with
              | func _ l1 l2 i1 i2 => exact ⟨_, _, _, _, rfl, rfl, rfl, l1, l2, i1, i2⟩
            have hargs : VRs (addS σ h.next (w.heap.size, 0, 0)) (af ++ [.func (.yield h.next) #[] #[]] ++ cf) (af' ++ [.func (.yield w.heap.size) #[] #[]] ++ cf') :=
              VRs.append (VRs.append (VRs.mono hsub ⟨l1, i1⟩) (VRs.cons (.yld (addS_self _ _ _)) (VRs.nil _))) (VRs.mono hsub ⟨l2, i2⟩)
            obtain ⟨b2, a2, y1, y2, y3, y4, y5, y6, y7, y8⟩ := enterx_run hargs hent hnc .normal
            let X2 : Frame := b.atR { a with defers := mark ++ a.defers } (.inRangeFunc w.heap.size :: k)
            have ear : (⟨af' ++ [.func (.yield w.heap.size) #[] #[]] ++ cf'⟩ : Array Value) = (⟨af'⟩ : Array Value) ++ #[.func (.yield w.heap.size) #[] #[]] ++ ⟨cf'⟩ := by apply Array.ext'; simp
            have hres : (resolve a.eval (rangeCall f w.heap.size) 0).run P (w.alloc (.loop lpR)) = .ok { target := .fn (.func g) ⟨cf'⟩, args := (⟨af'⟩ : Array Value) ++ #[.func (.yield w.heap.size) #[] #[]] } (w.alloc (.loop lpR)) := by
              simp only [resolve, rangeCall, hfr, Deferred.ofValue, Sem.run_pure]
              simp [Act.eval]
            have hinv : (invoke (.fn (.func g) ⟨cf'⟩) ((⟨af'⟩ : Array Value) ++ #[.func (.yield w.heap.size) #[] #[]])).run P (w.alloc (.loop lpR)) = .ok (.enter g ⟨af' ++ [.func (.yield w.heap.size) #[] #[]] ++ cf'⟩) (w.alloc (.loop lpR)) := by
              simp only [invoke]
              rw [← ear]
              exact y8 _
            have hstep := stepR_rangeFunc (P := P) (b := b) (a := a) (k := k) (cs := cs) hen hres hinv
            obtain ⟨v', w2, τ2, c1, c2, c3⟩ := hok fr2 _ rv rh hcall y6 _ _ b2 a2 y5 m1.hr (by show P.globals.size ≤ h.next + 1; omega) (Free.right m1 hf') (X2 :: cs)
            have hhome := c3.home y2
            have m2 := m1.trans c2
            have hl : τ2 h.next = some (w.heap.size, 0, 0) := c2.ex.2.1 _ _ (addS_self _ _ _)
            obtain ⟨q', o1, o2, o3, o4⟩ := loopObj m2.hr hl hq
            obtain ⟨p1, p2, p3, p4, p5, p6, p7, p8⟩ := o2
            obtain ⟨z1, z2⟩ := o4 { q with state := .exhausted } { q' with state := .exhausted } ⟨rfl, p2, p3, p4, p5, p6, p7, p8⟩
            have hend : (Instr.endLoop w.heap.size).run P w2 = .ok q'.pending { w2 with heap := w2.heap.setIfInBounds w.heap.size (.loop { q' with state := .exhausted }) } := by
              unfold Instr.endLoop Instr.getLoop
              have hnb : (q'.state == LoopState.busy) = false := by
                rw [p1]
                have : q.state ≠ LoopState.busy := by simpa using hbusy
                cases hq2 : q.state <;> first | rfl | exact absurd hq2 this
              simp only [Sem.run_bind, o3, Result.andThen_ok, Sem.run_pure, hnb, z1]
              simp [z1]
            have hs3 := stepR_endRangeFunc (P := P) (b := b) (a := { a with defers := mark ++ a.defers }) (k := k) (cs := cs) hend
            -- the loop is dead
            have hdead : HR P B τ2 (rh.put h.next .dead) { w2 with heap := w2.heap.setIfInBounds w.heap.size (.loop { q' with state := .exhausted }) } := by
              have hkk := z2.hr
              have hgt : (rh.put h.next (.loop { q with state := .exhausted })).objs.get h.next = some (.loop { q with state := .exhausted }) := by simp [H.put, Tr.get_put]
              have := hkk.upd (o2 := .dead) hgt rfl hl hkk.bel (fun _ _ => rfl) trivial (Nat.le_refl _) (.inr rfl)
              exact {
                bel := this.bel
                glob := this.glob
                obj := fun n o ho => this.obj n o (by simp only [H.put, Tr.get_put] at ho ⊢; split <;> simp_all)
                inj := fun n n' o o' r δ x r' δ' x' ho ho' => this.inj n n' o o' r δ x r' δ' x' (by simp only [H.put, Tr.get_put] at ho ⊢; split <;> simp_all) (by simp only [H.put, Tr.get_put] at ho' ⊢; split <;> simp_all)
                own := fun n o r δ x ho => this.own n o r δ x (by simp only [H.put, Tr.get_put] at ho ⊢; split <;> simp_all)
                low := fun n o ho => this.low n o (by simp only [H.put, Tr.get_put] at ho ⊢; split <;> simp_all)
                bnd := this.bnd }
            have m3 : Mv P B τ2 rh w2 τ2 (rh.put h.next .dead) { w2 with heap := w2.heap.setIfInBounds w.heap.size (.loop { q' with state := .exhausted }) } := ⟨EX.refl τ2 _, hdead, z2.fp, NB.none (Stay.put hq rfl)⟩
            have mall := m0.trans (m2.trans m3)
            refine ⟨{ a with defers := mark ++ a.defers }, _, τ2, _, mall, ⟨F.fn, F.tmps.mono m2.ex.2.1, hds.mono m2.ex.2.1, F.round.mono m2.ex.2.1⟩, .inl ⟨hr, rfl⟩, .head hstep ?_⟩
            rw [y1]
            refine hhome.trans ?_
            rw [finish_atR_inRangeFunc, ← p2]
            exact .one hs3
          · simp at hx
        · simp at hx
      · simp at hx
  · simp at hx

end
end Go.Ev
namespace Go.Ev
open Go Go.RowKit
section
variable {P : Program} {B : World} {σ τ : Sg} {h h' : H} {w w' : World}

theorem rnd_some {fr : Fr} {b : Frame} {a : Act} (F : FR σ fr b a) {l : Nat} (hl : fr.round = some l) : ∃ r, b.roundOf = some r ∧ ∃ δ x, σ l = some (r, δ, x) := by
  have := F.round
  rw [hl] at this
  cases hb : b.roundOf with
  | none => rw [hb] at this; exact this.elim
  | some r => rw [hb] at this; exact ⟨r, rfl, this⟩
theorem rnd_none {fr : Fr} {b : Frame} {a : Act} (F : FR σ fr b a) (hl : fr.round = none) : b.roundOf = none := by
  have := F.round
  rw [hl] at this
  cases hb : b.roundOf with
  | none => rfl
  | some r => rw [hb] at this; exact this.elim

theorem stepR_scope {b : Frame} {a : Act} {k : List Item} {cs : List Frame} {c : Code} : step P (lone (b.atR a (.code (.scope c) :: k)) cs w) = .next (lone (b.atR a (.code c :: .inScope c :: k)) cs w) :=
  step_lone_go (by simp [stepG, stepG.exec, Frame.atR])
theorem stepR_inScope {b : Frame} {a : Act} {k : List Item} {cs : List Frame} {c : Code} : step P (lone (b.atR a (.inScope c :: k)) cs w) = .next (lone (b.atR a k) cs w) :=
  step_lone_go (by simp [stepG, stepG.exec, Frame.atR])

theorem rangex0_run {pr : Prim} {call : Oracle} (hok : Ok P B call) (hnc : NoCount P) (hmono : Mono call) (K : HR P B σ h w) (hg : P.globals.size ≤ h.next) {fr : Fr} {b : Frame} {a : Act} (F : FR σ fr b a) (hr : fr.ret = false) {k : List Item} {f : Operand} {ps : Array Tmp} {as bd : Code}
    {cs : List Frame} {out : Out} (hf : Free σ h.next (outNext out)) (hx : rangex0 P pr call fr k f ps as bd h = some out) : StepOk P B σ h w b (b.atR a (.code (.rangeFunc f ps as bd) :: k)) cs out := by
  unfold rangex0 at hx
  cases hrd : fr.round with
  | none =>
    rw [hrd] at hx
    simp only at hx
    have hb := rnd_none F hrd
    -- what comes behind takes more numbers than one
    have hlt : h.next + 1 < outNext out := by
      unfold rangex1 at hx
      split at hx
      · split at hx
        · simp at hx
        · split at hx
          · split at hx
            · rename_i r hcall
              split at hx
              · rcases cond_or hx with hx | hx
                · simp at hx
                · simp only [Option.some.injEq] at hx
                  subst hx
                  have := hmono _ _ r.1 r.2 hcall
                  have h2 : h.next + 1 + 1 ≤ r.2.next := this
                  show h.next + 1 < r.2.next
                  omega
              · simp at hx
            · simp at hx
          · simp at hx
      · simp at hx
    have hnx : σ h.next = none := hf _ (Nat.le_refl _) (by omega)
    have hsub := addS_sub (w.heap.size, 0, 0) hnx
    have hnew := HR.new K (o := .deferred (some [])) (O := .deferred (some [])) (δ := 0) (x := 0) hnx hg (.inl rfl) ⟨some [], by show (w.heap.push _)[w.heap.size]? = _; simp, DRs.nil _⟩
    have m1 : Mv P B σ h w (addS σ h.next (w.heap.size, 0, 0)) (h.new (.deferred (some []))) (w.alloc (.deferred (some []))) := ⟨addS_ex _ hnx, hnew.1, hnew.2.1, hnew.2.2⟩
    refine rangex1_run hok hnc m1 (by show P.globals.size ≤ h.next + 1; omega) (fr := fr) (a := a) (mark := [{ target := .collected w.heap.size, args := #[] }]) ⟨F.fn, F.tmps.mono hsub, F.defers.mono hsub, F.round.mono hsub⟩ hr (Free.right m1 hf) ?_ (addS_self _ _ _) ?_ hx hmono
    · exact DRs.cons ⟨.col (addS_self _ _ _), VRs.nil _⟩ (F.defers.mono hsub)
    · rw [hb]
      unfold Instr.enterLoop
      simp only [Sem.run_bind, run_newObj, Result.andThen_ok, Sem.run_pure]
      rfl
  | some l =>
    rw [hrd] at hx
    simp only at hx
    obtain ⟨r, hb, δ, x, hl⟩ := rnd_some F hrd
    split at hx
    · rename_i lp ho
      obtain ⟨lp', h1, h2, h3, _⟩ := loopObj K hl ho
      obtain ⟨q1, q2, q3, q4, q5, q6, q7, rd, δd, xd, q8, q9⟩ := h2
      refine rangex1_run hok hnc (Mv.refl K) hg (mark := []) F hr hf (by simpa using F.defers) q8 ?_ hx hmono
      rw [hb]
      unfold Instr.enterLoop Instr.getLoop
      simp only [Sem.run_bind, h3, Result.andThen_ok, Sem.run_pure, run_newObj, q9]
      rfl
    · simp at hx

theorem stepx_run {pr : Prim} {call : Oracle} (hok : Ok P B call) (hmono : Mono call) (hpr : PrimOk P B pr) (hnc : NoCount P) (hdr : DrawOk P B pr call) (K : HR P B σ h w) (hg : P.globals.size ≤ h.next) {fr : Fr} {b : Frame} {a : Act} {X : Frame} (F : FR σ fr b a) (R : RS fr b a X) {cs : List Frame} {out : Out} (hf : Free σ h.next (outNext out))
    (hs : stepx P pr call fr h = some out) : StepOk P B σ h w b X cs out := by
  unfold stepx at hs
  cases hr : fr.ret with
  | true => rw [hr] at hs; exact unwindx_run hok hnc K hg F hr R hf hs
  | false =>
    rw [hr] at hs
    simp only [cond_false] at hs
    obtain rfl : X = b.atR a fr.todo := by
      rcases R with ⟨_, e⟩ | ⟨e, _⟩
      · exact e
      · rw [hr] at e; cases e
    generalize fr.todo = todo at hs ⊢
    unfold itemx at hs
    split at hs
    · exact leavex_run K F hr (fun hb _ => stepR_end hb) (fun l v w' c cs' hb hk her e => stepR_round_end hb hk her) hs
    · rename_i i k
      split at hs
      · rename_i c
        unfold codex at hs
        cases c with
        | skip => exact goto_run K F hr stepR_skip hs
        | label l => exact goto_run K F hr stepR_label hs
        | seq x y => exact goto_run K F hr stepR_seq hs
        | block id c => exact goto_run K F hr stepR_block hs
        | loop c => exact goto_run K F hr stepR_loop hs
        | scope c => exact goto_run K F hr stepR_scope hs
        | refuse why => simp at hs
        | ret => exact leavex_run K F hr (fun hb _ => stepR_ret hb) (fun l v w' c cs' hb hk her e => stepR_round_ret hb hk her) hs
        | cond c x y =>
          simp only at hs
          unfold condx at hs
          split at hs
          · rename_i t ht
            have hv := FR.cond K F ht (by simp [undef])
            generalize hz : a.eval c = z at hv
            cases hv
            have hstep := stepR_cond (P := P) (b := b) (a := a) (k := k) (cs := cs) (w := w) (x := x) (y := y) hz
            have : (if t = true then x else y) = _root_.cond t x y := by cases t <;> rfl
            rw [this] at hstep
            exact goto_run K F hr hstep hs
          · simp at hs
        | exit id =>
          simp only at hs
          unfold exitx at hs
          cases hk : exitTo id k with
          | some k' => rw [hk] at hs; exact goto_run K F hr (stepR_exit hk) hs
          | none =>
            rw [hk] at hs
            refine leavex_run K F hr (fun hb hj => ?_) (fun l v w' c cs' hb hkd her e => stepR_round_exit hb hkd hk her) hs
            rcases hj with e | e <;> cases e
        | goto l =>
          simp only at hs
          unfold exitx at hs
          cases hk : gotoIn l k with
          | some k' => rw [hk] at hs; exact goto_run K F hr (stepR_goto hk) hs
          | none =>
            rw [hk] at hs
            refine leavex_run K F hr (fun hb hj => ?_) (fun l' v w' c cs' hb hkd her e => stepR_round_goto hb hkd hk her) hs
            rcases hj with e | e <;> cases e
        | rangeFunc f ps as bd => exact rangex0_run hok hnc hmono K hg F hr hf hs
        | region id ops d =>
          simp only [regionx] at hs
          unfold behind at hs
          split at hs
          · rename_i s' hs'
            simp only [Option.some.injEq] at hs
            subst hs
            have S : SR σ fr.nt fr.round ⟨fr.tmps, fr.defers, h⟩ b a := ⟨F.tmps, F.defers, F.round⟩
            cases d with
            | true =>
              simp only [cond_true] at hs'
              obtain ⟨a', w', τ, m, S', st⟩ := hdr (s := ⟨fr.tmps, fr.defers, h⟩) id k cs S K hg hf hs'
              exact ⟨a', w', τ, _, m, ⟨F.fn, S'.tmps, S'.defers, S'.round⟩, .inl ⟨hr, rfl⟩, st⟩
            | false =>
              simp only [cond_false] at hs'
              obtain ⟨a', w', τ, m, S', st⟩ := opsx_run (s := ⟨fr.tmps, fr.defers, h⟩) hok hmono hpr hnc k cs (i := 0) (by simp) S K hg hf hs'
              have hrg : List.range' 0 ops.toList.length = List.range ops.size := by rw [List.range_eq_range']; simp
              rw [hrg] at st
              exact ⟨a', w', τ, _, m, ⟨F.fn, S'.tmps, S'.defers, S'.round⟩, .inl ⟨hr, rfl⟩, .head stepR_region (st.trans (.one stepR_region_end))⟩
          · simp at hs
      · exact goto_run K F hr stepR_inBlock hs
      · exact goto_run K F hr stepR_inScope hs
      · exact goto_run K F hr stepR_inLoop hs
      · unfold beginx at hs
        split at hs
        · rename_i l hrd
          split at hs
          · rename_i lp ho
            obtain ⟨hst, hs⟩ := cond_none hs
            simp only [Option.some.injEq] at hs
            subst hs
            have hready : lp.state = LoopState.ready := by simpa using hst
            obtain ⟨r, hb, δ, x, hl⟩ := rnd_some F hrd
            obtain ⟨lp', h1, h2, h3, h4⟩ := loopObj K hl ho
            obtain ⟨q1, q2, q3, q4, q5, q6, q7, q8⟩ := h2
            obtain ⟨z1, z2⟩ := h4 { lp with state := LoopState.busy } { lp' with state := .busy } ⟨rfl, q2, q3, q4, q5, q6, q7, q8⟩
            have hbr : (Instr.beginRound r).run P w = .ok () { w with heap := w.heap.setIfInBounds r (.loop { lp' with state := .busy }) } := by
              unfold Instr.beginRound Instr.getLoop
              simp only [Sem.run_bind, h3, Result.andThen_ok, Sem.run_pure, z1, q1, hready]
            exact ⟨a, _, σ, _, z2, F.todo k, .inl ⟨hr, rfl⟩, .one (stepR_beginRound hb hbr)⟩
          · simp at hs
        · simp at hs
      · simp at hs

theorem leavex_next {fr : Fr} {j : Option Code} {out : Out} (hs : leavex fr h j = some out) : h.next ≤ outNext out := by
  unfold leavex at hs
  split at hs
  · split at hs
    · simp only [Option.some.injEq] at hs; subst hs; exact Nat.le_refl _
    · simp only [Option.some.injEq] at hs; subst hs; exact Nat.le_refl _
    · simp at hs
  · split at hs
    · simp only [Option.some.injEq] at hs; subst hs; exact Nat.le_refl _
    · simp at hs
theorem goto_next {fr : Fr} {k : List Item} {out : Out} (hs : goto fr h k = some out) : h.next ≤ outNext out := by
  unfold goto at hs
  simp only [Option.some.injEq] at hs; subst hs; exact Nat.le_refl _
theorem rangex1_next {pr : Prim} {call : Oracle} (hmono : Mono call) {fr : Fr} {k : List Item} {f : Operand} {ps : Array Tmp} {as bd : Code} {d : Nat} {ds : List Deferred} {out : Out} (hx : rangex1 P pr call fr k f ps as bd h d ds = some out) : h.next ≤ outNext out := by
  unfold rangex1 at hx
  split at hx
  · split at hx
    · simp at hx
    · split at hx
      · split at hx
        · rename_i r hcall
          split at hx
          · rcases cond_or hx with hx | hx
            · simp at hx
            · simp only [Option.some.injEq] at hx
              subst hx
              have := hmono _ _ r.1 r.2 hcall
              have h2 : h.next + 1 ≤ r.2.next := this
              show h.next ≤ r.2.next
              omega
          · simp at hx
        · simp at hx
      · simp at hx
  · simp at hx
theorem tracex_next {pr : Prim} {call : Oracle} (hm : Mono call) {rnd : Option Nat} {nt : Nat} {all : List Oper} : ∀ {os : List Oper} {s : St} {tr : List St} {s' : St}, tracex P pr call rnd nt all os s = some tr → lastx tr = some s' → s.h.next ≤ s'.h.next
  | [], s, tr, s', ht, hl => by simp [tracex] at ht; subst ht; simp [lastx] at hl; subst hl; exact Nat.le_refl _
  | o :: os, s, tr, s', ht, hl => by
    simp only [tracex] at ht
    split at ht
    · rename_i s1 h1
      obtain ⟨q, hq, rfl⟩ := Option.map_eq_some_iff.1 ht
      have hne : q ≠ [] := by
        cases os with
        | nil => simp [tracex] at hq; subst hq; simp
        | cons o2 os2 => simp only [tracex] at hq; split at hq; · obtain ⟨_, _, rfl⟩ := Option.map_eq_some_iff.1 hq; simp
                         · simp at hq
      have : lastx (s :: q) = lastx q := by
        cases q with
        | nil => exact absurd rfl hne
        | cons x xs => rfl
      rw [this] at hl
      exact Nat.le_trans (doOp_next hm h1) (tracex_next hm hq hl)
    · simp at ht
theorem drawTr_next {pr : Prim} {call : Oracle} (hm : Mono call) {rnd : Option Nat} {nt : Nat} {ops : Array Oper} {s s' : St} (hd : drawTr P pr call rnd nt ops s = some s') : s.h.next ≤ s'.h.next := by
  unfold drawTr at hd
  split at hd
  · rename_i tr htr
    obtain ⟨_, hd⟩ := cond_none hd
    exact tracex_next hm htr hd
  · simp at hd
theorem drawx_next {pr : Prim} {call : Oracle} (hm : Mono call) {rnd : Option Nat} {nt : Nat} {ops : Array Oper} {s s' : St} (hd : drawx P pr call rnd nt ops s = some s') : s.h.next ≤ s'.h.next := by
  unfold drawx at hd
  cases hst : staticOk P ops with
  | true => rw [hst] at hd; exact drawTr_next hm hd
  | false =>
    rw [hst] at hd
    simp only [cond_false] at hd
    unfold drawPm at hd
    obtain ⟨_, hd⟩ := cond_none hd
    exact drawTr_next hm hd
theorem stepx_next {pr : Prim} {call : Oracle} (hmono : Mono call) {fr : Fr} {out : Out} (hs : stepx P pr call fr h = some out) : h.next ≤ outNext out := by
  unfold stepx at hs
  rcases cond_or hs with hs | hs
  · unfold unwindx at hs
    split at hs
    · split at hs
      · obtain ⟨_, _, rfl⟩ := Option.map_eq_some_iff.1 hs; exact Nat.le_refl _
      · simp at hs
    · split at hs
      · simp only [Option.some.injEq] at hs; subst hs; exact Nat.le_refl _
      · simp at hs
    · split at hs
      · simp at hs
      · split at hs
        · split at hs
          · rename_i r hc
            simp only [Option.some.injEq] at hs
            subst hs
            exact hmono _ _ r.1 r.2 hc
          · simp at hs
        · simp at hs
    · simp at hs
  · generalize fr.todo = todo at hs
    unfold itemx at hs
    split at hs
    · exact leavex_next hs
    · split at hs
      · rename_i c
        unfold codex at hs
        cases c with
        | skip => exact goto_next hs
        | label l => exact goto_next hs
        | seq x y => exact goto_next hs
        | block id c => exact goto_next hs
        | loop c => exact goto_next hs
        | scope c => exact goto_next hs
        | refuse why => simp at hs
        | ret => exact leavex_next hs
        | cond c x y =>
          simp only at hs
          unfold condx at hs
          split at hs
          · exact goto_next hs
          · simp at hs
        | exit id =>
          simp only at hs
          unfold exitx at hs
          split at hs
          · exact goto_next hs
          · exact leavex_next hs
        | goto l =>
          simp only at hs
          unfold exitx at hs
          split at hs
          · exact goto_next hs
          · exact leavex_next hs
        | rangeFunc f ps as bd =>
          simp only at hs
          unfold rangex0 at hs
          split at hs
          · have := rangex1_next hmono hs
            have h2 : h.next + 1 ≤ outNext out := this
            omega
          · split at hs
            · exact rangex1_next hmono hs
            · simp at hs
        | region id ops d =>
          simp only [regionx] at hs
          unfold behind at hs
          split at hs
          · rename_i s' hs'
            simp only [Option.some.injEq] at hs
            subst hs
            rcases cond_or hs' with hs' | hs'
            · exact drawx_next (s := ⟨_, _, h⟩) hmono hs'
            · exact opsx_next (s := ⟨_, _, h⟩) hmono hs'
          · simp at hs
      · exact goto_next hs
      · exact goto_next hs
      · exact goto_next hs
      · unfold beginx at hs
        split at hs
        · split at hs
          · obtain ⟨_, hs⟩ := cond_none hs
            simp only [Option.some.injEq] at hs; subst hs; exact Nat.le_refl _
          · simp at hs
        · simp at hs
      · simp at hs

theorem runx_next {pr : Prim} {call : Oracle} (hmono : Mono call) : ∀ {n : Nat} {fr : Fr} {h : H} {v : Value} {h' : H}, runx P pr call n fr h = some (v, h') → h.next ≤ h'.next
  | 0, fr, h, v, h', hr => by simp [runx] at hr
  | n + 1, fr, h, v, h', hr => by
    simp only [runx] at hr
    split at hr
    · rename_i fr2 h2 hs
      exact Nat.le_trans (stepx_next hmono hs) (runx_next hmono hr)
    · rename_i v2 h2 hs
      simp only [Option.some.injEq, Prod.mk.injEq] at hr
      have := stepx_next hmono hs
      rw [← hr.2]; exact this
    · simp at hr

theorem runx_run {pr : Prim} {call : Oracle} (hok : Ok P B call) (hmono : Mono call) (hpr : PrimOk P B pr) (hnc : NoCount P) (hdr : DrawOk P B pr call) (cs : List Frame) (b : Frame) : ∀ {n : Nat} {fr : Fr} {h : H} {v : Value} {h' : H} {σ : Sg} {w : World} {a : Act} {X : Frame},
    runx P pr call n fr h = some (v, h') → FR σ fr b a → RS fr b a X → HR P B σ h w → P.globals.size ≤ h.next → Free σ h.next h'.next → ∃ v' w' τ, VR τ v v' ∧ Mv P B σ h w τ h' w' ∧ EndsX P b X cs w v' w'
  | 0, fr, h, v, h', σ, w, a, X, hr, _, _, _, _, _ => by simp [runx] at hr
  | n + 1, fr, h, v, h', σ, w, a, X, hr, F, R, K, hg, hf => by
    simp only [runx] at hr
    split at hr
    · rename_i fr2 h2 hs
      have n1 := stepx_next hmono hs
      have n2 := runx_next hmono hr
      obtain ⟨a2, w2, τ, X2, m, F2, R2, st⟩ := stepx_run (out := .more fr2 h2) hok hmono hpr hnc hdr K hg F R (cs := cs) (hf.left n2) hs
      obtain ⟨v', w', τ', k1, k2, k3⟩ := runx_run hok hmono hpr hnc hdr cs b hr F2 R2 m.hr (Nat.le_trans hg n1) (Free.right m hf)
      exact ⟨v', w', τ', k1, m.trans k2, k3.head st⟩
    · rename_i v2 h2 hs
      simp only [Option.some.injEq, Prod.mk.injEq] at hr
      obtain ⟨rfl, rfl⟩ := hr
      exact stepx_run (out := .done v2 h2) hok hmono hpr hnc hdr K hg F R (cs := cs) hf hs
    · simp at hr


theorem callN_mono {pr : Prim} {steps : Nat} : ∀ d, Mono (callN P pr steps d)
  | 0 => fun fr h v h' hc => by simp [callN] at hc
  | d + 1 => fun fr h v h' hc => runx_next (callN_mono d) (by simpa [callN] using hc)

theorem callN_ok {pr : Prim} {steps : Nat} (hpr : PrimOk P B pr) (hnc : NoCount P) (hdr : ∀ call, Ok P B call → Mono call → DrawOk P B pr call) : ∀ d, Ok P B (callN P pr steps d)
  | 0 => fun fr h v h' hc => by simp [callN] at hc
  | d + 1 => fun fr h v h' hc hr σ w b a F K hg hf cs => by
    have ih := callN_ok (steps := steps) hpr hnc hdr d
    obtain ⟨v', w', τ, k1, k2, k3⟩ := runx_run ih (callN_mono d) hpr hnc (hdr _ ih (callN_mono d)) cs b (by simpa [callN] using hc) F (.inl ⟨hr, rfl⟩) K hg hf
    exact ⟨v', w', τ, k1, k2, k3⟩

/-- A closed call, reckoned by our machine. -/
theorem calls_of_ev {pr : Prim} {steps d : Nat} (hpr : PrimOk P B pr) (hnc : NoCount P) (hdr : ∀ call, Ok P B call → Mono call → DrawOk P B pr call) {f : FuncId} {args args' : List Value} {fr : Fr} {v : Value} {h' : H} (K : HR P B σ h B) (hg : P.globals.size ≤ h.next) (hf : ∀ q, h.next ≤ q → σ q = none) (ha : VRs σ args args')
    (he : enterx P f args = some fr) (hc : callN P pr steps d fr h = some (v, h')) : Calls P f ⟨args'⟩ B (fun e W => ∃ v' τ, e = .returned v' ∧ VR τ v v' ∧ HR P B τ h' W ∧ Below B.heap.size B W) := by
  intro cs
  obtain ⟨b, a, e1, e2, e3, e4, e5, e6, e7, e8⟩ := enterx_run ha he hnc .normal
  obtain ⟨v', w', τ, k1, k2, k3⟩ := callN_ok hpr hnc hdr d fr h v h' hc e6 σ B b a e5 K hg (fun q h1 _ => hf q h1) cs
  obtain ⟨a', t', s1, s2, fn, s3, s4⟩ := k3.1 e4
  refine ⟨.returned v', w', { b.atR a' t' with mode := .returning }, ⟨v', τ, rfl, k1, k2.hr, k2.hr.bel⟩, ?_, e3, rfl, s2, e2, fn, s3, s4⟩
  show Steps P _ _
  rw [e1]
  exact s1

end
end Go.Ev
