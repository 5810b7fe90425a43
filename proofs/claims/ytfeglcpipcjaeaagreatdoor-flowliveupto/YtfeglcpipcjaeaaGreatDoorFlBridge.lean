/- A region that draws its order, within a round of a range over an iterator: what holds outside of one holds there, where nothing is deferred. -/
import Derived.Test.YtfeglcpipcjaeaaGreatDoorFlLeaf
namespace Go.Proofs.YtfeglcpipcjaeaaGreatDoor
open Go.RowKit
set_option linter.unusedVariables false
set_option linter.unusedSimpArgs false

theorem grown_drew {w W : World} {row : Option Nat} (h : w.drew.grownBy W row) : w.grownBy W row := ⟨h.os, h.tape, h.output, h.size, h.block⟩
theorem cell_new (w : World) (x : Value) (e : TypeId) (h : x.oneCell' = true) : (w.alloc (.cells #[x] e)).cell? ⟨w.heap.size, 0, none⟩ = some x := by simp
theorem upon_round {P : Program} {o : Oper} {a : Act} {next : Act → World → Prop} {Q : Exit → Act → World → Prop} {l n : Nat} : ∀ {r : Result Next}, o.upon P a next Q r → o.uponIn (Fence.wide.inRound l) n P a next Q r := by
  intro r h
  have hdp : ∀ {m : Nat}, ((Fence.wide.inRound l).depth.isSome = true → 1 ≤ m) := fun e => absurd (show (none : Option Nat).isSome = true from e) (by simp)
  cases r with
  | ok nx w' =>
    cases nx with
    | enter f args => exact ⟨hdp, CallsIn.inRound l (callsIn_wide.2 h)⟩
    | row row args =>
      refine ⟨hdp, fun c cs _ => ?_⟩
      obtain ⟨v, w2, r, s⟩ := h c cs
      exact ⟨v, w2, r, stepsIn_wide.2 s⟩
    | _ => first | exact h | exact h.elim
  | _ => first | exact h | (rename_i x w'; cases x <;> first | exact h | exact h.elim)
def noDefer (l : List Oper) : Bool := l.all fun o => match o.op with
  | .defer _ => false
  | _ => true
theorem noDefer_at {l : List Oper} (h : noDefer l = true) : ∀ (i : Nat) (o : Oper), l.toArray[i]? = some o → ∀ c, o.op ≠ Op.defer c := by
  intro i o ho c hc
  have hm : o ∈ l := List.mem_of_getElem? (by simpa using ho)
  have := List.all_eq_true.1 h o hm
  rw [hc] at this
  cases this
theorem wpOp_round {n : Nat} {P : Program} {ops : Array Oper} {Q : Exit → Act → World → Prop} {i l : Nat} {K : Act → World → Prop} {a : Act} {w : World} (hd : ∀ (i : Nat) (o : Oper), ops[i]? = some o → ∀ c, o.op ≠ Op.defer c) (hout : ¬ LetsOut Q)
    (h : wpOp P ops Q i K a w) : wpOpIn (Fence.wide.inRound l) n P ops Q i K a w := by
  unfold wpOp at h
  unfold wpOpIn
  cases ho : ops[i]? with
  | none => rw [ho] at h; exact h
  | some o =>
    rw [ho] at h
    dsimp only at h ⊢
    split
    · rename_i hw
      rw [if_pos hw] at h
      rcases h with h | ⟨_, h⟩
      · refine ⟨fun f _ => trivial, ?_⟩
        rw [Fence.inRound_round, Oper.semAt_some l _ o (hd i o ho)]
        exact upon_round h
      · exact absurd h hout
    · rename_i hw
      rw [if_neg hw] at h
      exact ⟨fun f _ => trivial, h⟩
theorem wpAny_round {n : Nat} {P : Program} {md : Region.Mode} {ops : Array Oper} {Q : Exit → Act → World → Prop} {l : Nat} (hd : ∀ (i : Nat) (o : Oper), ops[i]? = some o → ∀ c, o.op ≠ Op.defer c) (hout : ¬ LetsOut Q) :
    ∀ (fuel : Nat) (listed : Array Bool) (a : Act) (w : World), wpAny P md ops Q fuel listed a w → wpAnyIn (Fence.wide.inRound l) n P md ops Q fuel listed a w
  | 0, _, _, _, h => h
  | fuel + 1, listed, a, w, h => ⟨h.1, fun i hi => wpOpIn_mono (fun a w => wpAny_round hd hout fuel _ a w) (wpOp_round hd hout (h.2 i hi))⟩
theorem wpIn_held_round {n : Nat} {P : Program} {id l : Nat} {Q : Exit → Act → World → Prop} {S : World → Prop} {a : Act} {w : World} {ol : List Oper} (hout : ¬ LetsOut Q) (hn : noDefer ol = true) (hm : P.follows .mixedOrders = true) (hS : S w.drew)
    (h : S w.drew → wpAnyH P .any ol.toArray Q S ol.toArray.size (Array.replicate ol.toArray.size false) a w.drew) : (Code.region id ol.toArray true).wpIn (Fence.wide.inRound l) n P Q a w :=
  wpIn_region_any hm (wpAny_round (noDefer_at hn) hout _ _ _ _ (wpAny_of_held _ _ _ _ (h hS)))
/-- The ranges over functions that a code holds; its loops. -/
def rangesOfF : Code → List (Array Tmp × Code × Code)
  | .rangeFunc _ ps a b => [(ps, a, b)]
  | .seq a b => rangesOfF a ++ rangesOfF b
  | .block _ c => rangesOfF c
  | .scope c => rangesOfF c
  | .loop c => rangesOfF c
  | .cond _ a b => rangesOfF a ++ rangesOfF b
  | _ => []
def loopsOf : Code → List Code
  | .loop c => [c]
  | .seq a b => loopsOf a ++ loopsOf b
  | .block _ c => loopsOf c
  | .scope c => loopsOf c
  | .cond _ a b => loopsOf a ++ loopsOf b
  | _ => []
theorem put_otherF {W : World} {l k : Nat} {o : Obj} (h : k ≠ l) : (W.putObj l o).heap[k]? = W.heap[k]? := World.putObj_heap_other h
theorem cell_not_loopF {W : World} {b o l : Nat} {r : Loop} {v : Value} (hl : W.heap[l]? = some (.loop r)) (hc : W.cell? ⟨b, o, none⟩ = some v) : b ≠ l := by
  rintro rfl
  simp [World.cell?, hl] at hc
theorem gset_otherF {w : World} {b b' o : Nat} {v : Value} (h : b ≠ b') : (w.setCell ⟨b', o, none⟩ v).heap[b]? = w.heap[b]? := Below.heap_setCell w ⟨b', o, none⟩ v b h
theorem gsize_setF (w : World) (p : Addr) (u : Value) : (w.setCell p u).heap.size = w.heap.size := by simp [World.setCell]
theorem gwp_namedF {P : Program} {c : Code} {Q : Exit → Act → World → Prop} {a : Act} {w0 : World} (Fct : World → Prop) (h : Fct w0) (k : ∀ W, Fct W → Code.wp P c Q a W) : Code.wp P c Q a w0 := k w0 h
theorem gq_namedF {Q : Exit → Act → World → Prop} {a : Act} {w0 : World} (Fct : World → Prop) (h : Fct w0) (k : ∀ W, Fct W → Q .normal a W) : Q .normal a w0 := k w0 h
theorem bel_putF {w : World} {H l : Nat} {o : Obj} (h : H ≤ l) : Below H w (w.putObj l o) :=
  ⟨rfl, rfl, rfl, by rw [World.putObj_size]; exact Nat.le_refl _, fun k hk => put_otherF (by omega)⟩
/-- The marks that ranges leave, at a function's end. -/
def mkD (d : Nat) : Deferred := { target := .collected d, args := #[] }
theorem leaves_marks {F : Fence} {n : Nat} {P : Program} {fn : Func} {tmps : Array Value} {R : Ending → World → Prop} : ∀ (ms : List Nat) (w : World), ms.Nodup → (∀ d ∈ ms, w.heap[d]? = some (.deferred (some []))) →
    (∀ W : World, (∀ k, k ∉ ms → W.heap[k]? = w.heap[k]?) → W.os = w.os → W.tape = w.tape → W.output = w.output → W.heap.size = w.heap.size → LeavesIn F n P fn tmps R [] .returning W) → LeavesInM F n P fn tmps R (ms.map mkD) .returning w
  | [], w, _, _, h => h w (fun _ _ => rfl) rfl rfl rfl rfl
  | d :: ms, w, hn, hm, h => by
    refine ⟨by simp, .inl ⟨d, _, rfl, run_takeDeferred (hm d (by simp)), ?_⟩⟩
    have hn' := List.nodup_cons.1 hn
    refine leaves_marks ms _ hn'.2 (fun d' hd' => ?_) (fun W h1 h2 h3 h4 h5 => h W (fun k hk => ?_) h2 h3 h4 (by rw [h5, World.putObj_size]))
    · have hne : d' ≠ d := fun e => hn'.1 (by rw [← e]; exact hd')
      rw [put_otherF hne]
      exact hm d' (by simp [hd'])
    · have hne : k ≠ d := fun e => hk (by rw [e]; simp)
      rw [h1 k (fun hh => hk (by simp [hh])), put_otherF hne]
end Go.Proofs.YtfeglcpipcjaeaaGreatDoor
