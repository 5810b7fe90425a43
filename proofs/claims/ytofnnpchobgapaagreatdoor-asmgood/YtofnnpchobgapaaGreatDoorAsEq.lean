/- Machine code: the program's Good is the document's. -/
import Derived.Test.YtofnnpchobgapaaGreatDoorAsR4
namespace Go.Proofs.YtofnnpchobgapaaGreatDoor
set_option linter.unusedSimpArgs false
set_option linter.unusedVariables false

set_option maxHeartbeats 4000000 in
theorem takes_eq (globals : List Int) (nf : Int) (x : AIns) : takesA globals nf x = (rightA x && (!(x.op == 21 && (decide (x.sub < 0) || decide (nf ≤ x.sub))) && !(x.op == 6 && (decide (x.sub < 0) || (decide ((globals.length : Int) ≤ x.sub) || (decide (x.k < 0) || decide (glA globals x.sub < x.k))))))) := by
  obtain ⟨op, r, m, sub, cc, l, k⟩ := x
  rw [Bool.eq_iff_iff]
  rcases aop_cases op with rfl | rfl | rfl | rfl | rfl | rfl | rfl | rfl | rfl | rfl | rfl | rfl | rfl | rfl | rfl | rfl | rfl | rfl | rfl | rfl | rfl | rfl | rfl | rfl | rfl | rfl | ho
  case inr.inr.inr.inr.inr.inr.inr.inr.inr.inr.inr.inr.inr.inr.inr.inr.inr.inr.inr.inr.inr.inr.inr.inr.inr.inr =>
    have h1 : rightA ⟨op, r, m, sub, cc, l, k⟩ = false := by
      unfold rightA
      rcases ho with h | h
      · simp [h]
      · simp [h]
    have h2 : takesA globals nf ⟨op, r, m, sub, cc, l, k⟩ = false := by
      by_cases h0 : op = 0
      · subst h0; simp [takesA, spTakes, aspOf, aspTab]
      · have e : aspOf op = aspNone := aspOf_none (by omega)
        simp [takesA, spTakes, e, aspNone]
    rw [h1, h2]
    simp
  all_goals
    simp [takesA, spTakes, aspOf, aspTab, aplB, asbB, acoB, rightA, anrB, anmB, awrB, arestB, aregB, accB, a32B, aluB, awB]
    try omega
/-- What the map of labels says. -/
theorem plA_some (code : List AIns) (y : Int) : ∀ n, ((plA code n).g y).isSome = true ↔ ∃ (i : Nat) (x : AIns), i < n ∧ code[i]? = some x ∧ x.op = 20 ∧ x.l = y
  | 0 => by simp [plA]
  | n + 1 => by
    have ih := plA_some code y n
    cases hg : code[n]? with
    | none =>
      rw [show plA code (n + 1) = plA code n by simp only [plA, hg], ih]
      constructor
      · rintro ⟨i, x, h1, h2⟩; exact ⟨i, x, by omega, h2⟩
      · rintro ⟨i, x, h1, h2, h3⟩
        by_cases e : i = n
        · subst e; rw [hg] at h2; cases h2
        · exact ⟨i, x, by omega, h2, h3⟩
    | some z =>
      rw [plA_step hg, plStep]
      by_cases hz : z.op = 20
      · rw [if_pos hz]
        by_cases hy : y = z.l
        · simp only [hy, if_true, Option.isSome_some, true_iff]
          exact ⟨n, z, by omega, hg, hz, rfl⟩
        · simp only [hy, if_false]
          rw [ih]
          constructor
          · rintro ⟨i, x, h1, h2⟩; exact ⟨i, x, by omega, h2⟩
          · rintro ⟨i, x, h1, h2, h3, h4⟩
            by_cases e : i = n
            · subst e; rw [hg] at h2; cases h2; exact absurd h4.symm hy
            · exact ⟨i, x, by omega, h2, h3, h4⟩
      · rw [if_neg hz, ih]
        constructor
        · rintro ⟨i, x, h1, h2⟩; exact ⟨i, x, by omega, h2⟩
        · rintro ⟨i, x, h1, h2, h3, h4⟩
          by_cases e : i = n
          · subst e; rw [hg] at h2; cases h2; exact absurd h3 hz
          · exact ⟨i, x, by omega, h2, h3, h4⟩
/-- All labels of the first n are unlike. -/
def apartA (code : List AIns) (n : Nat) : Prop := ∀ (i j : Nat) (x y : AIns), i < j → j < n → code[i]? = some x → code[j]? = some y → x.op = 20 → y.op = 20 → x.l ≠ y.l
theorem plA_count (code : List AIns) : ∀ n, (plA code n).s ≤ lbA code n ∧ (lbA code n = (plA code n).s ↔ apartA code n)
  | 0 => ⟨Nat.le_refl _, by simp [plA, lbA, apartA]⟩
  | n + 1 => by
    obtain ⟨h1, h2⟩ := plA_count code n
    cases hg : code[n]? with
    | none =>
      rw [show plA code (n + 1) = plA code n by simp only [plA, hg], show lbA code (n + 1) = lbA code n by simp only [lbA, hg]]
      refine ⟨h1, h2.trans ⟨fun h i j x y hij hj hx hy => h i j x y hij ?_ hx hy, fun h i j x y hij hj hx hy => h i j x y hij (by omega) hx hy⟩⟩
      by_cases e : j = n
      · subst e; rw [hg] at hy; cases hy
      · omega
    | some z =>
      rw [plA_step hg, lbA_step hg, plStep]
      by_cases hz : z.op = 20
      · rw [if_pos hz, if_pos hz]
        cases hs : ((plA code n).g z.l).isSome with
        | true =>
          simp only [if_true]
          refine ⟨by omega, ⟨fun h => by omega, fun h => ?_⟩⟩
          obtain ⟨i, x, k1, k2, k3, k4⟩ := (plA_some code z.l n).1 hs
          exact absurd k4 (h i n x z k1 (by omega) k2 hg k3 hz)
        | false =>
          simp only [Bool.false_eq_true, if_false]
          refine ⟨by omega, ⟨fun h i j x y hij hj hx hy hxo hyo => ?_, fun h => ?_⟩⟩
          · by_cases e : j = n
            · subst e
              rw [hg] at hy
              cases hy
              intro hl
              have := (plA_some code z.l j).2 ⟨i, x, hij, hx, hxo, hl⟩
              rw [hs] at this
              cases this
            · exact h2.1 (by omega) i j x y hij (by omega) hx hy hxo hyo
          · have := h2.2 (fun i j x y hij hj hx hy hxo hyo => h i j x y hij (by omega) hx hy hxo hyo)
            omega
      · rw [if_neg hz, if_neg hz]
        refine ⟨h1, h2.trans ⟨fun h i j x y hij hj hx hy hxo hyo => ?_, fun h i j x y hij hj hx hy hxo hyo => h i j x y hij (by omega) hx hy hxo hyo⟩⟩
        by_cases e : j = n
        · subst e; rw [hg] at hy; cases hy; exact absurd hyo hz
        · exact h i j x y hij (by omega) hx hy hxo hyo
/-- Where a label stands first. -/
theorem placeA_spec (code : List AIns) (l : Int) : (placeA l code 0 = -1 ∧ ∀ (i : Nat) (x : AIns), code[i]? = some x → x.op = 20 → x.l ≠ l) ∨ ∃ (i : Nat) (x : AIns), placeA l code 0 = (i : Int) ∧ code[i]? = some x ∧ x.op = 20 ∧ x.l = l ∧ ∀ (j : Nat) (y : AIns), j < i → code[j]? = some y → y.op = 20 → y.l ≠ l := by
  by_cases h : ∃ (i : Nat) (x : AIns), code[i]? = some x ∧ x.op = 20 ∧ x.l = l
  · right
    have hm : ∃ i : Nat, (∃ x : AIns, code[i]? = some x ∧ x.op = 20 ∧ x.l = l) ∧ ∀ j : Nat, j < i → ¬ ∃ x : AIns, code[j]? = some x ∧ x.op = 20 ∧ x.l = l := by
      obtain ⟨i, hi⟩ := h
      induction i using Nat.strongRecOn with
      | ind i ih =>
        by_cases hj : ∃ j : Nat, j < i ∧ ∃ x : AIns, code[j]? = some x ∧ x.op = 20 ∧ x.l = l
        · obtain ⟨j, h1, h2⟩ := hj
          exact ih j h1 h2
        · exact ⟨i, hi, fun j hji hx => hj ⟨j, hji, hx⟩⟩
    obtain ⟨i, ⟨x, h1, h2, h3⟩, h4⟩ := hm
    have hb : ∀ (j : Nat) y, j < i → code[j]? = some y → (y.op == 20 && y.l == l) = false := fun j y hj hy => by
      cases hc : (y.op == 20 && y.l == l) with
      | false => rfl
      | true =>
        simp only [Bool.and_eq_true, beq_iff_eq] at hc
        exact absurd ⟨y, hy, hc⟩ (h4 j hj)
    refine ⟨i, x, ?_, h1, h2, h3, fun j y hj hy ho hl => h4 j hj ⟨y, hy, ho, hl⟩⟩
    rw [placeA_drop 0 h1 hb (by simp [h2, h3]), Nat.zero_add]
  · left
    refine ⟨placeA_none 0 (fun j y hy => ?_), fun i x hx ho hl => h ⟨i, x, hx, ho, hl⟩⟩
    cases hc : (y.op == 20 && y.l == l) with
    | false => rfl
    | true =>
      simp only [Bool.and_eq_true, beq_iff_eq] at hc
      exact absurd ⟨j, y, hy, hc⟩ h
/-- Labels and goals: both say the same. -/
theorem goals_iff (code : List AIns) : goalsA code = true ↔ ∀ (n : Nat) (x : AIns), code[n]? = some x → (x.op == 20 && placeA x.l code 0 != (n : Int) || jumpA x && decide (placeA x.l code 0 < 0)) = false := by
  unfold goalsA
  rw [Bool.and_eq_true, beq_iff_eq, (plA_count code code.length).2, List.all_eq_true]
  constructor
  · rintro ⟨h1, h2⟩ n x hx
    have hn := (List.getElem?_eq_some_iff.1 hx).1
    rw [Bool.or_eq_false_iff]
    constructor
    · cases ho : (x.op == 20) with
      | false => rfl
      | true =>
        have ho' : x.op = 20 := by simpa using ho
        rcases placeA_spec code x.l with ⟨_, h4⟩ | ⟨i, y, h3, h4, h5, h6, h7⟩
        · exact absurd rfl (h4 n x hx ho')
        · have : i = n := by
            rcases Nat.lt_trichotomy i n with hlt | heq | hgt
            · exact absurd h6 (h2 i n y x hlt hn h4 hx h5 ho')
            · exact heq
            · exact absurd rfl (h7 n x hgt hx ho')
          subst this
          rw [h3]
          simp
    · cases hj : jumpA x with
      | false => rfl
      | true =>
        have h3 := h1 x (List.mem_of_getElem? hx)
        rw [hj] at h3
        simp only [Bool.not_true, Bool.false_or] at h3
        obtain ⟨i, y, _, k2, k3, k4⟩ := (plA_some code x.l code.length).1 h3
        rcases placeA_spec code x.l with ⟨_, h4⟩ | ⟨i', y', h5, _⟩
        · exact absurd k4 (h4 i y k2 k3)
        · rw [h5]; simp
  · intro h
    constructor
    · intro x hx
      obtain ⟨n, hn⟩ := List.getElem?_of_mem hx
      have h1 := (Bool.or_eq_false_iff.1 (h n x hn)).2
      cases hj : jumpA x with
      | false => rfl
      | true =>
        rw [hj] at h1
        simp only [Bool.true_and, decide_eq_false_iff_not] at h1
        simp only [Bool.not_true, Bool.false_or]
        rcases placeA_spec code x.l with ⟨h2, _⟩ | ⟨i, y, _, h4, h5, h6, _⟩
        · rw [h2] at h1; omega
        · exact (plA_some code x.l code.length).2 ⟨i, y, (List.getElem?_eq_some_iff.1 h4).1, h4, h5, h6⟩
    · intro i j x y hij hj hx hy hxo hyo hl
      have h1 := (Bool.or_eq_false_iff.1 (h j y hy)).1
      simp only [hyo, BEq.rfl, Bool.true_and, bne_eq_false_iff_eq] at h1
      rcases placeA_spec code y.l with ⟨h2, _⟩ | ⟨k, z, h3, _, _, _, h7⟩
      · rw [h2] at h1; omega
      · have e : k = j := by rw [h3] at h1; omega
        subst e
        exact h7 i x hij hx hxo hl
theorem code_eq (globals : List Int) (nf : Int) (code : List AIns) : codeA globals nf code = rcodeA globals nf code := by
  rw [Bool.eq_iff_iff]
  unfold codeA rcodeA
  rw [Bool.and_eq_true, Bool.and_eq_true, Bool.and_eq_true, List.all_eq_true, goals_iff, List.all_eq_true]
  have hs : (!(decide (100000 < (code.length : Int)) || !someA code)) = !(!someA code || decide (100000 < (code.length : Int))) := by rw [Bool.or_comm]
  rw [hs]
  have key : ((∀ x ∈ code, takesA globals nf x = true) ∧ ∀ (n : Nat) (x : AIns), code[n]? = some x → (x.op == 20 && placeA x.l code 0 != (n : Int) || jumpA x && decide (placeA x.l code 0 < 0)) = false) ↔ ∀ (n : Nat) (x : AIns), code[n]? = some x → oneA globals nf code n x = true := by
    constructor
    · rintro ⟨h1, h2⟩ n x hx
      have k1 := h1 x (List.mem_of_getElem? hx)
      have k2 := h2 n x hx
      rw [takes_eq, Bool.and_eq_true, Bool.and_eq_true] at k1
      obtain ⟨k3, k4, k5⟩ := k1
      unfold oneA
      rw [k3, k2, k4, k5]
      rfl
    · intro h
      constructor
      · intro x hx
        obtain ⟨n, hn⟩ := List.getElem?_of_mem hx
        have k := h n x hn
        unfold oneA at k
        rw [Bool.and_eq_true, Bool.and_eq_true, Bool.and_eq_true] at k
        rw [takes_eq, k.1, k.2.2.1, k.2.2.2]
        rfl
      · intro n x hx
        have k := h n x hx
        unfold oneA at k
        rw [Bool.and_eq_true, Bool.and_eq_true] at k
        simpa only [Bool.not_eq_true'] using k.2.1
  rw [key]
  constructor
  · rintro ⟨h1, h2⟩
    refine ⟨fun n hn => ?_, h1⟩
    have hg := List.getElem?_eq_getElem (List.mem_range.1 hn)
    rw [hg]
    exact h2 n _ hg
  · rintro ⟨h1, h2⟩
    refine ⟨h2, fun n x hx => ?_⟩
    have k := h1 n (List.mem_range.2 (List.getElem?_eq_some_iff.1 hx).1)
    rw [hx] at k
    exact k
/-- THE TWO. -/
theorem good_eqA (p : APg) : GoodA p = RGoodA p := by
  have hz : ∀ x, awB x 65536 = rszB x := fun x => by
    rw [Bool.eq_iff_iff]
    simp [awB, rszB]
  unfold GoodA RGoodA globalsA headA rheadB
  rw [show (fun x => awB x 65536) = rszB from funext hz, show (fun f : AFn => codeA p.globals p.funcs.length f.code) = (fun f : AFn => rcodeA p.globals p.funcs.length f.code) from funext (fun f => code_eq _ _ _)]
  generalize p.globals.all rszB = a
  generalize (p.funcs.all fun f => rcodeA p.globals p.funcs.length f.code) = b
  cases a <;> cases b <;> rw [Bool.eq_iff_iff] <;> simp [awB] <;> omega
end Go.Proofs.YtofnnpchobgapaaGreatDoor
