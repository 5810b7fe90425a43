/- The document's own machine code: THE DOCUMENT's Good. -/
import Derived.Test.YtofnnpchobgapaaGreatDoorAsR2
namespace Go.Proofs.YtofnnpchobgapaaGreatDoor
open Go.ChangeShapes Go.WideShapes Go.ChangeAt Go.RowKit
set_option linter.unusedSimpArgs false
set_option linter.unusedVariables false

def rszB (x : Int) : Bool := !(decide (x < 0) || decide (65536 < x))
def rheadB (main params ng nf : Int) : Bool := !(decide (200 < ng) || (decide (100 < nf) || (decide (main < 0) || (decide (nf ≤ main) || (decide (params < 0) || decide (6 < params))))))
def RGoodA (p : APg) : Bool := rheadB p.main p.params p.globals.length p.funcs.length && (p.globals.all rszB && p.funcs.all (fun f => rcodeA p.globals p.funcs.length f.code))
/-- All of the first n are right. -/
def upA (globals : List Int) (nf : Int) (code : List AIns) (n : Nat) : Prop := ∀ (j : Nat) x, j < n → code[j]? = some x → oneA globals nf code j x = true
theorem upA_step {globals : List Int} {nf : Int} {code : List AIns} {i : Nat} {x : AIns} (hget : code[i]? = some x) (hf : oneA globals nf code i x = true) (h : upA globals nf code i) : upA globals nf code (i + 1) := fun j y hj hy => by
  by_cases e : j = i
  · subst e; rw [hget] at hy; cases hy; exact hf
  · exact h j y (by omega) hy
theorem rcode_bad {globals : List Int} {nf : Int} {code : List AIns} {i : Nat} {x : AIns} (hget : code[i]? = some x) (hf : oneA globals nf code i x = false) : rcodeA globals nf code = false := by
  unfold rcodeA
  rw [Bool.and_eq_false_iff]
  left
  rw [List.all_eq_false]
  exact ⟨i, List.mem_range.2 (List.getElem?_eq_some_iff.1 hget).1, by rw [hget]; simp only [hf]; exact Bool.false_ne_true⟩
theorem rcode_end {globals : List Int} {nf : Int} {code : List AIns} {n : Nat} (hn : n = code.length) (h : upA globals nf code n) : rcodeA globals nf code = !(!someA code || decide (100000 < (n : Int))) := by
  unfold rcodeA
  rw [← hn]
  refine (congrArg (fun b => b && !(!someA code || decide (100000 < (n : Int)))) (List.all_eq_true.2 ?_)).trans (Bool.true_and _)
  intro i hi
  have hi := List.mem_range.1 hi
  have hg := List.getElem?_eq_getElem (l := code) (i := i) (by omega)
  rw [hg]
  exact h i _ (by omega) hg
/-- Is one of the first n no label? -/
def smA (code : List AIns) : Nat → Bool
  | 0 => false
  | n + 1 => match code[n]? with
    | some x => smA code n || x.op != 20
    | none => smA code n
theorem smA_step {code : List AIns} {n : Nat} {x : AIns} (h : code[n]? = some x) : smA code (n + 1) = (smA code n || x.op != 20) := by simp only [smA, h]
theorem smA_iff (code : List AIns) : ∀ n, smA code n = true ↔ ∃ j x, j < n ∧ code[j]? = some x ∧ (x.op != 20) = true
  | 0 => by simp [smA]
  | n + 1 => by
    cases hg : code[n]? with
    | none =>
      rw [show smA code (n + 1) = smA code n by simp only [smA, hg], smA_iff code n]
      constructor
      · rintro ⟨j, x, h1, h2, h3⟩; exact ⟨j, x, by omega, h2, h3⟩
      · rintro ⟨j, x, h1, h2, h3⟩
        by_cases e : j = n
        · subst e; rw [hg] at h2; cases h2
        · exact ⟨j, x, by omega, h2, h3⟩
    | some y =>
      rw [smA_step hg, Bool.or_eq_true, smA_iff code n]
      constructor
      · rintro (⟨j, x, h1, h2, h3⟩ | h)
        · exact ⟨j, x, by omega, h2, h3⟩
        · exact ⟨n, y, by omega, hg, h⟩
      · rintro ⟨j, x, h1, h2, h3⟩
        by_cases e : j = n
        · subst e; rw [hg] at h2; cases h2; exact .inr h3
        · exact .inl ⟨j, x, by omega, h2, h3⟩
theorem smA_end {code : List AIns} {n : Nat} (hn : n = code.length) : smA code n = someA code := by
  rw [Bool.eq_iff_iff, smA_iff, someA, List.any_eq_true]
  constructor
  · rintro ⟨j, x, _, h2, h3⟩; exact ⟨x, List.mem_of_getElem? h2, h3⟩
  · rintro ⟨x, h2, h3⟩
    obtain ⟨j, hj⟩ := List.getElem?_of_mem h2
    exact ⟨j, x, by rw [hn]; exact (List.getElem?_eq_some_iff.1 hj).1, hj, h3⟩

set_option maxRecDepth 100000 in
set_option maxHeartbeats 8000000 in
theorem rgood_head (ga fa : Option Addr) (ng gc nf fc : Nat) (main params : Int) (w : World) (hng : ng * 8 ≤ 140737488355328) (hnf : nf * 40 ≤ 140737488355328) (HH : Hid (rheadB main params ng nf = false)) :
    Calls Tryz.prog 9 #[.agg #[.slice ga ng gc, .slice fa nf fc, .int .i64 main, .int .i64 params]] w (retP (.bool false) w) := by
  have hgm : (ng : Int) ≤ 9223372036854775807 := by omega
  have hfm : (nf : Int) ≤ 9223372036854775807 := by omega
  by_cases h0 : 200 < (ng : Int)
  · have q0 : decide (200 < (ng : Int)) = true := by simpa using h0
    have qn0 : decide (200 < ng) = true := by simp; omega
    clear h0 HH
    go_enter Tryz.func9, Tryz.ntmps9
    go_wp2
    go_ret
    exact ⟨rfl, (by repeat (first | with_reducible exact Below.refl _ _ | with_reducible refine bel_alloc ?_ _ | with_reducible refine bel_set ?_ (by first | exact Nat.le_refl _ | (simp; done) | (simp; omega)) _ | with_reducible refine Below.drew ?_ | refine bel_trans ?_ (by assumption)))⟩
  have q0 : decide (200 < (ng : Int)) = false := by simpa using h0
  have qn0 : decide (200 < ng) = false := by simp; omega
  clear h0
  by_cases h1 : 100 < (nf : Int)
  · have q1 : decide (100 < (nf : Int)) = true := by simpa using h1
    have qn1 : decide (100 < nf) = true := by simp; omega
    clear h1 HH
    go_enter Tryz.func9, Tryz.ntmps9
    go_wp2
    go_ret
    exact ⟨rfl, (by repeat (first | with_reducible exact Below.refl _ _ | with_reducible refine bel_alloc ?_ _ | with_reducible refine bel_set ?_ (by first | exact Nat.le_refl _ | (simp; done) | (simp; omega)) _ | with_reducible refine Below.drew ?_ | refine bel_trans ?_ (by assumption)))⟩
  have q1 : decide (100 < (nf : Int)) = false := by simpa using h1
  have qn1 : decide (100 < nf) = false := by simp; omega
  clear h1
  by_cases h2 : main < 0
  · have q2 : decide (main < 0) = true := by simpa using h2
    clear h2 HH
    go_enter Tryz.func9, Tryz.ntmps9
    go_wp2
    go_ret
    exact ⟨rfl, (by repeat (first | with_reducible exact Below.refl _ _ | with_reducible refine bel_alloc ?_ _ | with_reducible refine bel_set ?_ (by first | exact Nat.le_refl _ | (simp; done) | (simp; omega)) _ | with_reducible refine Below.drew ?_ | refine bel_trans ?_ (by assumption)))⟩
  have q2 : decide (main < 0) = false := by simpa using h2
  clear h2
  by_cases h3 : (nf : Int) ≤ main
  · have q3 : decide ((nf : Int) ≤ main) = true := by simpa using h3
    clear h3 HH
    go_enter Tryz.func9, Tryz.ntmps9
    go_wp2
    go_ret
    exact ⟨rfl, (by repeat (first | with_reducible exact Below.refl _ _ | with_reducible refine bel_alloc ?_ _ | with_reducible refine bel_set ?_ (by first | exact Nat.le_refl _ | (simp; done) | (simp; omega)) _ | with_reducible refine Below.drew ?_ | refine bel_trans ?_ (by assumption)))⟩
  have q3 : decide ((nf : Int) ≤ main) = false := by simpa using h3
  clear h3
  by_cases h4 : params < 0
  · have q4 : decide (params < 0) = true := by simpa using h4
    clear h4 HH
    go_enter Tryz.func9, Tryz.ntmps9
    go_wp2
    go_ret
    exact ⟨rfl, (by repeat (first | with_reducible exact Below.refl _ _ | with_reducible refine bel_alloc ?_ _ | with_reducible refine bel_set ?_ (by first | exact Nat.le_refl _ | (simp; done) | (simp; omega)) _ | with_reducible refine Below.drew ?_ | refine bel_trans ?_ (by assumption)))⟩
  have q4 : decide (params < 0) = false := by simpa using h4
  clear h4
  by_cases h5 : 6 < params
  · have q5 : decide (6 < params) = true := by simpa using h5
    clear h5 HH
    go_enter Tryz.func9, Tryz.ntmps9
    go_wp2
    go_ret
    exact ⟨rfl, (by repeat (first | with_reducible exact Below.refl _ _ | with_reducible refine bel_alloc ?_ _ | with_reducible refine bel_set ?_ (by first | exact Nat.le_refl _ | (simp; done) | (simp; omega)) _ | with_reducible refine Below.drew ?_ | refine bel_trans ?_ (by assumption)))⟩
  have q5 : decide (6 < params) = false := by simpa using h5
  clear h5
  exfalso
  have h := HH.out
  simp only [rheadB, q0, q1, q2, q3, q4, q5] at h
  simp at h

end Go.Proofs.YtofnnpchobgapaaGreatDoor
