/- Package ltl and the document: locations. -/
import Derived.Test.YthieicjnenlpfaaGreatDoorLgM
namespace Go.Proofs.YthieicjnenlpfaaGreatDoor
open Go.ChangeShapes Go.WideShapes Go.ChangeAt Go.RowKit
set_option linter.unusedSimpArgs false
set_option linter.unusedVariables false

/-- The table of parameters' locations. -/
def ParTab (w : World) : Prop := ∀ (i : Nat) x, parL[i]? = some x → w.cell? ⟨0, i, none⟩ = some (.int .i64 x)
theorem ParTab.keep {w w' : World} (h : ParTab w) (hb : Below w.heap.size w w') : ParTab w' := fun i x hx => keep_cell hb (h i x hx)
theorem parL_lt {i : Nat} {x : Int} (h : parL[i]? = some x) : i < 6 := (List.getElem?_eq_some_iff.1 h).1
set_option maxHeartbeats 1000000 in
theorem isReserved_any (r : Int) (w : World) : Calls Tryz.prog 36 #[.int .i64 r] w fun e w' => e = .returned (.bool (resB r)) ∧ w' = w := by
  cases h4 : (r == 4)
  · cases h10 : (r == 10)
    · go_enter Tryz.func36, Tryz.ntmps36
      go_wp2
      go_ret
      exact ⟨by simp only [resB, h4, h10]; rfl, rfl⟩
    · go_enter Tryz.func36, Tryz.ntmps36
      go_wp2
      go_ret
      exact ⟨by simp only [resB, h4, h10]; rfl, rfl⟩
  · go_enter Tryz.func36, Tryz.ntmps36
    go_wp2
    go_ret
    exact ⟨by simp only [resB, h4]; rfl, rfl⟩
set_option maxHeartbeats 1000000 in
theorem lparam_in (i : Nat) (x : Int) (w : World) (hx : parL[i]? = some x) (ht : ParTab w) : Calls Tryz.prog 6 #[.int .i64 (i : Int)] w fun e w' => e = .returned (.tuple #[.int .i64 x, .bool true]) ∧ w' = w := by
  have hi := parL_lt hx
  have c := ht i x hx
  have j0 : (0 : Int) ≤ i := by omega
  have j1 : (i : Int) < 6 := by omega
  have q0 : decide ((i : Int) < 0) = false := by simp
  have q1 : decide ((6 : Int) ≤ i) = false := by simp; omega
  go_enter Tryz.func6, Tryz.ntmps6
  go_wp2
  exact bodyPost_ret (by simp [results, Tryz.results6, go_sem]) rfl ⟨rfl, rfl⟩
set_option maxHeartbeats 1000000 in
theorem lparam_out (r : Int) (w : World) (h : r < 0 ∨ 6 ≤ r) : Calls Tryz.prog 6 #[.int .i64 r] w fun e w' => e = .returned (.tuple #[.int .i64 0, .bool false]) ∧ w' = w := by
  by_cases h0 : r < 0
  · have q0 : decide (r < 0) = true := by simpa using h0
    clear h h0
    go_enter Tryz.func6, Tryz.ntmps6
    go_wp2
    exact bodyPost_ret (by simp [results, Tryz.results6, go_sem]) rfl ⟨rfl, rfl⟩
  · have q0 : decide (r < 0) = false := by simpa using h0
    have q1 : decide (6 ≤ r) = true := by simp; omega
    clear h h0
    go_enter Tryz.func6, Tryz.ntmps6
    go_wp2
    exact bodyPost_ret (by simp [results, Tryz.results6, go_sem]) rfl ⟨rfl, rfl⟩
/-- A kept location. -/
def keptB (r : Int) : Bool := r == 3 || r == 5 || decide (12 ≤ r)
theorem kept_eq (r : Int) : (r == 3 || (r == 5 || (r == 12 || (r == 13 || (r == 14 || (r == 15 || decide (16 ≤ r))))))) = keptB r := by
  unfold keptB
  rw [Bool.eq_iff_iff]
  simp
  omega

set_option maxHeartbeats 2000000 in
theorem lkept_any (r : Int) (w : World) : Calls Tryz.prog 10 #[.int .i64 r] w fun e w' => e = .returned (.bool (keptB r)) ∧ w' = w := by
  cases h3 : (r == 3) with
  | true =>
    rw [← kept_eq]
    go_enter Tryz.func10, Tryz.ntmps10
    go_wp2
    go_ret
    exact ⟨by simp only [h3, Bool.false_or, Bool.true_or]; rfl, rfl⟩
  | false =>
    cases h5 : (r == 5) with
    | true =>
      rw [← kept_eq]
      go_enter Tryz.func10, Tryz.ntmps10
      go_wp2
      go_ret
      exact ⟨by simp only [h3, h5, Bool.false_or, Bool.true_or]; rfl, rfl⟩
    | false =>
      cases h12 : (r == 12) with
      | true =>
        rw [← kept_eq]
        go_enter Tryz.func10, Tryz.ntmps10
        go_wp2
        go_ret
        exact ⟨by simp only [h3, h5, h12, Bool.false_or, Bool.true_or]; rfl, rfl⟩
      | false =>
        cases h13 : (r == 13) with
        | true =>
          rw [← kept_eq]
          go_enter Tryz.func10, Tryz.ntmps10
          go_wp2
          go_ret
          exact ⟨by simp only [h3, h5, h12, h13, Bool.false_or, Bool.true_or]; rfl, rfl⟩
        | false =>
          cases h14 : (r == 14) with
          | true =>
            rw [← kept_eq]
            go_enter Tryz.func10, Tryz.ntmps10
            go_wp2
            go_ret
            exact ⟨by simp only [h3, h5, h12, h13, h14, Bool.false_or, Bool.true_or]; rfl, rfl⟩
          | false =>
            cases h15 : (r == 15) with
            | true =>
              rw [← kept_eq]
              go_enter Tryz.func10, Tryz.ntmps10
              go_wp2
              go_ret
              exact ⟨by simp only [h3, h5, h12, h13, h14, h15, Bool.false_or, Bool.true_or]; rfl, rfl⟩
            | false =>
              rw [← kept_eq]
              go_enter Tryz.func10, Tryz.ntmps10
              go_wp2
              go_ret
              exact ⟨by simp only [h3, h5, h12, h13, h14, h15, Bool.false_or]; rfl, rfl⟩
set_option maxHeartbeats 1000000 in
theorem rkept_any (r : Int) (w : World) : Calls Tryz.prog 11 #[.int .i64 r] w fun e w' => e = .returned (.bool (keptB r)) ∧ w' = w := by
  cases h3 : (r == 3)
  · cases h5 : (r == 5)
    · go_enter Tryz.func11, Tryz.ntmps11
      go_wp2
      go_ret
      exact ⟨by simp only [keptB, h3, h5]; rfl, rfl⟩
    · go_enter Tryz.func11, Tryz.ntmps11
      go_wp2
      go_ret
      exact ⟨by simp only [keptB, h3, h5]; rfl, rfl⟩
  · go_enter Tryz.func11, Tryz.ntmps11
    go_wp2
    go_ret
    exact ⟨by simp only [keptB, h3]; rfl, rfl⟩

set_option maxHeartbeats 1000000 in
theorem rparam0 (w : World) : Calls Tryz.prog 7 #[.int .i64 0] w (retP (.int .i64 7) w) := by
  go_enter Tryz.func7, Tryz.ntmps7
  go_wp2
  go_ret
  exact ⟨rfl, (by repeat (first | with_reducible exact Below.refl _ _ | with_reducible refine bel_alloc ?_ _ | with_reducible refine bel_set ?_ (by first | exact Nat.le_refl _ | (simp; done) | (simp; omega)) _ | with_reducible refine Below.drew ?_ | refine bel_trans ?_ (by assumption)))⟩

set_option maxHeartbeats 1000000 in
theorem rparam1 (w : World) : Calls Tryz.prog 7 #[.int .i64 1] w (retP (.int .i64 6) w) := by
  go_enter Tryz.func7, Tryz.ntmps7
  go_wp2
  go_ret
  exact ⟨rfl, (by repeat (first | with_reducible exact Below.refl _ _ | with_reducible refine bel_alloc ?_ _ | with_reducible refine bel_set ?_ (by first | exact Nat.le_refl _ | (simp; done) | (simp; omega)) _ | with_reducible refine Below.drew ?_ | refine bel_trans ?_ (by assumption)))⟩

set_option maxHeartbeats 1000000 in
theorem rparam2 (w : World) : Calls Tryz.prog 7 #[.int .i64 2] w (retP (.int .i64 2) w) := by
  go_enter Tryz.func7, Tryz.ntmps7
  go_wp2
  go_ret
  exact ⟨rfl, (by repeat (first | with_reducible exact Below.refl _ _ | with_reducible refine bel_alloc ?_ _ | with_reducible refine bel_set ?_ (by first | exact Nat.le_refl _ | (simp; done) | (simp; omega)) _ | with_reducible refine Below.drew ?_ | refine bel_trans ?_ (by assumption)))⟩

set_option maxHeartbeats 1000000 in
theorem rparam3 (w : World) : Calls Tryz.prog 7 #[.int .i64 3] w (retP (.int .i64 1) w) := by
  go_enter Tryz.func7, Tryz.ntmps7
  go_wp2
  go_ret
  exact ⟨rfl, (by repeat (first | with_reducible exact Below.refl _ _ | with_reducible refine bel_alloc ?_ _ | with_reducible refine bel_set ?_ (by first | exact Nat.le_refl _ | (simp; done) | (simp; omega)) _ | with_reducible refine Below.drew ?_ | refine bel_trans ?_ (by assumption)))⟩

set_option maxHeartbeats 1000000 in
theorem rparam4 (w : World) : Calls Tryz.prog 7 #[.int .i64 4] w (retP (.int .i64 8) w) := by
  go_enter Tryz.func7, Tryz.ntmps7
  go_wp2
  go_ret
  exact ⟨rfl, (by repeat (first | with_reducible exact Below.refl _ _ | with_reducible refine bel_alloc ?_ _ | with_reducible refine bel_set ?_ (by first | exact Nat.le_refl _ | (simp; done) | (simp; omega)) _ | with_reducible refine Below.drew ?_ | refine bel_trans ?_ (by assumption)))⟩

set_option maxHeartbeats 1000000 in
theorem rparam5 (w : World) : Calls Tryz.prog 7 #[.int .i64 5] w (retP (.int .i64 9) w) := by
  go_enter Tryz.func7, Tryz.ntmps7
  go_wp2
  go_ret
  exact ⟨rfl, (by repeat (first | with_reducible exact Below.refl _ _ | with_reducible refine bel_alloc ?_ _ | with_reducible refine bel_set ?_ (by first | exact Nat.le_refl _ | (simp; done) | (simp; omega)) _ | with_reducible refine Below.drew ?_ | refine bel_trans ?_ (by assumption)))⟩

theorem rparam_in (i : Nat) (x : Int) (w : World) (hx : parL[i]? = some x) : Calls Tryz.prog 7 #[.int .i64 (i : Int)] w (retP (.int .i64 x) w) := by
  have hi := parL_lt hx
  match i, hi with
  | 0, _ => cases hx; exact rparam0 w
  | 1, _ => cases hx; exact rparam1 w
  | 2, _ => cases hx; exact rparam2 w
  | 3, _ => cases hx; exact rparam3 w
  | 4, _ => cases hx; exact rparam4 w
  | 5, _ => cases hx; exact rparam5 w
theorem parstep {l : List Int} {i : Nat} {x : Int} (hget : l[i]? = some x) (hf : parL[i]? = some x) (h : ∀ (j : Nat) y, j < i → l[j]? = some y → parL[j]? = some y) : ∀ (j : Nat) y, j < i + 1 → l[j]? = some y → parL[j]? = some y := fun j y hj hy => by
  by_cases e : j = i
  · subst e; rw [hget] at hy; cases hy; exact hf
  · exact h j y (by omega) hy
set_option maxHeartbeats 4000000 in
theorem areParams_walk (va : Option Addr) (n vc vb vo : Nat) (l : List Int) (r : Bool) (w : World) (hn : n * 8 ≤ 140737488355328) (HN : Hid (n = l.length)) (HA : Hid (0 < n → va = some ⟨vb, vo, none⟩)) (HC : Hid (∀ (i : Nat) x, l[i]? = some x → w.cell? ⟨vb, vo + i, none⟩ = some (.int .i64 x))) (HT : Hid (ParTab w)) (HE : Hid (r = firstF l)) :
    Calls Tryz.prog 26 #[.slice va n vc] w fun e w' => e = .returned (.bool r) ∧ w' = w := by
  have hnm : (n : Int) ≤ 9223372036854775807 := by omega
  have HB : Hid (∀ (i : Nat) x, l[i]? = some x → parL[i]? ≠ some x → r = false) := fun i x h1 h2 => by rw [HE.out, firstF_bad h1 h2]
  go_enter Tryz.func26, Tryz.ntmps26
  go_wp2
  go_loopw [9] (fun vv wz => ∃ i : Nat, i ≤ n ∧ vv = .int .i64 i ∧ Hid (∀ (j : Nat) y, j < i → l[j]? = some y → parL[j]? = some y) ∧ wz = w) (fun vv _ => n - (intOf vv).toNat)
  case atStart => exact ⟨0, by omega, rfl, fun j y hj => by omega, rfl⟩
  case round =>
    obtain ⟨i, hi, rfl, HI, rfl⟩ := hrel
    by_cases hin : i < n
    · obtain rfl := HA.out (by omega)
      have j0 : (0 : Int) ≤ i := by omega
      have j1 : (i : Int) < n := by omega
      have hget := List.getElem?_eq_getElem (l := l) (show i < l.length by rw [← HN.out]; exact hin)
      generalize l[i]'(by rw [← HN.out]; exact hin) = y at hget
      have cx := HC.out i y hget
      have HG := hid hget
      clear hget
      cases hp : parL[i]? with
      | none =>
        have HPO : Hid (∀ W, Calls Tryz.prog 6 #[.int .i64 (i : Int)] W fun e w' => e = .returned (.tuple #[.int .i64 0, .bool false]) ∧ w' = W) := fun W => lparam_out _ W (.inr (by have := List.getElem?_eq_none_iff.1 hp; simp [parL] at this; omega))
        have er := HB.out i y HG.out (by rw [hp]; simp)
        subst er
        go_wp2_with (go_at_call 6; refine (HPO.out _).mono ?_; rintro e w1 ⟨rfl, hw⟩; subst hw)
        go_ret
        exact ⟨rfl, rfl⟩
      | some x =>
        have HPO : Hid (∀ W, ParTab W → Calls Tryz.prog 6 #[.int .i64 (i : Int)] W fun e w' => e = .returned (.tuple #[.int .i64 x, .bool true]) ∧ w' = W) := fun W h => lparam_in i x W hp h
        by_cases hxy : y = x
        · subst hxy
          have qxy : (y != y) = false := by simp
          have qd : decide (y = y) = true := by simp
          have HI2 := hid (parstep HG.out hp HI.out)
          clear hp
          go_wp2_with (go_at_call 6; refine (HPO.out _ HT.out).mono ?_; rintro e w1 ⟨rfl, hw⟩; subst hw)
          go_roundw
          case rel => exact ⟨i + 1, by omega, by simp, HI2, trivial⟩
          case measure => simp [intOf]; omega
        · have qxy : (y != x) = true := by simpa using hxy
          have qd : decide (y = x) = false := by simpa using hxy
          have er := HB.out i y HG.out (by rw [hp]; intro e; cases e; exact hxy rfl)
          subst er
          clear hp hxy
          go_wp2_with (go_at_call 6; refine (HPO.out _ HT.out).mono ?_; rintro e w1 ⟨rfl, hw⟩; subst hw)
          go_ret
          exact ⟨rfl, rfl⟩
    · obtain rfl : n = i := by omega
      have er : r = true := by rw [HE.out]; exact firstF_iff.2 fun j y hy => HI.out j y (by have := (List.getElem?_eq_some_iff.1 hy).1; rw [HN.out]; exact this) hy
      subst er
      go_wp2
      go_ret
      exact ⟨rfl, rfl⟩
theorem areParams_any {w : World} {v : Value} {l : List Int} (h : IL w v l) (ht : ParTab w) : Calls Tryz.prog 26 #[v] w fun e w' => e = .returned (.bool (firstF l)) ∧ w' = w := by
  obtain ⟨va, vc, vb, vo, rfl, hl, ha, hc⟩ := h.parts
  exact areParams_walk va _ vc vb vo l _ w hl rfl ha hc ht rfl

set_option maxRecDepth 100000 in
set_option maxHeartbeats 8000000 in
theorem rfirst_walk (va : Option Addr) (n vc vb vo : Nat) (l : List Int) (r : Bool) (w : World) (hn : n * 8 ≤ 140737488355328) (HN : Hid (n = l.length)) (HA : Hid (0 < n → va = some ⟨vb, vo, none⟩)) (HC : Hid (∀ (i : Nat) x, l[i]? = some x → w.cell? ⟨vb, vo + i, none⟩ = some (.int .i64 x))) (HE : Hid (r = firstF l)) :
    Calls Tryz.prog 18 #[.slice va n vc] w (retP (.bool r) w) := by
  have hnm : (n : Int) ≤ 9223372036854775807 := by omega
  by_cases h6 : 6 < n
  · have q : decide ((6 : Int) < n) = true := by simp; omega
    have qn : decide (6 < n) = true := by simpa using h6
    have er : r = false := by rw [HE.out]; exact firstF_long (by rw [← HN.out]; exact h6)
    subst er
    clear h6
    go_enter Tryz.func18, Tryz.ntmps18
    go_wp2
    go_ret
    exact ⟨rfl, (by repeat (first | with_reducible exact Below.refl _ _ | with_reducible refine bel_alloc ?_ _ | with_reducible refine bel_set ?_ (by first | exact Nat.le_refl _ | (simp; done) | (simp; omega)) _ | with_reducible refine Below.drew ?_ | refine bel_trans ?_ (by assumption)))⟩
  have q : decide ((6 : Int) < n) = false := by simp; omega
  have qn : decide (6 < n) = false := by simpa using h6
  have H6 := hid h6
  clear h6
  have HB : Hid (∀ (i : Nat) x, l[i]? = some x → parL[i]? ≠ some x → r = false) := fun i x h1 h2 => by rw [HE.out, firstF_bad h1 h2]
  go_enter Tryz.func18, Tryz.ntmps18
  go_wp2
  go_loopw [3] (fun vv wz => ∃ i : Nat, i ≤ n ∧ vv = .int .i64 i ∧ Hid (∀ (j : Nat) y, j < i → l[j]? = some y → parL[j]? = some y) ∧ Hid (Below w.heap.size w wz)) (fun vv _ => n - (intOf vv).toNat)
  case atStart => exact ⟨0, by omega, rfl, fun j y hj => by omega, Below.refl _ _⟩
  case round =>
    obtain ⟨i, hi, rfl, HI, HBz⟩ := hrel
    rename World => wz
    by_cases hin : i < n
    · obtain rfl := HA.out (by omega)
      have j0 : (0 : Int) ≤ i := by omega
      have j1 : (i : Int) < n := by omega
      have hget := List.getElem?_eq_getElem (l := l) (show i < l.length by rw [← HN.out]; exact hin)
      generalize l[i]'(by rw [← HN.out]; exact hin) = y at hget
      have cx := keep_cell HBz.out (HC.out i y hget)
      have HG := hid hget
      clear hget
      obtain ⟨x, hp⟩ : ∃ x, parL[i]? = some x := ⟨_, List.getElem?_eq_getElem (by have := H6.out; simp [parL]; omega)⟩
      have HPO : Hid (∀ W, Calls Tryz.prog 7 #[.int .i64 (i : Int)] W (retP (.int .i64 x) W)) := fun W => rparam_in i x W hp
      have HP := hid hp
      clear hp
      go_wp2_with fail
      cases hxy : (y != x) with
      | false =>
        refine wp_region_held_drew (S := (fun w' => w'.cell? ⟨vb, vo + i, none⟩ = some (.int .i64 y) ∧ Hid (Below w.heap.size w w'))) (by kernel_rfl) (⟨by simpa using cx, hid (Below.drew HBz.out)⟩) (fun hHeld => ?_)
        refine wpAnyH_take (i := 0) (oi := ?oia0) (v := ?vva0) ?hia0 (by kernel_rfl) (by kernel_rfl) (by kernel_rfl) ?hqa0 ?hya0 hHeld ?_
        case hia0 => simp only [List.getElem?_toArray, List.getElem?_cons_succ, List.getElem?_cons_zero]; rfl
        case hqa0 => exact fun _ _ _ h => h
        case hya0 => (refine Or.inl ⟨by rfl, ?_⟩; intro w' hSw; (try dsimp only at hSw); go_simp; (try (with_reducible rfl)))
        simp only [Act.put, List.setIfInBounds_toArray, List.set_cons_zero, List.set_cons_succ]
        refine wpAnyH_take (i := 1) (oi := ?oia1) (v := ?vva1) ?hia1 (by kernel_rfl) (by kernel_rfl) (by kernel_rfl) ?hqa1 ?hya1 hHeld ?_
        case hia1 => simp only [List.getElem?_toArray, List.getElem?_cons_succ, List.getElem?_cons_zero]; rfl
        case hqa1 => exact fun _ _ _ h => h
        case hya1 => (refine Or.inl ⟨by rfl, ?_⟩; intro w' hSw; (try dsimp only at hSw); go_simp; (try (with_reducible rfl)))
        simp only [Act.put, List.setIfInBounds_toArray, List.set_cons_zero, List.set_cons_succ]
        refine wpAnyH_take (i := 2) (oi := ?oia2) (v := ?vva2) ?hia2 (by kernel_rfl) (by kernel_rfl) (by kernel_rfl) ?hqa2 ?hya2 hHeld ?_
        case hia2 => simp only [List.getElem?_toArray, List.getElem?_cons_succ, List.getElem?_cons_zero]; rfl
        case hqa2 => exact fun _ _ _ h => h
        case hya2 => (refine Or.inl ⟨by rfl, ?_⟩; intro w' hSw; (try dsimp only at hSw); go_simp; (try (with_reducible rfl)))
        simp only [Act.put, List.setIfInBounds_toArray, List.set_cons_zero, List.set_cons_succ]
        refine wpAnyH_take (i := 3) (oi := ?oia3) (v := ?vva3) ?hia3 (by kernel_rfl) (by kernel_rfl) (by kernel_rfl) ?hqa3 ?hya3 hHeld ?_
        case hia3 => simp only [List.getElem?_toArray, List.getElem?_cons_succ, List.getElem?_cons_zero]; rfl
        case hqa3 => exact fun _ _ _ h => h
        case hya3 => (refine Or.inl ⟨by rfl, ?_⟩; intro w' hSw; (try dsimp only at hSw); go_simp; (try (with_reducible rfl)))
        simp only [Act.put, List.setIfInBounds_toArray, List.set_cons_zero, List.set_cons_succ]
        refine wpAnyH_take (i := 4) (oi := ?oia4) (v := ?vva4) ?hia4 (by kernel_rfl) (by kernel_rfl) (by kernel_rfl) ?hqa4 ?hya4 hHeld ?_
        case hia4 => simp only [List.getElem?_toArray, List.getElem?_cons_succ, List.getElem?_cons_zero]; rfl
        case hqa4 => exact fun _ _ _ h => h
        case hya4 => (refine Or.inl ⟨by rfl, ?_⟩; intro w' hSw; (try dsimp only at hSw); go_simp; (try (with_reducible rfl)))
        simp only [Act.put, List.setIfInBounds_toArray, List.set_cons_zero, List.set_cons_succ]
        refine wpAnyH_ready (rs := [5]) (by kernel_rfl) (by simp) ?_
        refine AllReadyH.cons (o := ?oia5) ?hia5 (fun K hK => ?_) AllReadyH.nil
        case hia5 => simp only [List.getElem?_toArray, List.getElem?_cons_succ, List.getElem?_cons_zero]; rfl
        go_simp
        refine (HPO.out _).mono ?_
        rintro e v5 ⟨rfl, hb5⟩
        go_wp2_with fail
        refine hK.out _ _ (⟨keep_cell hb5 hHeld.1, hid (bel_trans hHeld.2.out hb5)⟩) (fun hN => ?_)
        clear hK K hHeld
        have hHeld := hN
        clear hN
        try simp only [Act.put, List.setIfInBounds_toArray, List.set_cons_zero, List.set_cons_succ]
        refine wpAnyH_take (i := 6) (oi := ?oia6) (v := ?vva6) ?hia6 (by kernel_rfl) (by kernel_rfl) (by kernel_rfl) ?hqa6 ?hya6 hHeld ?_
        case hia6 => simp only [List.getElem?_toArray, List.getElem?_cons_succ, List.getElem?_cons_zero]; rfl
        case hqa6 => exact fun _ _ _ h => h
        case hya6 => (refine Or.inl ⟨by rfl, ?_⟩; intro w' hSw; (try dsimp only at hSw); go_simp; (try (with_reducible rfl)))
        simp only [Act.put, List.setIfInBounds_toArray, List.set_cons_zero, List.set_cons_succ]
        refine wpAnyH_done (by kernel_rfl) ?_ _
        have HBx := hHeld.2
        clear hHeld
        have HI2 := hid (parstep HG.out (by have e : y = x := by simpa using hxy
                                            rw [e]; exact HP.out) HI.out)
        go_wp2
        go_roundw
        case rel => exact ⟨i + 1, by omega, by simp, HI2, HBx⟩
        case measure => simp [intOf]; omega
      | true =>
        have er := HB.out i y HG.out (by rw [HP.out]; intro e; cases e; simp at hxy)
        subst er
        refine wp_region_held_drew (S := (fun w' => w'.cell? ⟨vb, vo + i, none⟩ = some (.int .i64 y) ∧ Hid (Below w.heap.size w w'))) (by kernel_rfl) (⟨by simpa using cx, hid (Below.drew HBz.out)⟩) (fun hHeld => ?_)
        refine wpAnyH_take (i := 0) (oi := ?oib0) (v := ?vvb0) ?hib0 (by kernel_rfl) (by kernel_rfl) (by kernel_rfl) ?hqb0 ?hyb0 hHeld ?_
        case hib0 => simp only [List.getElem?_toArray, List.getElem?_cons_succ, List.getElem?_cons_zero]; rfl
        case hqb0 => exact fun _ _ _ h => h
        case hyb0 => (refine Or.inl ⟨by rfl, ?_⟩; intro w' hSw; (try dsimp only at hSw); go_simp; (try (with_reducible rfl)))
        simp only [Act.put, List.setIfInBounds_toArray, List.set_cons_zero, List.set_cons_succ]
        refine wpAnyH_take (i := 1) (oi := ?oib1) (v := ?vvb1) ?hib1 (by kernel_rfl) (by kernel_rfl) (by kernel_rfl) ?hqb1 ?hyb1 hHeld ?_
        case hib1 => simp only [List.getElem?_toArray, List.getElem?_cons_succ, List.getElem?_cons_zero]; rfl
        case hqb1 => exact fun _ _ _ h => h
        case hyb1 => (refine Or.inl ⟨by rfl, ?_⟩; intro w' hSw; (try dsimp only at hSw); go_simp; (try (with_reducible rfl)))
        simp only [Act.put, List.setIfInBounds_toArray, List.set_cons_zero, List.set_cons_succ]
        refine wpAnyH_take (i := 2) (oi := ?oib2) (v := ?vvb2) ?hib2 (by kernel_rfl) (by kernel_rfl) (by kernel_rfl) ?hqb2 ?hyb2 hHeld ?_
        case hib2 => simp only [List.getElem?_toArray, List.getElem?_cons_succ, List.getElem?_cons_zero]; rfl
        case hqb2 => exact fun _ _ _ h => h
        case hyb2 => (refine Or.inl ⟨by rfl, ?_⟩; intro w' hSw; (try dsimp only at hSw); go_simp; (try (with_reducible rfl)))
        simp only [Act.put, List.setIfInBounds_toArray, List.set_cons_zero, List.set_cons_succ]
        refine wpAnyH_take (i := 3) (oi := ?oib3) (v := ?vvb3) ?hib3 (by kernel_rfl) (by kernel_rfl) (by kernel_rfl) ?hqb3 ?hyb3 hHeld ?_
        case hib3 => simp only [List.getElem?_toArray, List.getElem?_cons_succ, List.getElem?_cons_zero]; rfl
        case hqb3 => exact fun _ _ _ h => h
        case hyb3 => (refine Or.inl ⟨by rfl, ?_⟩; intro w' hSw; (try dsimp only at hSw); go_simp; (try (with_reducible rfl)))
        simp only [Act.put, List.setIfInBounds_toArray, List.set_cons_zero, List.set_cons_succ]
        refine wpAnyH_take (i := 4) (oi := ?oib4) (v := ?vvb4) ?hib4 (by kernel_rfl) (by kernel_rfl) (by kernel_rfl) ?hqb4 ?hyb4 hHeld ?_
        case hib4 => simp only [List.getElem?_toArray, List.getElem?_cons_succ, List.getElem?_cons_zero]; rfl
        case hqb4 => exact fun _ _ _ h => h
        case hyb4 => (refine Or.inl ⟨by rfl, ?_⟩; intro w' hSw; (try dsimp only at hSw); go_simp; (try (with_reducible rfl)))
        simp only [Act.put, List.setIfInBounds_toArray, List.set_cons_zero, List.set_cons_succ]
        refine wpAnyH_ready (rs := [5]) (by kernel_rfl) (by simp) ?_
        refine AllReadyH.cons (o := ?oib5) ?hib5 (fun K hK => ?_) AllReadyH.nil
        case hib5 => simp only [List.getElem?_toArray, List.getElem?_cons_succ, List.getElem?_cons_zero]; rfl
        go_simp
        refine (HPO.out _).mono ?_
        rintro e v5 ⟨rfl, hb5⟩
        go_wp2_with fail
        refine hK.out _ _ (⟨keep_cell hb5 hHeld.1, hid (bel_trans hHeld.2.out hb5)⟩) (fun hN => ?_)
        clear hK K hHeld
        have hHeld := hN
        clear hN
        try simp only [Act.put, List.setIfInBounds_toArray, List.set_cons_zero, List.set_cons_succ]
        refine wpAnyH_take (i := 6) (oi := ?oib6) (v := ?vvb6) ?hib6 (by kernel_rfl) (by kernel_rfl) (by kernel_rfl) ?hqb6 ?hyb6 hHeld ?_
        case hib6 => simp only [List.getElem?_toArray, List.getElem?_cons_succ, List.getElem?_cons_zero]; rfl
        case hqb6 => exact fun _ _ _ h => h
        case hyb6 => (refine Or.inl ⟨by rfl, ?_⟩; intro w' hSw; (try dsimp only at hSw); go_simp; (try (with_reducible rfl)))
        simp only [Act.put, List.setIfInBounds_toArray, List.set_cons_zero, List.set_cons_succ]
        refine wpAnyH_done (by kernel_rfl) ?_ _
        have HBx := hHeld.2
        clear hHeld
        go_wp2
        go_ret
        exact ⟨rfl, HBx.out⟩
    · obtain rfl : n = i := by omega
      have er : r = true := by rw [HE.out]; exact firstF_iff.2 fun j y hy => HI.out j y (by have := (List.getElem?_eq_some_iff.1 hy).1; rw [HN.out]; exact this) hy
      subst er
      go_wp2
      go_ret
      exact ⟨rfl, HBz.out⟩
theorem rfirst_any {w : World} {v : Value} {l : List Int} (h : IL w v l) : Calls Tryz.prog 18 #[v] w (retP (.bool (firstF l)) w) := by
  obtain ⟨va, vc, vb, vo, rfl, hl, ha, hc⟩ := h.parts
  exact rfirst_walk va _ vc vb vo l _ w hl rfl ha hc rfl
end Go.Proofs.YthieicjnenlpfaaGreatDoor

