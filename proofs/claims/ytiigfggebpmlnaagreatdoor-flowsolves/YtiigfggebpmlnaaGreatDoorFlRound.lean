/- Package flow: one round of the search for the least numbers. -/
import Derived.Test.YtiigfggebpmlnaaGreatDoorFlPV
namespace Go.Proofs.YtiigfggebpmlnaaGreatDoor
open Go.ChangeShapes Go.WideShapes Go.ChangeAt Go.RowKit
set_option linter.unusedSimpArgs false
set_option linter.unusedVariables false

noncomputable def svRange : List (Array Tmp × Code × Code) := (Tryz.f15.body.map rangesOf).getD []
noncomputable def svAssign : Code := ((svRange[0]?).map (·.2.1)).getD .skip
noncomputable def svBody : Code := ((svRange[0]?).map (·.2.2)).getD .skip
attribute [local go_sem] Oper.semAt_some
set_option maxRecDepth 100000 in
set_option maxHeartbeats 4000000 in
theorem sv_round (l SB LX FX LB sb so sc n r y d : Nat) (v : Int) (fn : FuncId) (z0z z1z z2z z4z z5z z6z z7z z8z z9z z11z z12z z14z z15z z16z z17z z18z z19z z20z z21z z22z z23z z24z z25z z26z z27z z28z z29z z30z z31z z32z z33z z34z z35z z36z z37z z38z z39z z40z z41z z42z z43z z44z z45z z46z z47z z48z z49z z50z z51z z52z z53z z54z z55z z56z z57z z58z z59z z60z z61z z62z z63z z64z z65z z66z z67z z68z z69z z70z z71z z72z z73z z74z z75z z76z z77z z78z : Value) (W : World) (R : Ending → World → Prop)
    (hl : W.heap[l]? = some (.loop (loopRec fn #[z0z, z1z, z2z, .pointer (some ⟨SB, 0, none⟩), z4z, z5z, z6z, z7z, z8z, z9z, .pointer (some ⟨LX, 0, none⟩), z11z, z12z, .pointer (some ⟨FX, 0, none⟩), z14z, z15z, z16z, z17z, z18z, z19z, z20z, z21z, z22z, z23z, z24z, z25z, z26z, z27z, z28z, z29z, z30z, z31z, z32z, z33z, z34z, z35z, z36z, z37z, z38z, z39z, z40z, z41z, z42z, z43z, z44z, z45z, z46z, z47z, z48z, z49z, z50z, z51z, z52z, z53z, z54z, z55z, z56z, z57z, z58z, z59z, z60z, z61z, z62z, z63z, z64z, z65z, z66z, z67z, z68z, z69z, z70z, z71z, z72z, z73z, z74z, z75z, z76z, z77z, z78z] #[69] svAssign svBody d))) (h0 : W.cell? ⟨LX, 0, none⟩ = some (.slice (some ⟨LB, 0, none⟩) n n)) (h1 : W.cell? ⟨SB, 0, none⟩ = some (.slice (some ⟨sb, so, none⟩) n sc)) (h2 : W.cell? ⟨FX, 0, none⟩ = some (.int .i64 r)) (h3 : W.cell? ⟨sb, so + r, none⟩ = some (.int .i64 v))
    (u : Value) (h4 : W.cell? ⟨LB, y, none⟩ = some u) (z4 : W.frozen? ⟨LB, y, none⟩ = false) (r0 : (0 : Int) ≤ r) (r1 : (r : Int) < n) (y0 : (0 : Int) ≤ y) (y1 : (y : Int) < n) (NL : Hid (LX ≠ LB ∧ SB ≠ LB ∧ FX ≠ LB ∧ sb ≠ LB))
    (HT : Hid (∀ W' : World, (∀ k, k ≠ l → k ≠ LB → W'.heap[k]? = W.heap[k]?) → (∀ i w0, W.cell? ⟨LB, i, none⟩ = some w0 → W'.cell? ⟨LB, i, none⟩ = some (if i = y then .int .i64 v else w0)) → (∀ i, W.frozen? ⟨LB, i, none⟩ = false → W'.frozen? ⟨LB, i, none⟩ = false) → W'.heap[l]? = some (.loop (loopRec fn #[z0z, z1z, z2z, .pointer (some ⟨SB, 0, none⟩), z4z, z5z, z6z, z7z, z8z, z9z, .pointer (some ⟨LX, 0, none⟩), z11z, z12z, .pointer (some ⟨FX, 0, none⟩), z14z, z15z, z16z, z17z, z18z, z19z, z20z, z21z, z22z, z23z, z24z, z25z, z26z, z27z, z28z, z29z, z30z, z31z, z32z, z33z, z34z, z35z, z36z, z37z, z38z, z39z, z40z, z41z, z42z, z43z, z44z, z45z, z46z, z47z, z48z, z49z, z50z, z51z, z52z, z53z, z54z, z55z, z56z, z57z, z58z, z59z, z60z, z61z, z62z, z63z, z64z, z65z, z66z, z67z, z68z, z69z, z70z, z71z, z72z, z73z, z74z, z75z, z76z, z77z, z78z] #[69] svAssign svBody d)) → W'.heap.size = W.heap.size → W'.os = W.os → W'.tape = W.tape → W'.output = W.output → R (.returned (.bool true)) W')) :
    YieldAt Fence.wide 0 Tryz.prog l #[.int .i64 y] W R := by
  have n0 := cell_not_loop hl h0
  have n1 := cell_not_loop hl h1
  have n2 := cell_not_loop hl h2
  have n3 := cell_not_loop hl h3
  have n4 := cell_not_loop hl h4
  refine yield_round hl rfl rfl trivial ?_
  simp only [loopRec]
  conv => arg 4; whnf
  gi_wp2
  refine ⟨(by first | exact hl | rfl), ?_⟩
  conv => arg 4; whnf
  have ll : l < W.heap.size := (Array.getElem?_eq_some_iff.1 hl).1
  obtain ⟨W2, hW2⟩ : ∃ W2, W.putObj l (.loop { state := .busy, pending := none, fn := fn, tmps := #[z0z, z1z, z2z, .pointer (some ⟨SB, 0, none⟩), z4z, z5z, z6z, z7z, z8z, z9z, .pointer (some ⟨LX, 0, none⟩), z11z, z12z, .pointer (some ⟨FX, 0, none⟩), z14z, z15z, z16z, z17z, z18z, z19z, z20z, z21z, z22z, z23z, z24z, z25z, z26z, z27z, z28z, z29z, z30z, z31z, z32z, z33z, z34z, z35z, z36z, z37z, z38z, z39z, z40z, z41z, z42z, z43z, z44z, z45z, z46z, z47z, z48z, z49z, z50z, z51z, z52z, z53z, z54z, z55z, z56z, z57z, z58z, z59z, z60z, z61z, z62z, z63z, z64z, z65z, z66z, z67z, z68z, z69z, z70z, z71z, z72z, z73z, z74z, z75z, z76z, z77z, z78z], params := #[69], assign := svAssign, body := svBody, defers := d }) = W2 := ⟨_, rfl⟩
  have HO : Hid (∀ k, k ≠ l → W2.heap[k]? = W.heap[k]?) := fun k hk => by rw [← hW2]; exact put_other hk
  have HL : Hid (W2.heap[l]? = some (.loop { state := .busy, pending := none, fn := fn, tmps := #[z0z, z1z, z2z, .pointer (some ⟨SB, 0, none⟩), z4z, z5z, z6z, z7z, z8z, z9z, .pointer (some ⟨LX, 0, none⟩), z11z, z12z, .pointer (some ⟨FX, 0, none⟩), z14z, z15z, z16z, z17z, z18z, z19z, z20z, z21z, z22z, z23z, z24z, z25z, z26z, z27z, z28z, z29z, z30z, z31z, z32z, z33z, z34z, z35z, z36z, z37z, z38z, z39z, z40z, z41z, z42z, z43z, z44z, z45z, z46z, z47z, z48z, z49z, z50z, z51z, z52z, z53z, z54z, z55z, z56z, z57z, z58z, z59z, z60z, z61z, z62z, z63z, z64z, z65z, z66z, z67z, z68z, z69z, z70z, z71z, z72z, z73z, z74z, z75z, z76z, z77z, z78z], params := #[69], assign := svAssign, body := svBody, defers := d })) := by show _ = _; rw [← hW2]; exact World.putObj_heap_same ll
  have HS : Hid (W2.heap.size = W.heap.size ∧ W2.os = W.os ∧ W2.tape = W.tape ∧ W2.output = W.output) := by rw [← hW2]; exact ⟨World.putObj_size .., rfl, rfl, rfl⟩
  rw [hW2]
  clear hW2 hl
  replace h0 := (World.cell?_of_block (HO.out LX n0)).trans h0
  replace h1 := (World.cell?_of_block (HO.out SB n1)).trans h1
  replace h2 := (World.cell?_of_block (HO.out FX n2)).trans h2
  replace h3 := (World.cell?_of_block (HO.out sb n3)).trans h3
  replace h4 := (World.cell?_of_block (HO.out LB n4)).trans h4
  replace z4 := (World.frozen?_of_block (HO.out LB n4)).trans z4
  have HE : Hid (R (.returned (.bool true)) (((W2.setCell ⟨LB, y, none⟩ (.int .i64 v)).drew).putObj l (.loop { state := .ready, pending := none, fn := fn, tmps := #[z0z, z1z, z2z, .pointer (some ⟨SB, 0, none⟩), z4z, z5z, z6z, z7z, z8z, z9z, .pointer (some ⟨LX, 0, none⟩), z11z, z12z, .pointer (some ⟨FX, 0, none⟩), z14z, z15z, z16z, z17z, z18z, z19z, z20z, z21z, z22z, z23z, z24z, z25z, z26z, z27z, z28z, z29z, z30z, z31z, z32z, z33z, z34z, z35z, z36z, z37z, z38z, z39z, z40z, z41z, z42z, z43z, z44z, z45z, z46z, z47z, z48z, z49z, z50z, z51z, z52z, z53z, z54z, z55z, z56z, z57z, z58z, z59z, z60z, z61z, z62z, z63z, z64z, z65z, z66z, z67z, z68z, z69z, z70z, z71z, z72z, z73z, z74z, z75z, z76z, z77z, z78z], params := #[69], assign := svAssign, body := svBody, defers := d })) ∧ ((W2.setCell ⟨LB, y, none⟩ (.int .i64 v)).drew).heap[l]? = some (.loop { state := .busy, pending := none, fn := fn, tmps := #[z0z, z1z, z2z, .pointer (some ⟨SB, 0, none⟩), z4z, z5z, z6z, z7z, z8z, z9z, .pointer (some ⟨LX, 0, none⟩), z11z, z12z, .pointer (some ⟨FX, 0, none⟩), z14z, z15z, z16z, z17z, z18z, z19z, z20z, z21z, z22z, z23z, z24z, z25z, z26z, z27z, z28z, z29z, z30z, z31z, z32z, z33z, z34z, z35z, z36z, z37z, z38z, z39z, z40z, z41z, z42z, z43z, z44z, z45z, z46z, z47z, z48z, z49z, z50z, z51z, z52z, z53z, z54z, z55z, z56z, z57z, z58z, z59z, z60z, z61z, z62z, z63z, z64z, z65z, z66z, z67z, z68z, z69z, z70z, z71z, z72z, z73z, z74z, z75z, z76z, z77z, z78z], params := #[69], assign := svAssign, body := svBody, defers := d })) := by
    have e1 : ∀ k, k ≠ LB → ((W2.setCell ⟨LB, y, none⟩ (.int .i64 v)).drew).heap[k]? = W2.heap[k]? := fun k hk => gset_other hk
    have e2 : ((W2.setCell ⟨LB, y, none⟩ (.int .i64 v)).drew).heap.size = W.heap.size := by
      show (W2.setCell ⟨LB, y, none⟩ (.int .i64 v)).heap.size = _
      rw [gsize_set, HS.out.1]
    have e3 : ∀ i, ((((W2.setCell ⟨LB, y, none⟩ (.int .i64 v)).drew).putObj l (.loop { state := .ready, pending := none, fn := fn, tmps := #[z0z, z1z, z2z, .pointer (some ⟨SB, 0, none⟩), z4z, z5z, z6z, z7z, z8z, z9z, .pointer (some ⟨LX, 0, none⟩), z11z, z12z, .pointer (some ⟨FX, 0, none⟩), z14z, z15z, z16z, z17z, z18z, z19z, z20z, z21z, z22z, z23z, z24z, z25z, z26z, z27z, z28z, z29z, z30z, z31z, z32z, z33z, z34z, z35z, z36z, z37z, z38z, z39z, z40z, z41z, z42z, z43z, z44z, z45z, z46z, z47z, z48z, z49z, z50z, z51z, z52z, z53z, z54z, z55z, z56z, z57z, z58z, z59z, z60z, z61z, z62z, z63z, z64z, z65z, z66z, z67z, z68z, z69z, z70z, z71z, z72z, z73z, z74z, z75z, z76z, z77z, z78z], params := #[69], assign := svAssign, body := svBody, defers := d }))).cell? ⟨LB, i, none⟩ = (W2.setCell ⟨LB, y, none⟩ (.int .i64 v)).cell? ⟨LB, i, none⟩ := fun i => World.cell?_of_block (w := W2.setCell ⟨LB, y, none⟩ (.int .i64 v)) (put_other n4)
    have e4 : ∀ i, ((((W2.setCell ⟨LB, y, none⟩ (.int .i64 v)).drew).putObj l (.loop { state := .ready, pending := none, fn := fn, tmps := #[z0z, z1z, z2z, .pointer (some ⟨SB, 0, none⟩), z4z, z5z, z6z, z7z, z8z, z9z, .pointer (some ⟨LX, 0, none⟩), z11z, z12z, .pointer (some ⟨FX, 0, none⟩), z14z, z15z, z16z, z17z, z18z, z19z, z20z, z21z, z22z, z23z, z24z, z25z, z26z, z27z, z28z, z29z, z30z, z31z, z32z, z33z, z34z, z35z, z36z, z37z, z38z, z39z, z40z, z41z, z42z, z43z, z44z, z45z, z46z, z47z, z48z, z49z, z50z, z51z, z52z, z53z, z54z, z55z, z56z, z57z, z58z, z59z, z60z, z61z, z62z, z63z, z64z, z65z, z66z, z67z, z68z, z69z, z70z, z71z, z72z, z73z, z74z, z75z, z76z, z77z, z78z], params := #[69], assign := svAssign, body := svBody, defers := d }))).frozen? ⟨LB, i, none⟩ = (W2.setCell ⟨LB, y, none⟩ (.int .i64 v)).frozen? ⟨LB, i, none⟩ := fun i => World.frozen?_of_block (w := W2.setCell ⟨LB, y, none⟩ (.int .i64 v)) (put_other n4)
    refine ⟨HT.out _ (fun k hk hk1 => (put_other hk).trans ((e1 k hk1).trans (HO.out k hk))) (fun i w0 hw0 => ?_) (fun i hi => ?_) (World.putObj_heap_same (by rw [e2]; exact ll)) (by rw [World.putObj_size, e2]) HS.out.2.1 HS.out.2.2.1 HS.out.2.2.2, ?_⟩
    · rw [e3]
      by_cases e : i = y
      · subst e
        rw [if_pos rfl]
        exact World.cell?_setCell_same _ _ _ h4
      · rw [if_neg e, World.cell?_setCell_other _ _ _ _ (fun e2 => e (by cases e2; rfl))]
        exact (World.cell?_of_block (HO.out LB n4)).trans hw0
    · rw [e4, World.frozen?_setCell]
      exact (World.frozen?_of_block (HO.out LB n4)).trans hi
    · rw [e1 l (Ne.symm n4)]; exact HL.out
  gi_wp2
  refine wpIn_held_round (S := (fun w' => w'.cell? ⟨LX, 0, none⟩ = some (.slice (some ⟨LB, 0, none⟩) n n) ∧ w'.cell? ⟨SB, 0, none⟩ = some (.slice (some ⟨sb, so, none⟩) n sc) ∧ w'.cell? ⟨FX, 0, none⟩ = some (.int .i64 r) ∧ w'.cell? ⟨sb, so + r, none⟩ = some (.int .i64 v))) (by rintro ⟨a, w, h⟩; exact h) (by kernel_rfl) (by kernel_rfl) (⟨h0, h1, h2, h3⟩) (fun hHeld => ?_)
  refine wpAnyH_take (i := 0) (oi := ?oiC1x1x0) (v := ?vvC1x1x0) ?hiC1x1x0 (by kernel_rfl) (by kernel_rfl) (by kernel_rfl) ?hqC1x1x0 ?hyC1x1x0 hHeld ?_
  case hiC1x1x0 => simp only [List.getElem?_toArray, List.getElem?_cons_succ, List.getElem?_cons_zero]; rfl
  case hqC1x1x0 => exact fun _ _ _ h => h
  case hyC1x1x0 => (refine Or.inl ⟨by rfl, ?_⟩; intro w' hSw; (try dsimp only at hSw); go_simp; (try (with_reducible rfl)))
  simp only [Act.put, List.setIfInBounds_toArray, List.set_cons_zero, List.set_cons_succ]
  refine wpAnyH_take (i := 1) (oi := ?oiC1x2x1) (v := ?vvC1x2x1) ?hiC1x2x1 (by kernel_rfl) (by kernel_rfl) (by kernel_rfl) ?hqC1x2x1 ?hyC1x2x1 hHeld ?_
  case hiC1x2x1 => simp only [List.getElem?_toArray, List.getElem?_cons_succ, List.getElem?_cons_zero]; rfl
  case hqC1x2x1 => exact fun _ _ _ h => h
  case hyC1x2x1 => (refine Or.inl ⟨by rfl, ?_⟩; intro w' hSw; (try dsimp only at hSw); go_simp; (try (with_reducible rfl)))
  simp only [Act.put, List.setIfInBounds_toArray, List.set_cons_zero, List.set_cons_succ]
  refine wpAnyH_take (i := 2) (oi := ?oiC1x3x2) (v := ?vvC1x3x2) ?hiC1x3x2 (by kernel_rfl) (by kernel_rfl) (by kernel_rfl) ?hqC1x3x2 ?hyC1x3x2 hHeld ?_
  case hiC1x3x2 => simp only [List.getElem?_toArray, List.getElem?_cons_succ, List.getElem?_cons_zero]; rfl
  case hqC1x3x2 => exact fun _ _ _ h => h
  case hyC1x3x2 => (refine Or.inl ⟨by rfl, ?_⟩; intro w' hSw; (try dsimp only at hSw); go_simp; (try (with_reducible rfl)))
  simp only [Act.put, List.setIfInBounds_toArray, List.set_cons_zero, List.set_cons_succ]
  refine wpAnyH_take (i := 3) (oi := ?oiC1x4x3) (v := ?vvC1x4x3) ?hiC1x4x3 (by kernel_rfl) (by kernel_rfl) (by kernel_rfl) ?hqC1x4x3 ?hyC1x4x3 hHeld ?_
  case hiC1x4x3 => simp only [List.getElem?_toArray, List.getElem?_cons_succ, List.getElem?_cons_zero]; rfl
  case hqC1x4x3 => exact fun _ _ _ h => h
  case hyC1x4x3 => (refine Or.inl ⟨by rfl, ?_⟩; intro w' hSw; (try dsimp only at hSw); go_simp; (try (with_reducible rfl)))
  simp only [Act.put, List.setIfInBounds_toArray, List.set_cons_zero, List.set_cons_succ]
  refine wpAnyH_take (i := 4) (oi := ?oiC1x5x4) (v := ?vvC1x5x4) ?hiC1x5x4 (by kernel_rfl) (by kernel_rfl) (by kernel_rfl) ?hqC1x5x4 ?hyC1x5x4 hHeld ?_
  case hiC1x5x4 => simp only [List.getElem?_toArray, List.getElem?_cons_succ, List.getElem?_cons_zero]; rfl
  case hqC1x5x4 => exact fun _ _ _ h => h
  case hyC1x5x4 => (refine Or.inl ⟨by rfl, ?_⟩; intro w' hSw; (try dsimp only at hSw); go_simp; (try (with_reducible rfl)))
  simp only [Act.put, List.setIfInBounds_toArray, List.set_cons_zero, List.set_cons_succ]
  refine wpAnyH_take (i := 5) (oi := ?oiC1x6x5) (v := ?vvC1x6x5) ?hiC1x6x5 (by kernel_rfl) (by kernel_rfl) (by kernel_rfl) ?hqC1x6x5 ?hyC1x6x5 hHeld ?_
  case hiC1x6x5 => simp only [List.getElem?_toArray, List.getElem?_cons_succ, List.getElem?_cons_zero]; rfl
  case hqC1x6x5 => exact fun _ _ _ h => h
  case hyC1x6x5 => (refine Or.inl ⟨by rfl, ?_⟩; intro w' hSw; (try dsimp only at hSw); go_simp; (try (with_reducible rfl)))
  simp only [Act.put, List.setIfInBounds_toArray, List.set_cons_zero, List.set_cons_succ]
  refine wpAnyH_take (i := 6) (oi := ?oiC1x7x6) (v := ?vvC1x7x6) ?hiC1x7x6 (by kernel_rfl) (by kernel_rfl) (by kernel_rfl) ?hqC1x7x6 ?hyC1x7x6 hHeld ?_
  case hiC1x7x6 => simp only [List.getElem?_toArray, List.getElem?_cons_succ, List.getElem?_cons_zero]; rfl
  case hqC1x7x6 => exact fun _ _ _ h => h
  case hyC1x7x6 => (refine Or.inl ⟨by rfl, ?_⟩; intro w' hSw; (try dsimp only at hSw); go_simp; (try (with_reducible rfl)))
  simp only [Act.put, List.setIfInBounds_toArray, List.set_cons_zero, List.set_cons_succ]
  refine wpAnyH_ready (rs := [7]) (by kernel_rfl) (by simp) ?_
  refine (AllReadyH.cons (o := ?oiC1x8x7) ?hiC1x8x7 (fun K hK => ?gC1x8x7) AllReadyH.nil)
  case hiC1x8x7 => simp only [List.getElem?_toArray, List.getElem?_cons_succ, List.getElem?_cons_zero]; rfl
  case gC1x8x7 =>
    go_simp
    refine hK.out _ _ (⟨keep_set hHeld.1 NL.out.1, keep_set hHeld.2.1 NL.out.2.1, keep_set hHeld.2.2.1 NL.out.2.2.1, keep_set hHeld.2.2.2 NL.out.2.2.2⟩) (fun hN => ?_)
    clear hK K hHeld
    have hHeld := hN
    clear hN
    try simp only [Act.put, List.setIfInBounds_toArray, List.set_cons_zero, List.set_cons_succ]
    refine wpAnyH_done (by kernel_rfl) ?_ _
    exact ⟨HE.out.2, HE.out.1⟩
end Go.Proofs.YtiigfggebpmlnaaGreatDoor

