
import Derived.Test.YtncondlfngeilaaGreatDoorTzA
import Derived.Test.YtncondlfngeilaaGreatDoorGIter3
namespace Go.Proofs.YtncondlfngeilaaGreatDoor
open Go.ChangeShapes Go.WideShapes Go.ChangeAt Go.RowKit Go.Proofs.Tryz
set_option linter.unusedSimpArgs false
set_option linter.unusedVariables false
set_option maxRecDepth 100000
set_option maxHeartbeats 4000000

attribute [local go_sem] Oper.semAt_some
def rangesOf : Code → List (Array Tmp × Code × Code)
 | .rangeFunc _ ps a b => [(ps, a, b)]
 | .seq a b => rangesOf a ++ rangesOf b
 | .block _ c => rangesOf c
 | .scope c => rangesOf c
 | .loop c => rangesOf c
 | .cond _ a b => rangesOf a ++ rangesOf b
 | _ => []
noncomputable def tkRanges : List (Array Tmp × Code × Code) := (Tryz.f57.body.map rangesOf).getD []
noncomputable def tkAssign (i : Nat) : Code := ((tkRanges[i]?).map (·.2.1)).getD .skip
noncomputable def tkBody (i : Nat) : Code := ((tkRanges[i]?).map (·.2.2)).getD .skip
theorem gset_other {w : World} {b b' o : Nat} {v : Value} (h : b ≠ b') : (w.setCell ⟨b', o, none⟩ v).heap[b]? = w.heap[b]? := Below.heap_setCell w ⟨b', o, none⟩ v b h
theorem gsize_set (w : World) (p : Addr) (u : Value) : (w.setCell p u).heap.size = w.heap.size := by simp [World.setCell]
theorem put_other {W : World} {l k : Nat} {o : Obj} (h : k ≠ l) : (W.putObj l o).heap[k]? = W.heap[k]? := World.putObj_heap_other h
theorem cell_not_loop {W : World} {b o l : Nat} {r : Loop} {v : Value} (hl : W.heap[l]? = some (.loop r)) (hc : W.cell? ⟨b, o, none⟩ = some v) : b ≠ l := by
 rintro rfl;simp [World.cell?, hl] at hc

theorem tk_round0 (l B0 B1 fb fo d : Nat) (fn : FuncId) (regs y : Int) (z0z z1z z3z z5z z6z z7z z8z z9z z10z z11z z12z z13z z14z z15z z16z z17z z18z z19z z20z z21z z22z z23z z24z z25z z26z z27z z28z z29z z30z z31z z32z z33z z34z z35z z36z z37z z38z z39z z40z z41z z42z z43z z44z z45z z46z z47z z48z z49z z50z z51z z52z z53z z54z z55z z56z z57z z58z z59z z60z z61z z62z z63z z64z z65z z66z z67z z68z z69z z70z z71z z72z z73z : Value) (W : World) (R : Ending → World → Prop)
  (hl : W.heap[l]? = some (.loop (loopRec fn #[z0z, z1z, .pointer (some ⟨B0, 0, none⟩), z3z, .pointer (some ⟨B1, 0, none⟩), z5z, z6z, z7z, z8z, z9z, z10z, z11z, z12z, z13z, z14z, z15z, z16z, z17z, z18z, z19z, z20z, z21z, z22z, z23z, z24z, z25z, z26z, z27z, z28z, z29z, z30z, z31z, z32z, z33z, z34z, z35z, z36z, z37z, z38z, z39z, z40z, z41z, z42z, z43z, z44z, z45z, z46z, z47z, z48z, z49z, z50z, z51z, z52z, z53z, z54z, z55z, z56z, z57z, z58z, z59z, z60z, z61z, z62z, z63z, z64z, z65z, z66z, z67z, z68z, z69z, z70z, z71z, z72z, z73z] #[25] (tkAssign 0) (tkBody 0) d))) (h0 : W.cell? ⟨B0, 0, none⟩ = some (.pointer (some ⟨fb, fo, none⟩))) (h1 : W.cell? ⟨B1, 0, none⟩ = some (.bool false)) (z1 : W.frozen? ⟨B1, 0, none⟩ = false) (k2 : W.cell? ⟨fb, fo + 2, none⟩ = some (.int .i64 regs)) (r0 : -9223372036854775808 < regs) (r1 : regs ≤ 9223372036854775807)
  (HT : Hid (inB regs y = true → ∀ W' : World, (∀ k, k ≠ l → W'.heap[k]? = W.heap[k]?) → W'.heap[l]? = some (.loop (loopRec fn #[z0z, z1z, .pointer (some ⟨B0, 0, none⟩), z3z, .pointer (some ⟨B1, 0, none⟩), z5z, z6z, z7z, z8z, z9z, z10z, z11z, z12z, z13z, z14z, z15z, z16z, z17z, z18z, z19z, z20z, z21z, z22z, z23z, z24z, z25z, z26z, z27z, z28z, z29z, z30z, z31z, z32z, z33z, z34z, z35z, z36z, z37z, z38z, z39z, z40z, z41z, z42z, z43z, z44z, z45z, z46z, z47z, z48z, z49z, z50z, z51z, z52z, z53z, z54z, z55z, z56z, z57z, z58z, z59z, z60z, z61z, z62z, z63z, z64z, z65z, z66z, z67z, z68z, z69z, z70z, z71z, z72z, z73z] #[25] (tkAssign 0) (tkBody 0) d)) → W'.heap.size = W.heap.size → W'.os = W.os → W'.tape = W.tape → W'.output = W.output → R (.returned (.bool true)) W'))
  (HF : Hid (inB regs y = false → ∀ W' : World, (∀ k, k ≠ l → k ≠ B1 → W'.heap[k]? = W.heap[k]?) → W'.cell? ⟨B1, 0, none⟩ = some (.bool false) → W'.heap[l]? = some (.loop { state := .done, pending := some .ret, fn := fn, tmps := #[z0z, z1z, .pointer (some ⟨B0, 0, none⟩), z3z, .pointer (some ⟨B1, 0, none⟩), z5z, z6z, z7z, z8z, z9z, z10z, z11z, z12z, z13z, z14z, z15z, z16z, z17z, z18z, z19z, z20z, z21z, z22z, z23z, z24z, z25z, z26z, z27z, z28z, z29z, z30z, z31z, z32z, z33z, z34z, z35z, z36z, z37z, z38z, z39z, z40z, z41z, z42z, z43z, z44z, z45z, z46z, z47z, z48z, z49z, z50z, z51z, z52z, z53z, z54z, z55z, z56z, z57z, z58z, z59z, z60z, z61z, z62z, z63z, z64z, z65z, z66z, z67z, z68z, z69z, z70z, z71z, z72z, z73z], params := #[25], assign := tkAssign 0, body := tkBody 0, defers := d }) → W'.heap.size = W.heap.size → W'.os = W.os → W'.tape = W.tape → W'.output = W.output → R (.returned (.bool false)) W')) :
  YieldAt Fence.wide 0 prog l #[.int .i64 y] W R := by
 have n0 := cell_not_loop hl h0;have n1 := cell_not_loop hl h1;have n2 := cell_not_loop hl k2;refine yield_round hl rfl rfl trivial ?_;simp only [loopRec]
 conv => arg 4; whnf
 gi_wp2
 refine ⟨(by first | exact hl | rfl), ?_⟩
 conv => arg 4; whnf
 have ll : l < W.heap.size := (zge hl).1;obtain ⟨W2, hW2⟩ : ∃ W2, W.putObj l (.loop { state := .busy, pending := none, fn := fn, tmps := #[z0z, z1z, .pointer (some ⟨B0, 0, none⟩), z3z, .pointer (some ⟨B1, 0, none⟩), z5z, z6z, z7z, z8z, z9z, z10z, z11z, z12z, z13z, z14z, z15z, z16z, z17z, z18z, z19z, z20z, z21z, z22z, z23z, z24z, z25z, z26z, z27z, z28z, z29z, z30z, z31z, z32z, z33z, z34z, z35z, z36z, z37z, z38z, z39z, z40z, z41z, z42z, z43z, z44z, z45z, z46z, z47z, z48z, z49z, z50z, z51z, z52z, z53z, z54z, z55z, z56z, z57z, z58z, z59z, z60z, z61z, z62z, z63z, z64z, z65z, z66z, z67z, z68z, z69z, z70z, z71z, z72z, z73z], params := #[25], assign := tkAssign 0, body := tkBody 0, defers := d }) = W2 := ⟨_, rfl⟩;have HO : Hid (∀ k, k ≠ l → W2.heap[k]? = W.heap[k]?) := fun k hk => by rw [← hW2]; exact put_other hk
 have HL : Hid (W2.heap[l]? = some (.loop { state := .busy, pending := none, fn := fn, tmps := #[z0z, z1z, .pointer (some ⟨B0, 0, none⟩), z3z, .pointer (some ⟨B1, 0, none⟩), z5z, z6z, z7z, z8z, z9z, z10z, z11z, z12z, z13z, z14z, z15z, z16z, z17z, z18z, z19z, z20z, z21z, z22z, z23z, z24z, z25z, z26z, z27z, z28z, z29z, z30z, z31z, z32z, z33z, z34z, z35z, z36z, z37z, z38z, z39z, z40z, z41z, z42z, z43z, z44z, z45z, z46z, z47z, z48z, z49z, z50z, z51z, z52z, z53z, z54z, z55z, z56z, z57z, z58z, z59z, z60z, z61z, z62z, z63z, z64z, z65z, z66z, z67z, z68z, z69z, z70z, z71z, z72z, z73z], params := #[25], assign := tkAssign 0, body := tkBody 0, defers := d })) := by show _ = _; rw [← hW2]; exact World.putObj_heap_same ll
 have HS : Hid (W2.heap.size = W.heap.size ∧ W2.os = W.os ∧ W2.tape = W.tape ∧ W2.output = W.output) := by rw [← hW2]; exact ⟨World.putObj_size .., rfl, rfl, rfl⟩
 rw [hW2];clear hW2 hl;replace h0 : W2.cell? ⟨B0, 0, none⟩ = some (.pointer (some ⟨fb, fo, none⟩)) := (World.cell?_of_block (HO.out B0 n0)).trans h0;replace h1 : W2.cell? ⟨B1, 0, none⟩ = some (.bool false) := (World.cell?_of_block (HO.out B1 n1)).trans h1;replace z1 : W2.frozen? ⟨B1, 0, none⟩ = false := (World.frozen?_of_block (HO.out B1 n1)).trans z1;replace k2 := (World.cell?_of_block (HO.out fb n2)).trans k2;have HX : Hid (∀ m, CallsIn (Fence.wide.inRound l) m prog 94 #[.pointer (some ⟨fb, fo, none⟩), .int .i64 y] W2 fun e w' => e = .returned (.bool (inB regs y)) ∧ w' = W2) := fun m => CallsIn.inRound l (callsIn_wide.2 (hasRegister_any fb fo regs y W2 k2 r0 r1));clear k2 r1 r0
 cases hq : inB regs y with
 | true =>
  rw [hq] at HX
  gi_wp2
  refine ⟨trivial, rfl, (HX.out _).mono ?_⟩;rintro e wr ⟨rfl, hwr⟩;subst hwr
  gi_wp2
  refine ⟨HL.out, HT.out hq _ (fun k hk => (put_other hk).trans (HO.out k hk)) (World.putObj_heap_same (by rw [HS.out.1]; exact ll)) (by rw [World.putObj_size, HS.out.1]) HS.out.2.1 HS.out.2.2.1 HS.out.2.2.2⟩
 | false =>
  rw [hq] at HX
  gi_wp2
  refine ⟨trivial, rfl, (HX.out _).mono ?_⟩;rintro e wr ⟨rfl, hwr⟩;subst hwr
  gi_wp2
  refine ⟨?_, HF.out hq _ (fun k hk hk1 => (put_other hk).trans ((gset_other hk1).trans (HO.out k hk))) ?_ (World.putObj_heap_same (by rw [gsize_set, HS.out.1]; exact ll)) (by rw [World.putObj_size, gsize_set, HS.out.1]) HS.out.2.1 HS.out.2.2.1 HS.out.2.2.2⟩
  ·rw [gset_other (Ne.symm n1)]; exact HL.out
  ·rw [World.cell?_of_block (put_other n1)]; go_simp

theorem tk_round1 (l B0 B1 fb fo d : Nat) (fn : FuncId) (n cap : Nat) (ca : Option Addr) (y : Int) (z0z z1z z3z z5z z6z z7z z8z z9z z10z z11z z12z z13z z14z z15z z16z z17z z18z z19z z20z z21z z22z z23z z24z z25z z26z z27z z28z z29z z30z z31z z32z z33z z34z z35z z36z z37z z38z z39z z40z z41z z42z z43z z44z z45z z46z z47z z48z z49z z50z z51z z52z z53z z54z z55z z56z z57z z58z z59z z60z z61z z62z z63z z64z z65z z66z z67z z68z z69z z70z z71z z72z z73z : Value) (W : World) (R : Ending → World → Prop)
  (hl : W.heap[l]? = some (.loop (loopRec fn #[z0z, z1z, .pointer (some ⟨B0, 0, none⟩), z3z, .pointer (some ⟨B1, 0, none⟩), z5z, z6z, z7z, z8z, z9z, z10z, z11z, z12z, z13z, z14z, z15z, z16z, z17z, z18z, z19z, z20z, z21z, z22z, z23z, z24z, z25z, z26z, z27z, z28z, z29z, z30z, z31z, z32z, z33z, z34z, z35z, z36z, z37z, z38z, z39z, z40z, z41z, z42z, z43z, z44z, z45z, z46z, z47z, z48z, z49z, z50z, z51z, z52z, z53z, z54z, z55z, z56z, z57z, z58z, z59z, z60z, z61z, z62z, z63z, z64z, z65z, z66z, z67z, z68z, z69z, z70z, z71z, z72z, z73z] #[34] (tkAssign 1) (tkBody 1) d))) (h0 : W.cell? ⟨B0, 0, none⟩ = some (.pointer (some ⟨fb, fo, none⟩))) (h1 : W.cell? ⟨B1, 0, none⟩ = some (.bool false)) (z1 : W.frozen? ⟨B1, 0, none⟩ = false) (k2 : W.cell? ⟨fb, fo + 5, none⟩ = some (.slice ca n cap)) (r1 : (n : Int) ≤ 9223372036854775807)
  (HT : Hid (inB (n : Int) y = true → ∀ W' : World, (∀ k, k ≠ l → W'.heap[k]? = W.heap[k]?) → W'.heap[l]? = some (.loop (loopRec fn #[z0z, z1z, .pointer (some ⟨B0, 0, none⟩), z3z, .pointer (some ⟨B1, 0, none⟩), z5z, z6z, z7z, z8z, z9z, z10z, z11z, z12z, z13z, z14z, z15z, z16z, z17z, z18z, z19z, z20z, z21z, z22z, z23z, z24z, z25z, z26z, z27z, z28z, z29z, z30z, z31z, z32z, z33z, z34z, z35z, z36z, z37z, z38z, z39z, z40z, z41z, z42z, z43z, z44z, z45z, z46z, z47z, z48z, z49z, z50z, z51z, z52z, z53z, z54z, z55z, z56z, z57z, z58z, z59z, z60z, z61z, z62z, z63z, z64z, z65z, z66z, z67z, z68z, z69z, z70z, z71z, z72z, z73z] #[34] (tkAssign 1) (tkBody 1) d)) → W'.heap.size = W.heap.size → W'.os = W.os → W'.tape = W.tape → W'.output = W.output → R (.returned (.bool true)) W'))
  (HF : Hid (inB (n : Int) y = false → ∀ W' : World, (∀ k, k ≠ l → k ≠ B1 → W'.heap[k]? = W.heap[k]?) → W'.cell? ⟨B1, 0, none⟩ = some (.bool false) → W'.heap[l]? = some (.loop { state := .done, pending := some .ret, fn := fn, tmps := #[z0z, z1z, .pointer (some ⟨B0, 0, none⟩), z3z, .pointer (some ⟨B1, 0, none⟩), z5z, z6z, z7z, z8z, z9z, z10z, z11z, z12z, z13z, z14z, z15z, z16z, z17z, z18z, z19z, z20z, z21z, z22z, z23z, z24z, z25z, z26z, z27z, z28z, z29z, z30z, z31z, z32z, z33z, z34z, z35z, z36z, z37z, z38z, z39z, z40z, z41z, z42z, z43z, z44z, z45z, z46z, z47z, z48z, z49z, z50z, z51z, z52z, z53z, z54z, z55z, z56z, z57z, z58z, z59z, z60z, z61z, z62z, z63z, z64z, z65z, z66z, z67z, z68z, z69z, z70z, z71z, z72z, z73z], params := #[34], assign := tkAssign 1, body := tkBody 1, defers := d }) → W'.heap.size = W.heap.size → W'.os = W.os → W'.tape = W.tape → W'.output = W.output → R (.returned (.bool false)) W')) :
  YieldAt Fence.wide 0 prog l #[.int .i64 y] W R := by
 have n0 := cell_not_loop hl h0;have n1 := cell_not_loop hl h1;have n2 := cell_not_loop hl k2;refine yield_round hl rfl rfl trivial ?_;simp only [loopRec]
 conv => arg 4; whnf
 gi_wp2
 refine ⟨(by first | exact hl | rfl), ?_⟩
 conv => arg 4; whnf
 have ll : l < W.heap.size := (zge hl).1;obtain ⟨W2, hW2⟩ : ∃ W2, W.putObj l (.loop { state := .busy, pending := none, fn := fn, tmps := #[z0z, z1z, .pointer (some ⟨B0, 0, none⟩), z3z, .pointer (some ⟨B1, 0, none⟩), z5z, z6z, z7z, z8z, z9z, z10z, z11z, z12z, z13z, z14z, z15z, z16z, z17z, z18z, z19z, z20z, z21z, z22z, z23z, z24z, z25z, z26z, z27z, z28z, z29z, z30z, z31z, z32z, z33z, z34z, z35z, z36z, z37z, z38z, z39z, z40z, z41z, z42z, z43z, z44z, z45z, z46z, z47z, z48z, z49z, z50z, z51z, z52z, z53z, z54z, z55z, z56z, z57z, z58z, z59z, z60z, z61z, z62z, z63z, z64z, z65z, z66z, z67z, z68z, z69z, z70z, z71z, z72z, z73z], params := #[34], assign := tkAssign 1, body := tkBody 1, defers := d }) = W2 := ⟨_, rfl⟩;have HO : Hid (∀ k, k ≠ l → W2.heap[k]? = W.heap[k]?) := fun k hk => by rw [← hW2]; exact put_other hk
 have HL : Hid (W2.heap[l]? = some (.loop { state := .busy, pending := none, fn := fn, tmps := #[z0z, z1z, .pointer (some ⟨B0, 0, none⟩), z3z, .pointer (some ⟨B1, 0, none⟩), z5z, z6z, z7z, z8z, z9z, z10z, z11z, z12z, z13z, z14z, z15z, z16z, z17z, z18z, z19z, z20z, z21z, z22z, z23z, z24z, z25z, z26z, z27z, z28z, z29z, z30z, z31z, z32z, z33z, z34z, z35z, z36z, z37z, z38z, z39z, z40z, z41z, z42z, z43z, z44z, z45z, z46z, z47z, z48z, z49z, z50z, z51z, z52z, z53z, z54z, z55z, z56z, z57z, z58z, z59z, z60z, z61z, z62z, z63z, z64z, z65z, z66z, z67z, z68z, z69z, z70z, z71z, z72z, z73z], params := #[34], assign := tkAssign 1, body := tkBody 1, defers := d })) := by show _ = _; rw [← hW2]; exact World.putObj_heap_same ll
 have HS : Hid (W2.heap.size = W.heap.size ∧ W2.os = W.os ∧ W2.tape = W.tape ∧ W2.output = W.output) := by rw [← hW2]; exact ⟨World.putObj_size .., rfl, rfl, rfl⟩
 rw [hW2];clear hW2 hl;replace h0 : W2.cell? ⟨B0, 0, none⟩ = some (.pointer (some ⟨fb, fo, none⟩)) := (World.cell?_of_block (HO.out B0 n0)).trans h0;replace h1 : W2.cell? ⟨B1, 0, none⟩ = some (.bool false) := (World.cell?_of_block (HO.out B1 n1)).trans h1;replace z1 : W2.frozen? ⟨B1, 0, none⟩ = false := (World.frozen?_of_block (HO.out B1 n1)).trans z1;replace k2 := (World.cell?_of_block (HO.out fb n2)).trans k2;have HX : Hid (∀ m, CallsIn (Fence.wide.inRound l) m prog 55 #[.pointer (some ⟨fb, fo, none⟩), .int .i64 y] W2 fun e w' => e = .returned (.bool (inB (n : Int) y)) ∧ w' = W2) := fun m => CallsIn.inRound l (callsIn_wide.2 (hasNode_any fb fo n cap ca y W2 k2 r1));clear k2 r1 
 cases hq : inB (n : Int) y with
 | true =>
  rw [hq] at HX
  gi_wp2
  refine ⟨trivial, rfl, (HX.out _).mono ?_⟩;rintro e wr ⟨rfl, hwr⟩;subst hwr
  gi_wp2
  refine ⟨HL.out, HT.out hq _ (fun k hk => (put_other hk).trans (HO.out k hk)) (World.putObj_heap_same (by rw [HS.out.1]; exact ll)) (by rw [World.putObj_size, HS.out.1]) HS.out.2.1 HS.out.2.2.1 HS.out.2.2.2⟩
 | false =>
  rw [hq] at HX
  gi_wp2
  refine ⟨trivial, rfl, (HX.out _).mono ?_⟩;rintro e wr ⟨rfl, hwr⟩;subst hwr
  gi_wp2
  refine ⟨?_, HF.out hq _ (fun k hk hk1 => (put_other hk).trans ((gset_other hk1).trans (HO.out k hk))) ?_ (World.putObj_heap_same (by rw [gsize_set, HS.out.1]; exact ll)) (by rw [World.putObj_size, gsize_set, HS.out.1]) HS.out.2.1 HS.out.2.2.1 HS.out.2.2.2⟩
  ·rw [gset_other (Ne.symm n1)]; exact HL.out
  ·rw [World.cell?_of_block (put_other n1)]; go_simp

end Go.Proofs.YtncondlfngeilaaGreatDoor
