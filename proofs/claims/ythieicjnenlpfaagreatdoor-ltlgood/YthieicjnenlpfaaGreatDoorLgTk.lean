/- Package ltl: does an instruction name locations that it may name? -/
import Derived.Test.YthieicjnenlpfaaGreatDoorLgA
import Derived.Test.YthieicjnenlpfaaGreatDoorFlTg
import Derived.Test.YthieicjnenlpfaaGreatDoorGTakes5
namespace Go.Proofs.YthieicjnenlpfaaGreatDoor
open Go.ChangeShapes Go.WideShapes Go.ChangeAt Go.RowKit
set_option linter.unusedSimpArgs false
set_option linter.unusedVariables false

attribute [local go_sem] Oper.semAt_some
noncomputable def lgRange : List (Array Tmp × Code × Code) := (Tryz.f27.body.map rangesOf).getD []
noncomputable def lgAssign : Code := ((lgRange[0]?).map (·.2.1)).getD .skip
noncomputable def lgBody : Code := ((lgRange[0]?).map (·.2.2)).getD .skip
set_option maxRecDepth 100000 in
set_option maxHeartbeats 4000000 in
theorem lg_round (l B1 d : Nat) (y : Int) (fn : FuncId) (z0z z1z z3z z4z z5z z6z z7z z8z z9z z10z z11z z12z z13z z14z z15z z16z z17z z18z z19z z20z z21z z22z z23z z24z z25z z26z z27z z28z z29z z30z z31z z32z z33z z34z z35z z36z z37z z38z z39z : Value) (W : World) (R : Ending → World → Prop)
    (hl : W.heap[l]? = some (.loop (loopRec fn #[z0z, z1z, .pointer (some ⟨B1, 0, none⟩), z3z, z4z, z5z, z6z, z7z, z8z, z9z, z10z, z11z, z12z, z13z, z14z, z15z, z16z, z17z, z18z, z19z, z20z, z21z, z22z, z23z, z24z, z25z, z26z, z27z, z28z, z29z, z30z, z31z, z32z, z33z, z34z, z35z, z36z, z37z, z38z, z39z] #[25] lgAssign lgBody d))) (h1 : W.cell? ⟨B1, 0, none⟩ = some (.bool false)) (z1 : W.frozen? ⟨B1, 0, none⟩ = false)
    (HT : Hid (resB y = false → ∀ W' : World, (∀ k, k ≠ l → W'.heap[k]? = W.heap[k]?) → W'.heap[l]? = some (.loop (loopRec fn #[z0z, z1z, .pointer (some ⟨B1, 0, none⟩), z3z, z4z, z5z, z6z, z7z, z8z, z9z, z10z, z11z, z12z, z13z, z14z, z15z, z16z, z17z, z18z, z19z, z20z, z21z, z22z, z23z, z24z, z25z, z26z, z27z, z28z, z29z, z30z, z31z, z32z, z33z, z34z, z35z, z36z, z37z, z38z, z39z] #[25] lgAssign lgBody d)) → W'.heap.size = W.heap.size → W'.os = W.os → W'.tape = W.tape → W'.output = W.output → R (.returned (.bool true)) W'))
    (HF : Hid (resB y = true → ∀ W' : World, (∀ k, k ≠ l → k ≠ B1 → W'.heap[k]? = W.heap[k]?) → W'.cell? ⟨B1, 0, none⟩ = some (.bool false) → W'.heap[l]? = some (.loop { state := .done, pending := some .ret, fn := fn, tmps := #[z0z, z1z, .pointer (some ⟨B1, 0, none⟩), z3z, z4z, z5z, z6z, z7z, z8z, z9z, z10z, z11z, z12z, z13z, z14z, z15z, z16z, z17z, z18z, z19z, z20z, z21z, z22z, z23z, z24z, z25z, z26z, z27z, z28z, z29z, z30z, z31z, z32z, z33z, z34z, z35z, z36z, z37z, z38z, z39z], params := #[25], assign := lgAssign, body := lgBody, defers := d }) → W'.heap.size = W.heap.size → W'.os = W.os → W'.tape = W.tape → W'.output = W.output → R (.returned (.bool false)) W')) :
    YieldAt Fence.wide 0 Tryz.prog l #[.int .i64 y] W R := by
  have n1 := cell_not_loop hl h1
  refine yield_round hl rfl rfl trivial ?_
  simp only [loopRec]
  conv => arg 4; whnf
  gi_wp2
  refine ⟨(by first | exact hl | rfl), ?_⟩
  conv => arg 4; whnf
  have ll : l < W.heap.size := (Array.getElem?_eq_some_iff.1 hl).1
  obtain ⟨W2, hW2⟩ : ∃ W2, W.putObj l (.loop { state := .busy, pending := none, fn := fn, tmps := #[z0z, z1z, .pointer (some ⟨B1, 0, none⟩), z3z, z4z, z5z, z6z, z7z, z8z, z9z, z10z, z11z, z12z, z13z, z14z, z15z, z16z, z17z, z18z, z19z, z20z, z21z, z22z, z23z, z24z, z25z, z26z, z27z, z28z, z29z, z30z, z31z, z32z, z33z, z34z, z35z, z36z, z37z, z38z, z39z], params := #[25], assign := lgAssign, body := lgBody, defers := d }) = W2 := ⟨_, rfl⟩
  have HO : Hid (∀ k, k ≠ l → W2.heap[k]? = W.heap[k]?) := fun k hk => by rw [← hW2]; exact put_other hk
  have HL : Hid (W2.heap[l]? = some (.loop { state := .busy, pending := none, fn := fn, tmps := #[z0z, z1z, .pointer (some ⟨B1, 0, none⟩), z3z, z4z, z5z, z6z, z7z, z8z, z9z, z10z, z11z, z12z, z13z, z14z, z15z, z16z, z17z, z18z, z19z, z20z, z21z, z22z, z23z, z24z, z25z, z26z, z27z, z28z, z29z, z30z, z31z, z32z, z33z, z34z, z35z, z36z, z37z, z38z, z39z], params := #[25], assign := lgAssign, body := lgBody, defers := d })) := by show _ = _; rw [← hW2]; exact World.putObj_heap_same ll
  have HS : Hid (W2.heap.size = W.heap.size ∧ W2.os = W.os ∧ W2.tape = W.tape ∧ W2.output = W.output) := by rw [← hW2]; exact ⟨World.putObj_size .., rfl, rfl, rfl⟩
  rw [hW2]
  clear hW2 hl
  replace h1 : W2.cell? ⟨B1, 0, none⟩ = some (.bool false) := (World.cell?_of_block (HO.out B1 n1)).trans h1
  replace z1 : W2.frozen? ⟨B1, 0, none⟩ = false := (World.frozen?_of_block (HO.out B1 n1)).trans z1
  have HX : Hid (∀ m, CallsIn (Fence.wide.inRound l) m Tryz.prog 36 #[.int .i64 y] W2 fun e w' => e = .returned (.bool (resB y)) ∧ w' = W2) := fun m => CallsIn.inRound l (callsIn_wide.2 (isReserved_any y W2))
  cases hq : resB y with
  | false =>
    rw [hq] at HX
    gi_wp2
    refine ⟨trivial, rfl, (HX.out _).mono ?_⟩
    rintro e wr ⟨rfl, hwr⟩
    subst hwr
    gi_wp2
    refine ⟨HL.out, HT.out hq _ (fun k hk => (put_other hk).trans (HO.out k hk)) (World.putObj_heap_same (by rw [HS.out.1]; exact ll)) (by rw [World.putObj_size, HS.out.1]) HS.out.2.1 HS.out.2.2.1 HS.out.2.2.2⟩
  | true =>
    rw [hq] at HX
    gi_wp2
    refine ⟨trivial, rfl, (HX.out _).mono ?_⟩
    rintro e wr ⟨rfl, hwr⟩
    subst hwr
    gi_wp2
    refine ⟨?_, HF.out hq _ (fun k hk hk1 => (put_other hk).trans ((gset_other hk1).trans (HO.out k hk))) ?_ (World.putObj_heap_same (by rw [gsize_set, HS.out.1]; exact ll)) (by rw [World.putObj_size, gsize_set, HS.out.1]) HS.out.2.1 HS.out.2.2.1 HS.out.2.2.2⟩
    · rw [gset_other (Ne.symm n1)]; exact HL.out
    · rw [World.cell?_of_block (put_other n1)]; go_simp
theorem lg_run0 (w W0 : World) (r : Loop) (B1 sb ib : Nat) (x : Sp) (a b : Int) (v : Value) (l : List Int) (hus : UsBox W0 sb ib x a b v l)
    (HRD : ∀ y W, TJ W0 r W → YieldAt Fence.wide 0 Tryz.prog (W0.heap.size + 1) #[.int .i64 y] W (yieldEnd (fun W' => TJ W0 r W' ∧ (!resB y) = true) (fun W' => TX w W0 B1 r W' ∧ (!resB y) = false))) :
    Calls Tryz.prog 52 #[.func (.yield (W0.heap.size + 1)) #[] #[], .pointer (some ⟨sb, 0, none⟩), .pointer (some ⟨ib, 0, none⟩)] (loopW W0 r) fun e W => e = .returned (.tuple #[]) ∧ ((TJ W0 r W ∧ (usP x a b l).all (fun y => !resB y) = true) ∨ (TX w W0 B1 r W ∧ (usP x a b l).all (fun y => !resB y) = false)) := by
  obtain ⟨h0, h1, h2, h3, h4, h5⟩ := hus
  obtain ⟨va, vc, vb, vo, rfl, hl, _, _⟩ := h5.parts
  refine uses1_any (W0.heap.size + 1) sb ib x a b va l.length vc l (loopW W0 r) (fun pre W => TJ W0 r W ∧ pre.all (fun y => !resB y) = true) (fun W => TX w W0 B1 r W ∧ (usP x a b l).all (fun y => !resB y) = false) rfl hl ⟨TJ.enter W0 r, rfl⟩ (fun pre W hJ => UsBox.keep ⟨h0, h1, h2, h3, h4, h5⟩ hJ.1.bel) ?_
  intro pre y rest W e hJ
  obtain ⟨fn, tm, asg, bo, hy, hR⟩ := HRD y W hJ.1
  refine ⟨fn, tm, asg, bo, hy, hR.mono ?_⟩
  rintro e2 W' ⟨bb, rfl, ht, hf⟩
  exact ⟨bb, rfl, fun hb => ⟨(ht hb).1, all_snoc hJ.2 (ht hb).2⟩, fun hb => ⟨(hf hb).1, all_mid e (hf hb).2⟩⟩
/-- What a run of takes has laid. -/
def LgK (w : World) (op sub a b d k : Int) (va : Option Addr) (vn vc : Nat) (s t : Int) (W : World) : Prop := Below w.heap.size w W ∧ W.cell? ⟨w.heap.size, 0, none⟩ = some (.int .i64 op) ∧ W.cell? ⟨w.heap.size, 1, none⟩ = some (.int .i64 sub) ∧ W.cell? ⟨w.heap.size, 2, none⟩ = some (.int .i64 a) ∧ W.cell? ⟨w.heap.size, 3, none⟩ = some (.int .i64 b) ∧ W.cell? ⟨w.heap.size, 4, none⟩ = some (.int .i64 d) ∧ W.cell? ⟨w.heap.size, 5, none⟩ = some (.int .i64 k) ∧ W.cell? ⟨w.heap.size, 6, none⟩ = some (.slice va vn vc) ∧ W.cell? ⟨w.heap.size, 7, none⟩ = some (.int .i64 s) ∧ W.cell? ⟨w.heap.size, 8, none⟩ = some (.int .i64 t) ∧ W.cell? ⟨w.heap.size + 1, 0, none⟩ = some (.bool false) ∧ W.frozen? ⟨w.heap.size + 1, 0, none⟩ = false
theorem LgK.keep {w : World} {op sub a b d k : Int} {va : Option Addr} {vn vc : Nat} {s t : Int} {W W' : World} (h : LgK w op sub a b d k va vn vc s t W) (hb : Below W.heap.size W W') : LgK w op sub a b d k va vn vc s t W' := by
  obtain ⟨hbW, i0, i1, i2, i3, i4, i5, i6, i7, i8, b1, z1⟩ := h
  exact ⟨bel_trans hbW hb, keep_cell hb i0, keep_cell hb i1, keep_cell hb i2, keep_cell hb i3, keep_cell hb i4, keep_cell hb i5, keep_cell hb i6, keep_cell hb i7, keep_cell hb i8, keep_cell hb b1, keep_frozen hb b1 z1⟩
set_option maxRecDepth 100000 in
set_option maxHeartbeats 20000000 in
theorem ltakes_walk (op sub a b d k : Int) (va : Option Addr) (vn vc : Nat) (s t : Int) (args : List Int) (x : Sp) (r : Bool) (w : World)
    (HX : Hid (shOf op = x)) (HT : Hid (ShTab w)) (HP : Hid (ParTab w)) (HV : Hid (IL w (.slice va vn vc) args)) (HE : Hid (r = tkL ⟨op, sub, a, b, d, k, args, s, t⟩)) :
    Calls Tryz.prog 27 #[.agg #[.int .i64 op, .int .i64 sub, .int .i64 a, .int .i64 b, .int .i64 d, .int .i64 k, .slice va vn vc, .int .i64 s, .int .i64 t]] w (retP (.bool r) w) := by
  refine callsIn_wide.1 (callsIn_of_wp_marks (n := 3) Tryz.func27 rfl trivial ?_)
  simp only [Tryz.ntmps27, List.size_toArray, List.length_cons, List.length_nil, Nat.reduceAdd, Nat.reduceSub, Array.replicate_succ, Array.replicate_zero, List.push_toArray, List.append_toArray, List.nil_append, List.cons_append]
  refine wpIn_wide.2 ?_
  go_upto_region 1 with fail
  refine gwp_named (LgK w op sub a b d k va vn vc s t) ⟨bel_alloc (bel_alloc (Below.refl _ _) _) _, by simp, by simp, by simp, by simp, by simp, by simp, by simp, by simp, by simp, by simp, by simp⟩ ?_
  rintro W ⟨hbW, i0, i1, i2, i3, i4, i5, i6, i7, i8, b1, z1⟩
  have HLK : Hid (LgK w op sub a b d k va vn vc s t W) := ⟨hbW, i0, i1, i2, i3, i4, i5, i6, i7, i8, b1, z1⟩
  have HBW := hid hbW
  have HVW := hid (HV.out.keep hbW)
  have HTW := hid (HT.out.keep hbW)
  have HPW := hid (HP.out.keep hbW)
  have sz : w.heap.size + 1 < W.heap.size := block_lt_of_cell b1
  clear hbW
  by_cases h10 : op = 10
  · subst h10
    have HAP : Hid (Calls Tryz.prog 26 #[.slice va vn vc] W fun e w' => e = .returned (.bool (firstF args)) ∧ w' = W) := areParams_any HVW.out HPW.out
    cases hf : firstF args with
    | false =>
      rw [hf] at HAP
      have er : r = false := by rw [HE.out]; simp [tkL, hf]
      subst er
      go_wp2_with (go_at_call 26; refine HAP.out.mono ?_; rintro e w1 ⟨rfl, hw⟩; subst hw)
      exact ⟨_, (by simp [results, Tryz.results27, go_sem, b1, z1]), rfl, HBW.out.setCell (Nat.le_succ _) _⟩
    | true =>
      rw [hf] at HAP
      have er : r = (d == 0) := by rw [HE.out]; simp [tkL, hf]
      subst er
      go_wp2_with (go_at_call 26; refine HAP.out.mono ?_; rintro e w1 ⟨rfl, hw⟩; subst hw)
      exact ⟨_, (by simp [results, Tryz.results27, go_sem, b1, z1]), rfl, HBW.out.setCell (Nat.le_succ _) _⟩
  · have q10 : (op == 10) = false := by simpa using h10
    by_cases h12 : op = 12
    · subst h12
      have er : r = (a == 0) := by rw [HE.out]; simp [tkL]
      subst er
      clear h10
      go_wp2
      exact ⟨_, (by simp [results, Tryz.results27, go_sem, b1, z1]), rfl, HBW.out.setCell (Nat.le_succ _) _⟩
    · have q12 : (op == 12) = false := by simpa using h12
      have HE1 : Hid (r = ((usP x a b (if x.args = true then args else [])).all (fun y => !resB y) && (!readB x.d d || !resB d))) := by
        show _ = _
        rw [HE.out]
        unfold tkL usL
        simp only [HX.out]
        rw [if_neg h10, if_neg h12]
      clear h10 h12
      go_wp2_with (go_at_call 35; refine (uses_made op sub a b d k va vn vc s t args x _ HX HTW HVW).mono ?_; rintro e w3 ⟨sb, ib2, v3, rfl, hus, hb3⟩; have HUS := hid hus; have HK3 := hid (HLK.out.keep hb3); have HT3 := hid (HTW.out.keep hb3); have hs3 : w.heap.size + 1 < w3.heap.size := Nat.lt_of_lt_of_le sz hb3.size; clear hus hb3)
      clear i0 i1 i2 i3 i4 i5 i6 i7 i8 b1 z1
      refine (wpIn_wide (n := 3)).1 ?_
      refine range_outer (F := Fence.wide) rfl (by omega) (gf := 52) (lb := #[.pointer (some ⟨sb, 0, none⟩), .pointer (some ⟨ib2, 0, none⟩)]) (by simp [Act.eval]) trivial (enters_of Tryz.func52 (by kernel_rfl) rfl) ?_
      intro fn _
      refine callsIn_wide.2 ?_
      refine (lg_run0 w w3 _ (w.heap.size + 1) sb ib2 x a b v3 (if x.args = true then args else []) HUS.out (fun y W hW => by
        obtain ⟨k0, gi0, gi1, gi2, gi3, gi4, gi5, gi6, gi7, gi8, kb1, kz1⟩ := HK3.out.keep hW.bel
        refine lg_round (w3.heap.size + 1) (w.heap.size + 1) _ y fn _ _ _ _ _ _ _ _ _ _ _ _ _ _ _ _ _ _ _ _ _ _ _ _ _ _ _ _ _ _ _ _ _ _ _ _ _ _ _ W _ hW.lp kb1 kz1 ?_ ?_
        · intro hin W' h1 h2 h3 h4 h5 h6
          exact ⟨true, rfl, (fun _ => ⟨hW.again h1 h2 h3 h4 h5 h6, by rw [hin]; rfl⟩), (fun h => by cases h)⟩
        · intro hin W' h1 hc h2 h3 h4 h5 h6
          exact ⟨false, rfl, (fun h => by cases h), (fun _ => ⟨hW.leave HK3.out.1 (Nat.le_succ _) hs3 h1 hc h2 h3 h4 h5 h6, by rw [hin]; rfl⟩)⟩)).mono ?_
      rintro e W2 ⟨rfl, ⟨hJ, hall⟩ | ⟨hX, hall⟩⟩
      · refine ⟨⟨_, rfl⟩, _, hJ.lp, by simp [loopRec], .inl ⟨rfl, ?_⟩⟩
        have HE2 : Hid (r = (!readB x.d d || !resB d)) := by show _ = _; rw [HE1.out, hall]; rfl
        refine gq_named (fun W => LgK w op sub a b d k va vn vc s t W ∧ ShTab W ∧ W.heap[w3.heap.size]? = some (.deferred (some [])) ∧ w3.heap.size + 1 < W.heap.size) ?_ ?_
        · have hb4 : ∀ o, Below w3.heap.size w3 (W2.putObj (w3.heap.size + 1) o) := fun o => hJ.bel.trans (bel_put (Nat.le_succ _))
          exact ⟨HK3.out.keep (hb4 _), HT3.out.keep (hb4 _), (put_other (show w3.heap.size ≠ w3.heap.size + 1 by omega)).trans hJ.dfr, by rw [World.putObj_size]; exact (Array.getElem?_eq_some_iff.1 hJ.lp).1⟩
        rintro W4 ⟨k1, k2, k3, k4⟩
        have HK4 := hid k1
        have HT4 := hid k2
        have HD4 := hid k3
        obtain ⟨hbW, i0, i1, i2, i3, i4, i5, i6, i7, i8, b1, z1⟩ := k1
        clear k2 k3 hJ hall HE1 HUS HK3 hbW
        have HTG : Hid (Calls Tryz.prog 37 #[.agg #[.int .i64 op, .int .i64 sub, .int .i64 a, .int .i64 b, .int .i64 d, .int .i64 k, .slice va vn vc, .int .i64 s, .int .i64 t]] W4 (retP (if readB x.d d = true then .tuple #[.int .i64 d, .bool true] else .tuple #[.int .i64 0, .bool false]) W4)) := target_walk op sub a b d k va vn vc s t x W4 HX HT4
        have KEEP : Hid (∀ W5, Below W4.heap.size W4 W5 → ∀ v : Bool, ((W5.setCell ⟨w.heap.size + 1, 0, none⟩ (.bool v))).heap[w3.heap.size]? = some (.deferred (some [])) ∧ (((W5.setCell ⟨w.heap.size + 1, 0, none⟩ (.bool v)).putObj w3.heap.size (.deferred none)).cell? ⟨w.heap.size + 1, 0, none⟩ = some (.bool v)) ∧ Below w.heap.size w ((W5.setCell ⟨w.heap.size + 1, 0, none⟩ (.bool v)).putObj w3.heap.size (.deferred none))) := fun W5 hb v => by
          obtain ⟨q0, gi0, gi1, gi2, gi3, gi4, gi5, gi6, gi7, gi8, q1, q2⟩ := HK4.out.keep hb
          refine ⟨(gset_other (show w3.heap.size ≠ w.heap.size + 1 by omega)).trans ((hb.block _ (by omega)).trans HD4.out), ?_, (q0.setCell (Nat.le_succ _) _).trans (bel_put (show w.heap.size ≤ w3.heap.size by omega))⟩
          rw [World.cell?_of_block (put_other (show w.heap.size + 1 ≠ w3.heap.size by omega))]
          exact World.cell?_setCell_same _ _ _ q1
        have KC : Hid (∀ W5, Below W4.heap.size W4 W5 → W5.cell? ⟨w.heap.size + 1, 0, none⟩ = some (.bool false) ∧ W5.frozen? ⟨w.heap.size + 1, 0, none⟩ = false) := fun W5 hb => ⟨keep_cell hb HK4.out.2.2.2.2.2.2.2.2.2.2.1, keep_frozen hb HK4.out.2.2.2.2.2.2.2.2.2.2.1 HK4.out.2.2.2.2.2.2.2.2.2.2.2⟩
        cases hrd : readB x.d d with
        | true =>
          rw [if_pos hrd] at HTG
          have HIR : Hid (∀ W, Calls Tryz.prog 36 #[.int .i64 d] W fun e w' => e = .returned (.bool (resB d)) ∧ w' = W) := fun W => isReserved_any d W
          have er : r = (!resB d) := by rw [HE2.out, hrd]; rfl
          subst er
          go_wp2_with (first | (go_at_call 37; refine HTG.out.mono ?_; rintro e w5 ⟨rfl, hb5⟩; have HB5 := hid hb5; obtain ⟨c1, c2⟩ := KC.out _ hb5; clear hb5) | (go_at_call 36; refine (HIR.out _).mono ?_; rintro e w6 ⟨rfl, hw⟩; subst hw))
          obtain ⟨y1, y2, y3⟩ := KEEP.out _ HB5.out (!resB d)
          refine ⟨by simp, .inl ⟨_, _, rfl, run_takeDeferred y1, ?_⟩⟩
          exact ⟨_, (by simp [results, Tryz.results27, go_sem, y2]), rfl, y3⟩
        | false =>
          rw [if_neg (by rw [hrd]; decide)] at HTG
          have er : r = true := by rw [HE2.out, hrd]; rfl
          subst er
          go_wp2_with (go_at_call 37; refine HTG.out.mono ?_; rintro e w5 ⟨rfl, hb5⟩; have HB5 := hid hb5; obtain ⟨c1, c2⟩ := KC.out _ hb5; clear hb5)
          obtain ⟨y1, y2, y3⟩ := KEEP.out _ HB5.out true
          refine ⟨by simp, .inl ⟨_, _, rfl, run_takeDeferred y1, ?_⟩⟩
          exact ⟨_, (by simp [results, Tryz.results27, go_sem, y2]), rfl, y3⟩
      · have er : r = false := by rw [HE1.out, hall]; rfl
        refine ⟨⟨_, rfl⟩, _, hX.lp, by simp, .inr ⟨_, rfl, ?_⟩⟩
        subst er
        refine wpIn_wide.2 ?_
        refine gwp_named (fun W => Below w.heap.size w W ∧ W.cell? ⟨w.heap.size + 1, 0, none⟩ = some (.bool false) ∧ W.heap[w3.heap.size]? = some (.deferred (some []))) ⟨hX.bel.trans (bel_put (show w.heap.size ≤ w3.heap.size + 1 by omega)), (World.cell?_of_block (put_other (show w.heap.size + 1 ≠ w3.heap.size + 1 by omega))).trans hX.res, (put_other (show w3.heap.size ≠ w3.heap.size + 1 by omega)).trans hX.dfr⟩ ?_
        rintro W3 ⟨hb3, hc3, hd3⟩
        have H3 := hid hb3
        have H4 := hid hc3
        have H5 := hid hd3
        clear hb3 hc3 hd3
        go_wp2
        have cB1 : (W3.putObj w3.heap.size (.deferred none)).cell? ⟨w.heap.size + 1, 0, none⟩ = some (.bool false) := (World.cell?_of_block (put_other (show w.heap.size + 1 ≠ w3.heap.size by omega))).trans H4.out
        refine ⟨by simp, .inl ⟨_, _, rfl, run_takeDeferred H5.out, ?_⟩⟩
        exact ⟨_, (by simp [results, Tryz.results27, go_sem, cB1]), rfl, H3.out.trans (bel_put (show w.heap.size ≤ w3.heap.size by omega))⟩
theorem ltakes_any {w : World} {v : Value} {i : Ins} (hv : IL w v i.args) (ht : ShTab w) (hp : ParTab w) : Calls Tryz.prog 27 #[.agg #[.int .i64 i.op, .int .i64 i.sub, .int .i64 i.a, .int .i64 i.b, .int .i64 i.d, .int .i64 i.k, v, .int .i64 i.s, .int .i64 i.t]] w (retP (.bool (tkL i)) w) := by
  obtain ⟨va, vc, rfl, hl⟩ := len_parts hv
  obtain ⟨op, sub, a, b, d, k, args, s, t⟩ := i
  exact ltakes_walk op sub a b d k va args.length vc s t args _ _ w rfl ht hp hv rfl
end Go.Proofs.YthieicjnenlpfaaGreatDoor

