
import Derived.Test.YtncondlfngeilaaGreatDoorTzE
namespace Go.Proofs.YtncondlfngeilaaGreatDoor
open Go.ChangeShapes Go.WideShapes Go.ChangeAt Go.RowKit Go.Proofs.Tryz
set_option linter.unusedSimpArgs false
set_option linter.unusedVariables false
set_option maxRecDepth 100000
set_option maxHeartbeats 4000000

def regionN (n : Nat) : Code → Option Code
 | .region k o b => if k = n then some (.region k o b) else none
 | .seq a b => match regionN n a with
  | some c => some c
  | none => regionN n b
 | .block _ c => regionN n c
 | .scope c => regionN n c
 | .loop c => regionN n c
 | .cond _ a b => match regionN n a with
  | some c => some c
  | none => regionN n b
 | _ => none
noncomputable def usR0 : Code := ((Tryz.f108.body.bind (regionN 0)).getD .skip)
noncomputable def usR4 : Code := ((Tryz.f108.body.bind (regionN 4)).getD .skip)
noncomputable def suR1 : Code := ((Tryz.f104.body.bind (regionN 1)).getD .skip)
noncomputable def suR2 : Code := ((Tryz.f104.body.bind (regionN 2)).getD .skip)
def yieldEnd (J : World → Prop) (Jx : World → Prop) : Ending → World → Prop := fun e W => ∃ b, e = .returned (.bool b) ∧ (b = true → J W) ∧ (b = false → Jx W)
theorem yieldEnd.bool {J Jx : World → Prop} {e : Ending} {W : World} (h : yieldEnd J Jx e W) : ∃ b, e = .returned (.bool b) := ⟨h.choose, h.choose_spec.1⟩
theorem yieldEnd.yes {J Jx : World → Prop} {W : World} (h : yieldEnd J Jx (.returned (.bool true)) W) : J W := by
 obtain ⟨b, e, h1, _⟩ := h
 injection e with e; injection e with e
 exact h1 e.symm
theorem yieldEnd.no {J Jx : World → Prop} {W : World} (h : yieldEnd J Jx (.returned (.bool false)) W) : Jx W := by
 obtain ⟨b, e, _, h1⟩ := h
 injection e with e; injection e with e
 exact h1 e.symm

theorem us_r0ff (l0 sb ib : Nat) (pa pb a b : Int) (w1 : World) (z3z z4z z5z z6z z7z z8z z9z z10z z11z z12z z13z z14z z15z z16z z17z z18z z19z z20z z21z z22z z23z z24z z25z z26z z27z z28z z29z z30z z31z z32z z33z z34z z35z z36z z37z z38z z39z z40z z41z z42z z43z z44z z45z z46z z47z : Value) (K : Act → World → Prop) (QQ : Exit → Act → World → Prop) (c0 : w1.cell? ⟨sb, 2, none⟩ = some (.int .i64 pa)) (c1 : w1.cell? ⟨sb, 3, none⟩ = some (.int .i64 pb)) (c2 : w1.cell? ⟨ib, 2, none⟩ = some (.int .i64 a)) (c3 : w1.cell? ⟨ib, 3, none⟩ = some (.int .i64 b)) (hA : readB pa a = false) (hB : readB pb b = false) (HK : Hid (∀ stop W y6 y7 y8 y9 y10 y11 y12 y13 y14 y15 y16 y17 y18 y19 y20 y21 y22 y23 y24 y25 y26 y27 y28 y29 y30, (stop = false ∧ W = w1) → K ⟨#[.func (.yield l0) #[] #[], .pointer (some ⟨sb, 0, none⟩), .pointer (some ⟨ib, 0, none⟩), z3z, z4z, z5z, y6, y7, y8, y9, y10, y11, y12, y13, y14, y15, y16, y17, y18, y19, y20, y21, y22, y23, y24, y25, y26, y27, y28, y29, y30, .bool stop, z32z, z33z, z34z, z35z, z36z, z37z, z38z, z39z, z40z, z41z, z42z, z43z, z44z, z45z, z46z, z47z], []⟩ W)) :
  Code.wp prog usR0 (Exit.then K QQ) ⟨#[.func (.yield l0) #[] #[], .pointer (some ⟨sb, 0, none⟩), .pointer (some ⟨ib, 0, none⟩), z3z, z4z, z5z, z6z, z7z, z8z, z9z, z10z, z11z, z12z, z13z, z14z, z15z, z16z, z17z, z18z, z19z, z20z, z21z, z22z, z23z, z24z, z25z, z26z, z27z, z28z, z29z, z30z, z31z, z32z, z33z, z34z, z35z, z36z, z37z, z38z, z39z, z40z, z41z, z42z, z43z, z44z, z45z, z46z, z47z], []⟩ w1 := by
 refine (wpIn_wide (n := 1)).1 ?_
 conv => arg 4; whnf
 have HX : Hid (∀ m W, CallsIn Fence.wide m prog 109 #[.int .i64 pa, .int .i64 a] W fun e w' => e = .returned (.bool false) ∧ w' = W) := fun m W => hA ▸ callsIn_wide.2 (isRegister_any pa a W);have HZ : Hid (∀ m W, CallsIn Fence.wide m prog 109 #[.int .i64 pb, .int .i64 b] W fun e w' => e = .returned (.bool false) ∧ w' = W) := fun m W => hB ▸ callsIn_wide.2 (isRegister_any pb b W);clear hA hB
 gi_wp2
 refine ⟨trivial, (HX.out _ _).mono ?_⟩;rintro e wr ⟨rfl, hwr⟩;subst hwr
 gi_wp2
 (first | refine ⟨(fun (f : FuncId) (h : none = some f) => (by cases h)), ?_⟩ | refine ⟨(trivial : Fence.wide.fn _), ?_⟩ | skip)
 gi_wp2
 refine ⟨trivial, (HZ.out _ _).mono ?_⟩;rintro e wr ⟨rfl, hwr⟩;subst hwr
 gi_wp2
 (first | refine ⟨(fun (f : FuncId) (h : none = some f) => (by cases h)), ?_⟩ | refine ⟨(trivial : Fence.wide.fn _), ?_⟩ | skip)
 gi_wp2
 exact HK.out false _ _ _ _ _ _ _ _ _ _ _ _ _ _ _ _ _ _ _ _ _ _ _ _ _ _ ⟨rfl, rfl⟩

theorem us_r0tf (l0 sb ib : Nat) (pa pb a b : Int) (w1 : World) (z3z z4z z5z z6z z7z z8z z9z z10z z11z z12z z13z z14z z15z z16z z17z z18z z19z z20z z21z z22z z23z z24z z25z z26z z27z z28z z29z z30z z31z z32z z33z z34z z35z z36z z37z z38z z39z z40z z41z z42z z43z z44z z45z z46z z47z : Value) (K : Act → World → Prop) (QQ : Exit → Act → World → Prop) (c0 : w1.cell? ⟨sb, 2, none⟩ = some (.int .i64 pa)) (c1 : w1.cell? ⟨sb, 3, none⟩ = some (.int .i64 pb)) (c2 : w1.cell? ⟨ib, 2, none⟩ = some (.int .i64 a)) (c3 : w1.cell? ⟨ib, 3, none⟩ = some (.int .i64 b)) (hA : readB pa a = true) (hB : readB pb b = false) (JA Jx : World → Prop) (hYA : YieldAt Fence.wide 0 prog l0 #[.int .i64 a] w1 (yieldEnd JA Jx)) (HJ : Hid (∀ W, JA W → W.cell? ⟨sb, 3, none⟩ = some (.int .i64 pb) ∧ W.cell? ⟨ib, 3, none⟩ = some (.int .i64 b))) (HK : Hid (∀ stop W y6 y7 y8 y9 y10 y11 y12 y13 y14 y15 y16 y17 y18 y19 y20 y21 y22 y23 y24 y25 y26 y27 y28 y29 y30, ((stop = false → JA W) ∧ (stop = true → Jx W)) → K ⟨#[.func (.yield l0) #[] #[], .pointer (some ⟨sb, 0, none⟩), .pointer (some ⟨ib, 0, none⟩), z3z, z4z, z5z, y6, y7, y8, y9, y10, y11, y12, y13, y14, y15, y16, y17, y18, y19, y20, y21, y22, y23, y24, y25, y26, y27, y28, y29, y30, .bool stop, z32z, z33z, z34z, z35z, z36z, z37z, z38z, z39z, z40z, z41z, z42z, z43z, z44z, z45z, z46z, z47z], []⟩ W)) :
  Code.wp prog usR0 (Exit.then K QQ) ⟨#[.func (.yield l0) #[] #[], .pointer (some ⟨sb, 0, none⟩), .pointer (some ⟨ib, 0, none⟩), z3z, z4z, z5z, z6z, z7z, z8z, z9z, z10z, z11z, z12z, z13z, z14z, z15z, z16z, z17z, z18z, z19z, z20z, z21z, z22z, z23z, z24z, z25z, z26z, z27z, z28z, z29z, z30z, z31z, z32z, z33z, z34z, z35z, z36z, z37z, z38z, z39z, z40z, z41z, z42z, z43z, z44z, z45z, z46z, z47z], []⟩ w1 := by
 refine (wpIn_wide (n := 1)).1 ?_
 conv => arg 4; whnf
 have HX : Hid (∀ m W, CallsIn Fence.wide m prog 109 #[.int .i64 pa, .int .i64 a] W fun e w' => e = .returned (.bool true) ∧ w' = W) := fun m W => hA ▸ callsIn_wide.2 (isRegister_any pa a W);have HZ : Hid (∀ m W, CallsIn Fence.wide m prog 109 #[.int .i64 pb, .int .i64 b] W fun e w' => e = .returned (.bool false) ∧ w' = W) := fun m W => hB ▸ callsIn_wide.2 (isRegister_any pb b W);clear hA hB
 gi_wp2
 refine ⟨trivial, (HX.out _ _).mono ?_⟩;rintro e wr ⟨rfl, hwr⟩;subst hwr;obtain ⟨fn1, tmps1, assign1, body1, hy1, hR1⟩ := hYA
 gi_wp2
 refine hR1.mono ?_;intro e W1 h;obtain ⟨r1, rfl⟩ := h.bool
 cases r1 with
 | false =>
  have hx := hid h.no;clear h
  gi_wp2
  (first | refine ⟨(trivial : Fence.wide.fn _), ?_⟩ | skip)
  gi_wp2
  all_goals first
   | (refine ⟨(fun (f : FuncId) (h : none = some f) => (by cases h)), ?_⟩; gi_wp2; exact HK.out true _ _ _ _ _ _ _ _ _ _ _ _ _ _ _ _ _ _ _ _ _ _ _ _ _ _ ⟨(fun h => by cases h), (fun _ => hx.out)⟩)
   | exact absurd (show some undef = some (Value.bool _) by assumption) (by simp [undef])
 | true =>
  have hx := hid h.yes;clear h;obtain ⟨c1, c3⟩ := HJ.out _ hx.out;clear c0 c2
  gi_wp2
  refine ⟨trivial, (HZ.out _ _).mono ?_⟩;rintro e wr ⟨rfl, hwr⟩;subst hwr
  gi_wp2
  (first | refine ⟨(fun (f : FuncId) (h : none = some f) => (by cases h)), ?_⟩ | refine ⟨(trivial : Fence.wide.fn _), ?_⟩ | skip)
  gi_wp2
  exact HK.out false _ _ _ _ _ _ _ _ _ _ _ _ _ _ _ _ _ _ _ _ _ _ _ _ _ _ ⟨(fun _ => hx.out), (fun h => by cases h)⟩

theorem us_r0ft (l0 sb ib : Nat) (pa pb a b : Int) (w1 : World) (z3z z4z z5z z6z z7z z8z z9z z10z z11z z12z z13z z14z z15z z16z z17z z18z z19z z20z z21z z22z z23z z24z z25z z26z z27z z28z z29z z30z z31z z32z z33z z34z z35z z36z z37z z38z z39z z40z z41z z42z z43z z44z z45z z46z z47z : Value) (K : Act → World → Prop) (QQ : Exit → Act → World → Prop) (c0 : w1.cell? ⟨sb, 2, none⟩ = some (.int .i64 pa)) (c1 : w1.cell? ⟨sb, 3, none⟩ = some (.int .i64 pb)) (c2 : w1.cell? ⟨ib, 2, none⟩ = some (.int .i64 a)) (c3 : w1.cell? ⟨ib, 3, none⟩ = some (.int .i64 b)) (hA : readB pa a = false) (hB : readB pb b = true) (JB Jx : World → Prop) (hYB : YieldAt Fence.wide 0 prog l0 #[.int .i64 b] w1 (yieldEnd JB Jx)) (HK : Hid (∀ stop W y6 y7 y8 y9 y10 y11 y12 y13 y14 y15 y16 y17 y18 y19 y20 y21 y22 y23 y24 y25 y26 y27 y28 y29 y30, ((stop = false → JB W) ∧ (stop = true → Jx W)) → K ⟨#[.func (.yield l0) #[] #[], .pointer (some ⟨sb, 0, none⟩), .pointer (some ⟨ib, 0, none⟩), z3z, z4z, z5z, y6, y7, y8, y9, y10, y11, y12, y13, y14, y15, y16, y17, y18, y19, y20, y21, y22, y23, y24, y25, y26, y27, y28, y29, y30, .bool stop, z32z, z33z, z34z, z35z, z36z, z37z, z38z, z39z, z40z, z41z, z42z, z43z, z44z, z45z, z46z, z47z], []⟩ W)) :
  Code.wp prog usR0 (Exit.then K QQ) ⟨#[.func (.yield l0) #[] #[], .pointer (some ⟨sb, 0, none⟩), .pointer (some ⟨ib, 0, none⟩), z3z, z4z, z5z, z6z, z7z, z8z, z9z, z10z, z11z, z12z, z13z, z14z, z15z, z16z, z17z, z18z, z19z, z20z, z21z, z22z, z23z, z24z, z25z, z26z, z27z, z28z, z29z, z30z, z31z, z32z, z33z, z34z, z35z, z36z, z37z, z38z, z39z, z40z, z41z, z42z, z43z, z44z, z45z, z46z, z47z], []⟩ w1 := by
 refine (wpIn_wide (n := 1)).1 ?_
 conv => arg 4; whnf
 have HX : Hid (∀ m W, CallsIn Fence.wide m prog 109 #[.int .i64 pa, .int .i64 a] W fun e w' => e = .returned (.bool false) ∧ w' = W) := fun m W => hA ▸ callsIn_wide.2 (isRegister_any pa a W);have HZ : Hid (∀ m W, CallsIn Fence.wide m prog 109 #[.int .i64 pb, .int .i64 b] W fun e w' => e = .returned (.bool true) ∧ w' = W) := fun m W => hB ▸ callsIn_wide.2 (isRegister_any pb b W);clear hA hB
 gi_wp2
 refine ⟨trivial, (HX.out _ _).mono ?_⟩;rintro e wr ⟨rfl, hwr⟩;subst hwr
 gi_wp2
 (first | refine ⟨(fun (f : FuncId) (h : none = some f) => (by cases h)), ?_⟩ | refine ⟨(trivial : Fence.wide.fn _), ?_⟩ | skip)
 gi_wp2
 refine ⟨trivial, (HZ.out _ _).mono ?_⟩;rintro e wr ⟨rfl, hwr⟩;subst hwr;obtain ⟨fn1, tmps1, assign1, body1, hy1, hR1⟩ := hYB
 gi_wp2
 refine hR1.mono ?_;intro e W1 h;obtain ⟨r1, rfl⟩ := h.bool
 cases r1 with
 | false =>
  have hx := hid h.no;clear h
  gi_wp2
  exact HK.out true _ _ _ _ _ _ _ _ _ _ _ _ _ _ _ _ _ _ _ _ _ _ _ _ _ _ ⟨(fun h => by cases h), (fun _ => hx.out)⟩
 | true =>
  have hx := hid h.yes;clear h
  gi_wp2
  exact HK.out false _ _ _ _ _ _ _ _ _ _ _ _ _ _ _ _ _ _ _ _ _ _ _ _ _ _ ⟨(fun _ => hx.out), (fun h => by cases h)⟩

theorem us_r0tt (l0 sb ib : Nat) (pa pb a b : Int) (w1 : World) (z3z z4z z5z z6z z7z z8z z9z z10z z11z z12z z13z z14z z15z z16z z17z z18z z19z z20z z21z z22z z23z z24z z25z z26z z27z z28z z29z z30z z31z z32z z33z z34z z35z z36z z37z z38z z39z z40z z41z z42z z43z z44z z45z z46z z47z : Value) (K : Act → World → Prop) (QQ : Exit → Act → World → Prop) (c0 : w1.cell? ⟨sb, 2, none⟩ = some (.int .i64 pa)) (c1 : w1.cell? ⟨sb, 3, none⟩ = some (.int .i64 pb)) (c2 : w1.cell? ⟨ib, 2, none⟩ = some (.int .i64 a)) (c3 : w1.cell? ⟨ib, 3, none⟩ = some (.int .i64 b)) (hA : readB pa a = true) (hB : readB pb b = true) (JA JB Jx : World → Prop) (hYA : YieldAt Fence.wide 0 prog l0 #[.int .i64 a] w1 (yieldEnd JA Jx)) (HYB : Hid (∀ W, JA W → YieldAt Fence.wide 0 prog l0 #[.int .i64 b] W (yieldEnd JB Jx))) (HJ : Hid (∀ W, JA W → W.cell? ⟨sb, 3, none⟩ = some (.int .i64 pb) ∧ W.cell? ⟨ib, 3, none⟩ = some (.int .i64 b))) (HK : Hid (∀ stop W y6 y7 y8 y9 y10 y11 y12 y13 y14 y15 y16 y17 y18 y19 y20 y21 y22 y23 y24 y25 y26 y27 y28 y29 y30, ((stop = false → JB W) ∧ (stop = true → Jx W)) → K ⟨#[.func (.yield l0) #[] #[], .pointer (some ⟨sb, 0, none⟩), .pointer (some ⟨ib, 0, none⟩), z3z, z4z, z5z, y6, y7, y8, y9, y10, y11, y12, y13, y14, y15, y16, y17, y18, y19, y20, y21, y22, y23, y24, y25, y26, y27, y28, y29, y30, .bool stop, z32z, z33z, z34z, z35z, z36z, z37z, z38z, z39z, z40z, z41z, z42z, z43z, z44z, z45z, z46z, z47z], []⟩ W)) :
  Code.wp prog usR0 (Exit.then K QQ) ⟨#[.func (.yield l0) #[] #[], .pointer (some ⟨sb, 0, none⟩), .pointer (some ⟨ib, 0, none⟩), z3z, z4z, z5z, z6z, z7z, z8z, z9z, z10z, z11z, z12z, z13z, z14z, z15z, z16z, z17z, z18z, z19z, z20z, z21z, z22z, z23z, z24z, z25z, z26z, z27z, z28z, z29z, z30z, z31z, z32z, z33z, z34z, z35z, z36z, z37z, z38z, z39z, z40z, z41z, z42z, z43z, z44z, z45z, z46z, z47z], []⟩ w1 := by
 refine (wpIn_wide (n := 1)).1 ?_
 conv => arg 4; whnf
 have HX : Hid (∀ m W, CallsIn Fence.wide m prog 109 #[.int .i64 pa, .int .i64 a] W fun e w' => e = .returned (.bool true) ∧ w' = W) := fun m W => hA ▸ callsIn_wide.2 (isRegister_any pa a W);have HZ : Hid (∀ m W, CallsIn Fence.wide m prog 109 #[.int .i64 pb, .int .i64 b] W fun e w' => e = .returned (.bool true) ∧ w' = W) := fun m W => hB ▸ callsIn_wide.2 (isRegister_any pb b W);clear hA hB
 gi_wp2
 refine ⟨trivial, (HX.out _ _).mono ?_⟩;rintro e wr ⟨rfl, hwr⟩;subst hwr;obtain ⟨fn1, tmps1, assign1, body1, hy1, hR1⟩ := hYA
 gi_wp2
 refine hR1.mono ?_;intro e W1 h;obtain ⟨r1, rfl⟩ := h.bool
 cases r1 with
 | false =>
  have hx := hid h.no;clear h
  gi_wp2
  (first | refine ⟨(trivial : Fence.wide.fn _), ?_⟩ | skip)
  gi_wp2
  all_goals first
   | (refine ⟨(fun (f : FuncId) (h : none = some f) => (by cases h)), ?_⟩; gi_wp2; exact HK.out true _ _ _ _ _ _ _ _ _ _ _ _ _ _ _ _ _ _ _ _ _ _ _ _ _ _ ⟨(fun h => by cases h), (fun _ => hx.out)⟩)
   | exact absurd (show some undef = some (Value.bool _) by assumption) (by simp [undef])
 | true =>
  have hx := hid h.yes;clear h;obtain ⟨c1, c3⟩ := HJ.out _ hx.out;clear c0 c2
  gi_wp2
  refine ⟨trivial, (HZ.out _ _).mono ?_⟩;rintro e wr ⟨rfl, hwr⟩;subst hwr;obtain ⟨fn2, tmps2, assign2, body2, hy2, hR2⟩ := HYB.out _ hx.out
  gi_wp2
  refine hR2.mono ?_;intro e W2 h;obtain ⟨r2, rfl⟩ := h.bool;clear hx
  cases r2 with
  | false =>
   have hx := hid h.no;clear h
   gi_wp2
   exact HK.out true _ _ _ _ _ _ _ _ _ _ _ _ _ _ _ _ _ _ _ _ _ _ _ _ _ _ ⟨(fun h => by cases h), (fun _ => hx.out)⟩
  | true =>
   have hx := hid h.yes;clear h
   gi_wp2
   exact HK.out false _ _ _ _ _ _ _ _ _ _ _ _ _ _ _ _ _ _ _ _ _ _ _ _ _ _ ⟨(fun _ => hx.out), (fun h => by cases h)⟩

theorem us_r4 (l0 sb ib : Nat) (x : Int) (w1 : World) (z3z z4z z6z z7z z8z z9z z10z z11z z12z z13z z14z z15z z16z z17z z18z z19z z20z z21z z22z z23z z24z z25z z26z z27z z28z z29z z30z z31z z32z z33z z34z z35z z36z z37z z38z z39z z40z z41z z42z z43z z44z z45z z46z z47z : Value) (K : Act → World → Prop) (QQ : Exit → Act → World → Prop) (J Jx : World → Prop) (hq : (x != -1) = true)
  (hY : YieldAt Fence.wide 0 prog l0 #[.int .i64 x] w1 (yieldEnd J Jx))
  (HK : Hid (∀ stop W y39 y40 y41 y42 y43 y44 y45, ((stop = false → J W) ∧ (stop = true → Jx W)) → K ⟨#[.func (.yield l0) #[] #[], .pointer (some ⟨sb, 0, none⟩), .pointer (some ⟨ib, 0, none⟩), z3z, z4z, .int .i64 x, z6z, z7z, z8z, z9z, z10z, z11z, z12z, z13z, z14z, z15z, z16z, z17z, z18z, z19z, z20z, z21z, z22z, z23z, z24z, z25z, z26z, z27z, z28z, z29z, z30z, z31z, z32z, z33z, z34z, z35z, z36z, z37z, z38z, y39, y40, y41, y42, y43, y44, y45, .bool stop, z47z], []⟩ W)) :
  Code.wp prog usR4 (Exit.then K QQ) ⟨#[.func (.yield l0) #[] #[], .pointer (some ⟨sb, 0, none⟩), .pointer (some ⟨ib, 0, none⟩), z3z, z4z, .int .i64 x, z6z, z7z, z8z, z9z, z10z, z11z, z12z, z13z, z14z, z15z, z16z, z17z, z18z, z19z, z20z, z21z, z22z, z23z, z24z, z25z, z26z, z27z, z28z, z29z, z30z, z31z, z32z, z33z, z34z, z35z, z36z, z37z, z38z, z39z, z40z, z41z, z42z, z43z, z44z, z45z, z46z, z47z], []⟩ w1 := by
 refine (wpIn_wide (n := 1)).1 ?_
 conv => arg 4; whnf
 obtain ⟨fn1, tmps1, assign1, body1, hy1, hR1⟩ := hY
 gi_wp2
 refine hR1.mono ?_;intro e W1 h;obtain ⟨r1, rfl⟩ := h.bool
 cases r1 with
 | false =>
  have hx := hid h.no;clear h
  gi_wp2
  exact HK.out true _ _ _ _ _ _ _ _ ⟨(fun h => by cases h), (fun _ => hx.out)⟩
 | true =>
  have hx := hid h.yes;clear h
  gi_wp2
  exact HK.out false _ _ _ _ _ _ _ _ ⟨(fun _ => hx.out), (fun h => by cases h)⟩

theorem su_r1 (l0 ib : Nat) (op s : Int) (w1 : World) (z2z z3z z4z z5z z6z z7z z8z z9z z10z z11z z12z z13z z14z z15z z16z z17z z18z : Value) (K : Act → World → Prop) (QQ : Exit → Act → World → Prop) (J Jx : World → Prop)
  (c7 : w1.cell? ⟨ib, 7, none⟩ = some (.int .i64 s)) (HJ : Hid (∀ W, J W → W.cell? ⟨ib, 0, none⟩ = some (.int .i64 op)))
  (hY : YieldAt Fence.wide 0 prog l0 #[.int .i64 s] w1 (yieldEnd J Jx))
  (HK : Hid (∀ go W y6 y7 y8 y9 y10 y11 y12 y13, ((J W ∧ go = (op == 11)) ∨ (Jx W ∧ go = false)) → K ⟨#[.func (.yield l0) #[] #[], .pointer (some ⟨ib, 0, none⟩), z2z, z3z, z4z, z5z, y6, y7, y8, y9, y10, y11, y12, y13, .bool go, z15z, z16z, z17z, z18z], []⟩ W)) :
  Code.wp prog suR1 (Exit.then K QQ) ⟨#[.func (.yield l0) #[] #[], .pointer (some ⟨ib, 0, none⟩), z2z, z3z, z4z, z5z, z6z, z7z, z8z, z9z, z10z, z11z, z12z, z13z, z14z, z15z, z16z, z17z, z18z], []⟩ w1 := by
 refine (wpIn_wide (n := 1)).1 ?_
 conv => arg 4; whnf
 obtain ⟨fn1, tmps1, assign1, body1, hy1, hR1⟩ := hY
 gi_wp2
 refine hR1.mono ?_;intro e W1 h;obtain ⟨r1, rfl⟩ := h.bool
 cases r1 with
 | false =>
  have hx := hid h.no;clear h
  gi_wp2
  exact HK.out _ _ _ _ _ _ _ _ _ _ (.inr ⟨hx.out, rfl⟩)
 | true =>
  have hx := hid h.yes;clear h;have c0 := HJ.out _ hx.out
  gi_wp2
  exact HK.out _ _ _ _ _ _ _ _ _ _ (.inl ⟨hx.out, rfl⟩)
theorem su_r2 (l0 ib : Nat) (t : Int) (w1 : World) (z2z z3z z4z z5z z6z z7z z8z z9z z10z z11z z12z z13z z14z z15z z16z z17z z18z : Value) (Q : Exit → Act → World → Prop) (J Jx : World → Prop)
  (c8 : w1.cell? ⟨ib, 8, none⟩ = some (.int .i64 t))
  (hY : YieldAt Fence.wide 0 prog l0 #[.int .i64 t] w1 (yieldEnd J Jx))
  (HK : Hid (∀ W y15 y16 y17 y18, (J W ∨ Jx W) → Q .normal ⟨#[.func (.yield l0) #[] #[], .pointer (some ⟨ib, 0, none⟩), z2z, z3z, z4z, z5z, z6z, z7z, z8z, z9z, z10z, z11z, z12z, z13z, z14z, y15, y16, y17, y18], []⟩ W)) :
  Code.wp prog suR2 Q ⟨#[.func (.yield l0) #[] #[], .pointer (some ⟨ib, 0, none⟩), z2z, z3z, z4z, z5z, z6z, z7z, z8z, z9z, z10z, z11z, z12z, z13z, z14z, z15z, z16z, z17z, z18z], []⟩ w1 := by
 refine (wpIn_wide (n := 1)).1 ?_
 conv => arg 4; whnf
 obtain ⟨fn1, tmps1, assign1, body1, hy1, hR1⟩ := hY
 gi_wp2
 refine hR1.mono ?_;intro e W1 h;obtain ⟨r1, rfl⟩ := h.bool
 cases r1 with
 | false =>
  have hx := hid h.no;clear h
  gi_wp2
  exact HK.out _ _ _ _ _ (.inr hx.out)
 | true =>
  have hx := hid h.yes;clear h
  gi_wp2
  exact HK.out _ _ _ _ _ (.inl hx.out)

end Go.Proofs.YtncondlfngeilaaGreatDoor
