import Derived.Test.YtlonbaefdffbeaaGreatDoorLIter1
import Derived.Deep.RegionHeld3
namespace Go.Proofs.YtlonbaefdffbeaaGreatDoor
open Go.ChangeShapes Go.WideShapes Go.ChangeAt Go.RowKit Go.Proofs.Tryz
set_option linter.unusedSimpArgs false
set_option linter.unusedVariables false
set_option maxRecDepth 100000
set_option maxHeartbeats 1500000

structure WordAt (w : World) (wb : Nat) (k n : Int) (s : ByteArray) : Prop where
 c0 : w.cell? ⟨wb, 0, none⟩ = some (.int .i64 k)
 c1 : w.cell? ⟨wb, 1, none⟩ = some (.string s)
 c2 : w.cell? ⟨wb, 2, none⟩ = some (.int .i64 n)
 c3 : w.cell? ⟨wb, 3, none⟩ = some (.int .i64 0)
 c4 : w.cell? ⟨wb, 4, none⟩ = some (.int .i64 0)
 f3 : w.frozen? ⟨wb, 3, none⟩ = false
 f4 : w.frozen? ⟨wb, 4, none⟩ = false
theorem hav {A B : Prop} (a : A) (f : A → B) : B := f a
theorem it_r3 (bx cb : Nat) (ii k n : Int) (ok : Bool) (t r s : ByteArray) (w1 : World) (z0z z2z z3z z4z z5z z6z z7z z8z z9z z10z z11z z12z z13z z14z z15z z16z z17z z18z z19z z20z z21z z22z z23z z24z z25z z26z z27z z28z z29z z30z z31z z32z z33z z34z z35z z36z z37z z38z z39z z40z z41z z42z z43z : Value) (K : Act → World → Prop) (QQ : Exit → Act → World → Prop)
  (b0 : w1.cell? ⟨bx, 0, none⟩ = some (.pointer (some ⟨cb, 0, none⟩))) (d0 : w1.cell? ⟨cb, 0, none⟩ = some (.string t)) (d1 : w1.cell? ⟨cb, 1, none⟩ = some (.int .i64 ii))
  (lb : bx < w1.heap.size) (lc : cb < w1.heap.size)
  (sx : ∀ W, (Instr.slice 9 (.string t) (some (.int .i64 ii)) none none).run prog W = .ok (.string r) W)
  (HW : Hid (∀ W, Below w1.heap.size w1 W → Calls prog 54 #[.string r] W fun e w' => e = .returned (.tuple #[.agg #[.int .i64 k, .string s, .int .i64 n, .int .i64 0, .int .i64 0], .bool ok]) ∧ Below W.heap.size W w'))
  (HK : Hid (∀ W wb y14 y15 y16 y17 y18 y19 y20 y21 y22 y23 y24 y25 y26, WordAt W wb k n s → Below w1.heap.size w1 W → w1.heap.size ≤ wb → K ⟨#[z0z, .pointer (some ⟨bx, 0, none⟩), z2z, z3z, .pointer (some ⟨wb, 0, none⟩), .bool ok, z6z, z7z, z8z, z9z, z10z, z11z, z12z, z13z, y14, y15, y16, y17, y18, y19, y20, y21, y22, y23, y24, y25, y26, z27z, z28z, z29z, z30z, z31z, z32z, z33z, z34z, z35z, z36z, z37z, z38z, z39z, z40z, z41z, z42z, z43z], []⟩ W)) :
  Code.wp prog itR3 (Exit.then K QQ) ⟨#[z0z, .pointer (some ⟨bx, 0, none⟩), z2z, z3z, z4z, z5z, z6z, z7z, z8z, z9z, z10z, z11z, z12z, z13z, z14z, z15z, z16z, z17z, z18z, z19z, z20z, z21z, z22z, z23z, z24z, z25z, z26z, z27z, z28z, z29z, z30z, z31z, z32z, z33z, z34z, z35z, z36z, z37z, z38z, z39z, z40z, z41z, z42z, z43z], []⟩ w1 := by
 conv => arg 2; whnf
 have S3 : Hid (∀ W, Below w1.heap.size w1 W → W.cell? ⟨bx, 0, none⟩ = some (.pointer (some ⟨cb, 0, none⟩)) ∧ W.cell? ⟨cb, 0, none⟩ = some (.string t) ∧ W.cell? ⟨cb, 1, none⟩ = some (.int .i64 ii)) := fun W h => ⟨keep_cell h b0, keep_cell h d0, keep_cell h d1⟩
 go_region_held3 (fun W => W.cell? ⟨bx, 0, none⟩ = some (.pointer (some ⟨cb, 0, none⟩)) ∧ W.cell? ⟨cb, 0, none⟩ = some (.string t) ∧ W.cell? ⟨cb, 1, none⟩ = some (.int .i64 ii))
  (exact S3.out _ (by repeat (first | with_reducible exact Below.refl _ _ | with_reducible refine bel_alloc ?_ _ | with_reducible refine bel_set ?_ (by first | exact Nat.le_refl _ | (simp; done) | (simp; omega)) _ | with_reducible refine Below.drew ?_ | refine bel_trans ?_ (by assumption))))
  (first | (go_at_call 54; refine (HW.out _ (by repeat (first | with_reducible exact Below.refl _ _ | with_reducible refine bel_alloc ?_ _ | with_reducible refine bel_set ?_ (by first | exact Nat.le_refl _ | (simp; done) | (simp; omega)) _ | with_reducible refine Below.drew ?_ | refine bel_trans ?_ (by assumption)))).mono ?_; rintro e w2 ⟨rfl, hb2⟩; (first | (refine hav (A := w2.cell? ⟨w1.heap.size, 0, none⟩ = some (.int .i64 0)) ?_ ?_; (focus (refine keep_cell hb2 (p := ⟨w1.heap.size, 0, none⟩) (v := .int .i64 0) ?_; (go_simp; done))); intro c0) | skip); (first | (refine hav (A := w2.cell? ⟨w1.heap.size, 1, none⟩ = some (.string ⟨#[]⟩)) ?_ ?_; (focus (refine keep_cell hb2 (p := ⟨w1.heap.size, 1, none⟩) (v := .string ⟨#[]⟩) ?_; (go_simp; done))); intro c1) | skip); (first | (refine hav (A := w2.cell? ⟨w1.heap.size, 2, none⟩ = some (.int .i64 0)) ?_ ?_; (focus (refine keep_cell hb2 (p := ⟨w1.heap.size, 2, none⟩) (v := .int .i64 0) ?_; (go_simp; done))); intro c2) | skip); (first | (refine hav (A := w2.cell? ⟨w1.heap.size, 3, none⟩ = some (.int .i64 0)) ?_ ?_; (focus (refine keep_cell hb2 (p := ⟨w1.heap.size, 3, none⟩) (v := .int .i64 0) ?_; (go_simp; done))); intro c3) | skip); (first | (refine hav (A := w2.cell? ⟨w1.heap.size, 4, none⟩ = some (.int .i64 0)) ?_ ?_; (focus (refine keep_cell hb2 (p := ⟨w1.heap.size, 4, none⟩) (v := .int .i64 0) ?_; (go_simp; done))); intro c4) | skip); (first | (refine hav (A := w2.frozen? ⟨w1.heap.size, 0, none⟩ = false) ?_ ?_; (focus (refine keep_frozen hb2 (p := ⟨w1.heap.size, 0, none⟩) (v := .int .i64 0) ?_ ?_; all_goals (go_simp; done))); intro f0) | skip); (first | (refine hav (A := w2.frozen? ⟨w1.heap.size, 1, none⟩ = false) ?_ ?_; (focus (refine keep_frozen hb2 (p := ⟨w1.heap.size, 1, none⟩) (v := .string ⟨#[]⟩) ?_ ?_; all_goals (go_simp; done))); intro f1) | skip); (first | (refine hav (A := w2.frozen? ⟨w1.heap.size, 2, none⟩ = false) ?_ ?_; (focus (refine keep_frozen hb2 (p := ⟨w1.heap.size, 2, none⟩) (v := .int .i64 0) ?_ ?_; all_goals (go_simp; done))); intro f2) | skip); (first | (refine hav (A := w2.frozen? ⟨w1.heap.size, 3, none⟩ = false) ?_ ?_; (focus (refine keep_frozen hb2 (p := ⟨w1.heap.size, 3, none⟩) (v := .int .i64 0) ?_ ?_; all_goals (go_simp; done))); intro f3) | skip); (first | (refine hav (A := w2.frozen? ⟨w1.heap.size, 4, none⟩ = false) ?_ ?_; (focus (refine keep_frozen hb2 (p := ⟨w1.heap.size, 4, none⟩) (v := .int .i64 0) ?_ ?_; all_goals (go_simp; done))); intro f4) | skip)))
 all_goals (refine HK.out _ _ _ _ _ _ _ _ _ _ _ _ _ _ _ ⟨by go_simp, by go_simp, by go_simp, by go_simp, by go_simp, by go_simp, by go_simp⟩ (by repeat (first | with_reducible exact Below.refl _ _ | with_reducible refine bel_alloc ?_ _ | with_reducible refine bel_set ?_ (by first | exact Nat.le_refl _ | (simp; done) | (simp; omega)) _ | with_reducible refine Below.drew ?_ | refine bel_trans ?_ (by assumption))) ?_)
 all_goals first | exact Nat.le_refl _ | (have := hb2.size; simp at this ⊢; omega)
end Go.Proofs.YtlonbaefdffbeaaGreatDoor

