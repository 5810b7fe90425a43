
import Derived.Test.YtncondlfngeilaaGreatDoorTzA
import Derived.Test.YtncondlfngeilaaGreatDoorGTakes1
import Derived.Test.YtncondlfngeilaaGreatDoorGTakes2
namespace Go.Proofs.YtncondlfngeilaaGreatDoor
open Go.ChangeShapes Go.WideShapes Go.ChangeAt Go.RowKit Go.Proofs.Tryz
set_option linter.unusedSimpArgs false
set_option linter.unusedVariables false
set_option maxRecDepth 100000
set_option maxHeartbeats 8000000

theorem gchain2 (w : World) (r : Loop) : (loopW w r).heap.size = w.heap.size + 2 ∧ (∀ k, k < w.heap.size → (loopW w r).heap[k]? = w.heap[k]?) ∧ (loopW w r).heap[w.heap.size]? = some (.deferred (some [])) ∧ (loopW w r).heap[w.heap.size + 1]? = some (.loop r) := by
 refine ⟨by simp [loopW], fun k hk => ?_, ?_, ?_⟩
 ·rw [loopW, Below.heap_alloc _ _ k (by simp; omega), Below.heap_alloc _ _ k hk]
 ·rw [loopW, Below.heap_alloc _ _ _ (by simp)]
  exact World.alloc_heap_new w _
 ·have := World.alloc_heap_new (w.alloc (.deferred (some []))) (.loop r)
  rw [World.size_alloc] at this;exact this
theorem gwp_named {P : Program} {c : Code} {Q : Exit → Act → World → Prop} {a : Act} {w0 : World} (Fct : World → Prop) (h : Fct w0) (k : ∀ W, Fct W → Code.wp P c Q a W) : Code.wp P c Q a w0 := k w0 h
theorem gq_named {Q : Exit → Act → World → Prop} {a : Act} {w0 : World} (Fct : World → Prop) (h : Fct w0) (k : ∀ W, Fct W → Q .normal a W) : Q .normal a w0 := k w0 h
theorem bel_put {H l : Nat} {W : World} {o : Obj} (h : H ≤ l) : Below H W (W.putObj l o) :=
 { os := rfl, tape := rfl, output := rfl, size := by rw [World.putObj_size]; exact Nat.le_refl _, block := fun k hk => World.putObj_heap_other (by omega) }
structure TJ (W0 : World) (r : Loop) (W : World) : Prop where
 bel : Below W0.heap.size W0 W
 dfr : W.heap[W0.heap.size]? = some (.deferred (some []))
 lp : W.heap[W0.heap.size + 1]? = some (.loop r)
theorem TJ.enter (W0 : World) (r : Loop) : TJ W0 r (loopW W0 r) := by
 obtain ⟨h1, h2, h3, h4⟩ := gchain2 W0 r;exact ⟨⟨rfl, rfl, rfl, by omega, h2⟩, h3, h4⟩
structure TK (w : World) (fb fo B2 : Nat) (x : Sp) (W : World) : Prop where
 bel : Below w.heap.size w W
 b0 : W.cell? ⟨w.heap.size, 0, none⟩ = some (.pointer (some ⟨fb, fo, none⟩))
 b1 : W.cell? ⟨w.heap.size + 1, 0, none⟩ = some (.bool false)
 z1 : W.frozen? ⟨w.heap.size + 1, 0, none⟩ = false
 s1 : W.cell? ⟨B2, 1, none⟩ = some (.int .i64 x.sub)
 s4 : W.cell? ⟨B2, 4, none⟩ = some (.int .i64 x.d)
 n2 : w.heap.size + 2 ≤ B2
theorem TK.keep {w W W' : World} {fb fo B2 : Nat} {x : Sp} (h : TK w fb fo B2 x W) (hb : Below W.heap.size W W') : TK w fb fo B2 x W' :=
 ⟨h.bel.trans (hb.mono h.bel.size), keep_cell hb h.b0, keep_cell hb h.b1, keep_frozen hb h.b1 h.z1, keep_cell hb h.s1, keep_cell hb h.s4, h.n2⟩
noncomputable def tkR12 : Code := ((Tryz.f57.body.bind (regionN 12)).getD .skip)

theorem tk_r12a (ib io fb fo B0 B1 B2 : Nat) (xd xs op sub d k regs frame : Int) (z0z z3z z6z z7z z8z z9z z10z z11z z12z z13z z14z z15z z16z z17z z18z z19z z20z z21z z22z z23z z24z z25z z26z z27z z28z z29z z30z z31z z32z z33z z34z z35z z36z z37z z38z z39z z40z z41z z42z z43z z44z z45z z46z z47z z48z z49z z50z z51z z52z z53z z54z z55z z56z z57z z58z z59z z60z z61z z62z z63z z64z z65z z66z z67z z68z z69z z70z z71z z72z z73z : Value) (DF : List Deferred) (K : Act → World → Prop) (Q0 : Exit → Act → World → Prop) (w1 : World)
  (hQ0 : ∀ c (a : Act) (dd : Option Tmp) v x, Q0 (.panic c) (a.put dd v) x → Q0 (.panic c) a x)
  (a0 : w1.cell? ⟨B0, 0, none⟩ = some (.pointer (some ⟨fb, fo, none⟩))) (a1 : w1.cell? ⟨B2, 4, none⟩ = some (.int .i64 xd)) (a2 : w1.cell? ⟨B2, 1, none⟩ = some (.int .i64 xs)) (a3 : w1.cell? ⟨ib, io, none⟩ = some (.int .i64 op)) (a4 : w1.cell? ⟨ib, io + 1, none⟩ = some (.int .i64 sub)) (a5 : w1.cell? ⟨ib, io + 4, none⟩ = some (.int .i64 d)) (a6 : w1.cell? ⟨ib, io + 5, none⟩ = some (.int .i64 k)) (a7 : w1.cell? ⟨fb, fo + 3, none⟩ = some (.int .i64 frame)) (a8 : w1.cell? ⟨fb, fo + 2, none⟩ = some (.int .i64 regs)) (b1 : w1.cell? ⟨B1, 0, none⟩ = some (.bool false)) (z1 : w1.frozen? ⟨B1, 0, none⟩ = false)
  (m0 : B0 ≠ B1) (m2 : B2 ≠ B1) (mi : ib ≠ B1) (mf : fb ≠ B1) (r0 : -9223372036854775808 < regs) (r1 : regs ≤ 9223372036854775807) (ht : targetB xd d regs = false)
  (HK : Hid (∀ y39 y40 y41 y42 y43 y44 y45 y46 y47 y48 y49 y50 y51 y52 y53 y54 y55 y56 y57 y58 y59 y60 y61 y62 y63 y64 y65 y66 y67 y68 y69 y70 y71 y72 y73, K ⟨#[z0z, .pointer (some ⟨ib, io, none⟩), .pointer (some ⟨B0, 0, none⟩), z3z, .pointer (some ⟨B1, 0, none⟩), .pointer (some ⟨B2, 0, none⟩), z6z, z7z, z8z, z9z, z10z, z11z, z12z, z13z, z14z, z15z, z16z, z17z, z18z, z19z, z20z, z21z, z22z, z23z, z24z, z25z, z26z, z27z, z28z, z29z, z30z, z31z, z32z, z33z, z34z, z35z, z36z, z37z, z38z, y39, y40, y41, y42, y43, y44, y45, y46, y47, y48, y49, y50, y51, y52, y53, y54, y55, y56, y57, y58, y59, y60, y61, y62, y63, y64, y65, y66, y67, y68, y69, y70, y71, y72, y73], DF⟩ (w1.setCell ⟨B1, 0, none⟩ (.bool false)).drew)) :
  Code.wp prog tkR12 (Exit.then K Q0) ⟨#[z0z, .pointer (some ⟨ib, io, none⟩), .pointer (some ⟨B0, 0, none⟩), z3z, .pointer (some ⟨B1, 0, none⟩), .pointer (some ⟨B2, 0, none⟩), z6z, z7z, z8z, z9z, z10z, z11z, z12z, z13z, z14z, z15z, z16z, z17z, z18z, z19z, z20z, z21z, z22z, z23z, z24z, z25z, z26z, z27z, z28z, z29z, z30z, z31z, z32z, z33z, z34z, z35z, z36z, z37z, z38z, z39z, z40z, z41z, z42z, z43z, z44z, z45z, z46z, z47z, z48z, z49z, z50z, z51z, z52z, z53z, z54z, z55z, z56z, z57z, z58z, z59z, z60z, z61z, z62z, z63z, z64z, z65z, z66z, z67z, z68z, z69z, z70z, z71z, z72z, z73z], DF⟩ w1 := by
 conv => arg 2; whnf
 have HT1 : Hid (∀ W : World, W.cell? ⟨fb, fo + 2, none⟩ = some (.int .i64 regs) → Calls prog 97 #[.pointer (some ⟨fb, fo, none⟩), .int .i64 xd, .int .i64 d] W fun e w' => e = .returned (.bool (targetB xd d regs)) ∧ w' = W) := fun W h => hasTarget_any fb fo regs xd d W h r0 r1;have HM1 : Hid (∀ W, Calls prog 98 #[.int .i64 xs, .int .i64 sub] W fun e w' => e = .returned (.bool (mayB xs sub)) ∧ w' = W) := fun W => mayBe_any _ _ _;have HW1 : Hid (∀ W, Calls prog 99 #[.int .i64 k, .int .i64 frame] W fun e w' => e = .returned (.bool (withinB k frame)) ∧ w' = W) := fun W => within64_any _ _ _;rw [ht] at HT1;refine wp_region_held_drew (S := (fun w' => w'.cell? ⟨B0, 0, none⟩ = some (.pointer (some ⟨fb, fo, none⟩)) ∧ w'.cell? ⟨B2, 4, none⟩ = some (.int .i64 xd) ∧ w'.cell? ⟨B2, 1, none⟩ = some (.int .i64 xs) ∧ w'.cell? ⟨ib, io, none⟩ = some (.int .i64 op) ∧ w'.cell? ⟨ib, io + 1, none⟩ = some (.int .i64 sub) ∧ w'.cell? ⟨ib, io + 4, none⟩ = some (.int .i64 d) ∧ w'.cell? ⟨ib, io + 5, none⟩ = some (.int .i64 k) ∧ w'.cell? ⟨fb, fo + 3, none⟩ = some (.int .i64 frame) ∧ w'.cell? ⟨fb, fo + 2, none⟩ = some (.int .i64 regs))) (by kernel_rfl) (⟨a0, a1, a2, a3, a4, a5, a6, a7, a8⟩) (fun hHeld => ?_);refine wpAnyH_take (i := 0) (oi := ?oia0) (v := ?vva0) ?hia0 (by kernel_rfl) (by kernel_rfl) (by kernel_rfl) ?hqa0 ?hya0 hHeld ?_
 case hia0 => simp only [zga, zgs, zgz]; rfl
 case hqa0 => exact fun _ _ _ h => hQ0 _ _ _ _ _ h
 case hya0 => refine .inl ⟨by rfl, ?_⟩; intro w' hSw; (try dsimp only at hSw); go_simp; try with_reducible rfl
 simp only [Act.put, zsa, zsz, zss];refine wpAnyH_take (i := 1) (oi := ?oia1) (v := ?vva1) ?hia1 (by kernel_rfl) (by kernel_rfl) (by kernel_rfl) ?hqa1 ?hya1 hHeld ?_
 case hia1 => simp only [zga, zgs, zgz]; rfl
 case hqa1 => exact fun _ _ _ h => hQ0 _ _ _ _ _ h
 case hya1 => refine .inl ⟨by rfl, ?_⟩; intro w' hSw; (try dsimp only at hSw); go_simp; try with_reducible rfl
 simp only [Act.put, zsa, zsz, zss];refine wpAnyH_take (i := 2) (oi := ?oia2) (v := ?vva2) ?hia2 (by kernel_rfl) (by kernel_rfl) (by kernel_rfl) ?hqa2 ?hya2 hHeld ?_
 case hia2 => simp only [zga, zgs, zgz]; rfl
 case hqa2 => exact fun _ _ _ h => hQ0 _ _ _ _ _ h
 case hya2 => refine .inl ⟨by rfl, ?_⟩; intro w' hSw; (try dsimp only at hSw); go_simp; try with_reducible rfl
 simp only [Act.put, zsa, zsz, zss];refine wpAnyH_take (i := 3) (oi := ?oia3) (v := ?vva3) ?hia3 (by kernel_rfl) (by kernel_rfl) (by kernel_rfl) ?hqa3 ?hya3 hHeld ?_
 case hia3 => simp only [zga, zgs, zgz]; rfl
 case hqa3 => exact fun _ _ _ h => hQ0 _ _ _ _ _ h
 case hya3 => refine .inl ⟨by rfl, ?_⟩; intro w' hSw; (try dsimp only at hSw); go_simp; try with_reducible rfl
 simp only [Act.put, zsa, zsz, zss];refine wpAnyH_take (i := 4) (oi := ?oia4) (v := ?vva4) ?hia4 (by kernel_rfl) (by kernel_rfl) (by kernel_rfl) ?hqa4 ?hya4 hHeld ?_
 case hia4 => simp only [zga, zgs, zgz]; rfl
 case hqa4 => exact fun _ _ _ h => hQ0 _ _ _ _ _ h
 case hya4 => refine .inl ⟨by rfl, ?_⟩; intro w' hSw; (try dsimp only at hSw); go_simp; try with_reducible rfl
 simp only [Act.put, zsa, zsz, zss];refine wpAnyH_take (i := 5) (oi := ?oia5) (v := ?vva5) ?hia5 (by kernel_rfl) (by kernel_rfl) (by kernel_rfl) ?hqa5 ?hya5 hHeld ?_
 case hia5 => simp only [zga, zgs, zgz]; rfl
 case hqa5 => exact fun _ _ _ h => hQ0 _ _ _ _ _ h
 case hya5 => refine .inl ⟨by rfl, ?_⟩; intro w' hSw; (try dsimp only at hSw); go_simp; try with_reducible rfl
 simp only [Act.put, zsa, zsz, zss];refine wpAnyH_take (i := 6) (oi := ?oia6) (v := ?vva6) ?hia6 (by kernel_rfl) (by kernel_rfl) (by kernel_rfl) ?hqa6 ?hya6 hHeld ?_
 case hia6 => simp only [zga, zgs, zgz]; rfl
 case hqa6 => exact fun _ _ _ h => hQ0 _ _ _ _ _ h
 case hya6 => refine .inl ⟨by rfl, ?_⟩; intro w' hSw; (try dsimp only at hSw); go_simp; try with_reducible rfl
 simp only [Act.put, zsa, zsz, zss];refine wpAnyH_ready (rs := [7]) (by kernel_rfl) (by simp) ?_;refine AllReadyH.cons (o := ?oia7) ?hia7 (fun K hK => ?_) AllReadyH.nil
 case hia7 => simp only [zga, zgs, zgz]; rfl
 go_simp;refine (HT1.out _ hHeld.2.2.2.2.2.2.2.2).mono ?_;rintro e v7 ⟨rfl, rfl⟩;go_wp2_with fail
 refine hK.out _ _ (hHeld) (fun hN => ?_);clear hK K hHeld;have hHeld := hN;clear hN
 try simp only [Act.put, zsa, zsz, zss]
 refine wpAnyH_take (i := 8) (oi := ?oia8) (v := ?vva8) ?hia8 (by kernel_rfl) (by kernel_rfl) (by kernel_rfl) ?hqa8 ?hya8 hHeld ?_
 case hia8 => simp only [zga, zgs, zgz]; rfl
 case hqa8 => exact fun _ _ _ h => hQ0 _ _ _ _ _ h
 case hya8 => refine .inl ⟨by rfl, ?_⟩; intro w' hSw; (try dsimp only at hSw); go_simp; try with_reducible rfl
 simp only [Act.put, zsa, zsz, zss];refine wpAnyH_take (i := 9) (oi := ?oia9) (v := undef) ?hia9 (by kernel_rfl) (by kernel_rfl) (by kernel_rfl) ?hqa9 ?hya9 hHeld ?_
 case hia9 => simp only [zga, zgs, zgz]; rfl
 case hqa9 => exact fun _ _ _ h => hQ0 _ _ _ _ _ h
 case hya9 => exact Or.inr ⟨by rfl, rfl⟩
 simp only [Act.put, zsa, zsz, zss];refine wpAnyH_take (i := 10) (oi := ?oia10) (v := undef) ?hia10 (by kernel_rfl) (by kernel_rfl) (by kernel_rfl) ?hqa10 ?hya10 hHeld ?_
 case hia10 => simp only [zga, zgs, zgz]; rfl
 case hqa10 => exact fun _ _ _ h => hQ0 _ _ _ _ _ h
 case hya10 => exact Or.inr ⟨by rfl, rfl⟩
 simp only [Act.put, zsa, zsz, zss];refine wpAnyH_take (i := 11) (oi := ?oia11) (v := undef) ?hia11 (by kernel_rfl) (by kernel_rfl) (by kernel_rfl) ?hqa11 ?hya11 hHeld ?_
 case hia11 => simp only [zga, zgs, zgz]; rfl
 case hqa11 => exact fun _ _ _ h => hQ0 _ _ _ _ _ h
 case hya11 => exact Or.inr ⟨by rfl, rfl⟩
 simp only [Act.put, zsa, zsz, zss];refine wpAnyH_take (i := 12) (oi := ?oia12) (v := undef) ?hia12 (by kernel_rfl) (by kernel_rfl) (by kernel_rfl) ?hqa12 ?hya12 hHeld ?_
 case hia12 => simp only [zga, zgs, zgz]; rfl
 case hqa12 => exact fun _ _ _ h => hQ0 _ _ _ _ _ h
 case hya12 => exact Or.inr ⟨by rfl, rfl⟩
 simp only [Act.put, zsa, zsz, zss];refine wpAnyH_take (i := 13) (oi := ?oia13) (v := undef) ?hia13 (by kernel_rfl) (by kernel_rfl) (by kernel_rfl) ?hqa13 ?hya13 hHeld ?_
 case hia13 => simp only [zga, zgs, zgz]; rfl
 case hqa13 => exact fun _ _ _ h => hQ0 _ _ _ _ _ h
 case hya13 => exact Or.inr ⟨by rfl, rfl⟩
 simp only [Act.put, zsa, zsz, zss];refine wpAnyH_take (i := 14) (oi := ?oia14) (v := undef) ?hia14 (by kernel_rfl) (by kernel_rfl) (by kernel_rfl) ?hqa14 ?hya14 hHeld ?_
 case hia14 => simp only [zga, zgs, zgz]; rfl
 case hqa14 => exact fun _ _ _ h => hQ0 _ _ _ _ _ h
 case hya14 => exact Or.inr ⟨by rfl, rfl⟩
 simp only [Act.put, zsa, zsz, zss];refine wpAnyH_ready (rs := [15]) (by kernel_rfl) (by simp) ?_;refine AllReadyH.cons (o := ?oia15) ?hia15 (fun K hK => ?_) AllReadyH.nil
 case hia15 => simp only [zga, zgs, zgz]; rfl
 go_simp;refine hK.out _ _ hHeld (fun hN => ?_);clear hK K hHeld;have hHeld := hN;clear hN
 try simp only [Act.put, zsa, zsz, zss]
 refine wpAnyH_take (i := 16) (oi := ?oia16) (v := ?vva16) ?hia16 (by kernel_rfl) (by kernel_rfl) (by kernel_rfl) ?hqa16 ?hya16 hHeld ?_
 case hia16 => simp only [zga, zgs, zgz]; rfl
 case hqa16 => exact fun _ _ _ h => hQ0 _ _ _ _ _ h
 case hya16 => refine .inl ⟨by rfl, ?_⟩; intro w' hSw; (try dsimp only at hSw); go_simp; try with_reducible rfl
 simp only [Act.put, zsa, zsz, zss];refine wpAnyH_take (i := 17) (oi := ?oia17) (v := ?vva17) ?hia17 (by kernel_rfl) (by kernel_rfl) (by kernel_rfl) ?hqa17 ?hya17 hHeld ?_
 case hia17 => simp only [zga, zgs, zgz]; rfl
 case hqa17 => exact fun _ _ _ h => hQ0 _ _ _ _ _ h
 case hya17 => refine .inl ⟨by rfl, ?_⟩; intro w' hSw; (try dsimp only at hSw); go_simp; try with_reducible rfl
 simp only [Act.put, zsa, zsz, zss];refine wpAnyH_take (i := 18) (oi := ?oia18) (v := undef) ?hia18 (by kernel_rfl) (by kernel_rfl) (by kernel_rfl) ?hqa18 ?hya18 hHeld ?_
 case hia18 => simp only [zga, zgs, zgz]; rfl
 case hqa18 => exact fun _ _ _ h => hQ0 _ _ _ _ _ h
 case hya18 => exact Or.inr ⟨by rfl, rfl⟩
 simp only [Act.put, zsa, zsz, zss];refine wpAnyH_take (i := 19) (oi := ?oia19) (v := undef) ?hia19 (by kernel_rfl) (by kernel_rfl) (by kernel_rfl) ?hqa19 ?hya19 hHeld ?_
 case hia19 => simp only [zga, zgs, zgz]; rfl
 case hqa19 => exact fun _ _ _ h => hQ0 _ _ _ _ _ h
 case hya19 => exact Or.inr ⟨by rfl, rfl⟩
 simp only [Act.put, zsa, zsz, zss];refine wpAnyH_take (i := 20) (oi := ?oia20) (v := undef) ?hia20 (by kernel_rfl) (by kernel_rfl) (by kernel_rfl) ?hqa20 ?hya20 hHeld ?_
 case hia20 => simp only [zga, zgs, zgz]; rfl
 case hqa20 => exact fun _ _ _ h => hQ0 _ _ _ _ _ h
 case hya20 => exact Or.inr ⟨by rfl, rfl⟩
 simp only [Act.put, zsa, zsz, zss];refine wpAnyH_take (i := 21) (oi := ?oia21) (v := undef) ?hia21 (by kernel_rfl) (by kernel_rfl) (by kernel_rfl) ?hqa21 ?hya21 hHeld ?_
 case hia21 => simp only [zga, zgs, zgz]; rfl
 case hqa21 => exact fun _ _ _ h => hQ0 _ _ _ _ _ h
 case hya21 => exact Or.inr ⟨by rfl, rfl⟩
 simp only [Act.put, zsa, zsz, zss];refine wpAnyH_take (i := 22) (oi := ?oia22) (v := undef) ?hia22 (by kernel_rfl) (by kernel_rfl) (by kernel_rfl) ?hqa22 ?hya22 hHeld ?_
 case hia22 => simp only [zga, zgs, zgz]; rfl
 case hqa22 => exact fun _ _ _ h => hQ0 _ _ _ _ _ h
 case hya22 => exact Or.inr ⟨by rfl, rfl⟩
 simp only [Act.put, zsa, zsz, zss];refine wpAnyH_take (i := 23) (oi := ?oia23) (v := undef) ?hia23 (by kernel_rfl) (by kernel_rfl) (by kernel_rfl) ?hqa23 ?hya23 hHeld ?_
 case hia23 => simp only [zga, zgs, zgz]; rfl
 case hqa23 => exact fun _ _ _ h => hQ0 _ _ _ _ _ h
 case hya23 => exact Or.inr ⟨by rfl, rfl⟩
 simp only [Act.put, zsa, zsz, zss];refine wpAnyH_take (i := 24) (oi := ?oia24) (v := undef) ?hia24 (by kernel_rfl) (by kernel_rfl) (by kernel_rfl) ?hqa24 ?hya24 hHeld ?_
 case hia24 => simp only [zga, zgs, zgz]; rfl
 case hqa24 => exact fun _ _ _ h => hQ0 _ _ _ _ _ h
 case hya24 => exact Or.inr ⟨by rfl, rfl⟩
 simp only [Act.put, zsa, zsz, zss];refine wpAnyH_take (i := 25) (oi := ?oia25) (v := undef) ?hia25 (by kernel_rfl) (by kernel_rfl) (by kernel_rfl) ?hqa25 ?hya25 hHeld ?_
 case hia25 => simp only [zga, zgs, zgz]; rfl
 case hqa25 => exact fun _ _ _ h => hQ0 _ _ _ _ _ h
 case hya25 => exact Or.inr ⟨by rfl, rfl⟩
 simp only [Act.put, zsa, zsz, zss];refine wpAnyH_take (i := 26) (oi := ?oia26) (v := undef) ?hia26 (by kernel_rfl) (by kernel_rfl) (by kernel_rfl) ?hqa26 ?hya26 hHeld ?_
 case hia26 => simp only [zga, zgs, zgz]; rfl
 case hqa26 => exact fun _ _ _ h => hQ0 _ _ _ _ _ h
 case hya26 => exact Or.inr ⟨by rfl, rfl⟩
 simp only [Act.put, zsa, zsz, zss];refine wpAnyH_take (i := 27) (oi := ?oia27) (v := undef) ?hia27 (by kernel_rfl) (by kernel_rfl) (by kernel_rfl) ?hqa27 ?hya27 hHeld ?_
 case hia27 => simp only [zga, zgs, zgz]; rfl
 case hqa27 => exact fun _ _ _ h => hQ0 _ _ _ _ _ h
 case hya27 => exact Or.inr ⟨by rfl, rfl⟩
 simp only [Act.put, zsa, zsz, zss];refine wpAnyH_take (i := 28) (oi := ?oia28) (v := undef) ?hia28 (by kernel_rfl) (by kernel_rfl) (by kernel_rfl) ?hqa28 ?hya28 hHeld ?_
 case hia28 => simp only [zga, zgs, zgz]; rfl
 case hqa28 => exact fun _ _ _ h => hQ0 _ _ _ _ _ h
 case hya28 => exact Or.inr ⟨by rfl, rfl⟩
 simp only [Act.put, zsa, zsz, zss];refine wpAnyH_take (i := 29) (oi := ?oia29) (v := undef) ?hia29 (by kernel_rfl) (by kernel_rfl) (by kernel_rfl) ?hqa29 ?hya29 hHeld ?_
 case hia29 => simp only [zga, zgs, zgz]; rfl
 case hqa29 => exact fun _ _ _ h => hQ0 _ _ _ _ _ h
 case hya29 => exact Or.inr ⟨by rfl, rfl⟩
 simp only [Act.put, zsa, zsz, zss];refine wpAnyH_take (i := 30) (oi := ?oia30) (v := undef) ?hia30 (by kernel_rfl) (by kernel_rfl) (by kernel_rfl) ?hqa30 ?hya30 hHeld ?_
 case hia30 => simp only [zga, zgs, zgz]; rfl
 case hqa30 => exact fun _ _ _ h => hQ0 _ _ _ _ _ h
 case hya30 => exact Or.inr ⟨by rfl, rfl⟩
 simp only [Act.put, zsa, zsz, zss];refine wpAnyH_take (i := 31) (oi := ?oia31) (v := undef) ?hia31 (by kernel_rfl) (by kernel_rfl) (by kernel_rfl) ?hqa31 ?hya31 hHeld ?_
 case hia31 => simp only [zga, zgs, zgz]; rfl
 case hqa31 => exact fun _ _ _ h => hQ0 _ _ _ _ _ h
 case hya31 => exact Or.inr ⟨by rfl, rfl⟩
 simp only [Act.put, zsa, zsz, zss];refine wpAnyH_ready (rs := [32]) (by kernel_rfl) (by simp) ?_;refine AllReadyH.cons (o := ?oia32) ?hia32 (fun K hK => ?_) AllReadyH.nil
 case hia32 => simp only [zga, zgs, zgz]; rfl
 go_simp;refine hK.out _ _ hHeld (fun hN => ?_);clear hK K hHeld;have hHeld := hN;clear hN
 try simp only [Act.put, zsa, zsz, zss]
 refine wpAnyH_take (i := 33) (oi := ?oia33) (v := undef) ?hia33 (by kernel_rfl) (by kernel_rfl) (by kernel_rfl) ?hqa33 ?hya33 hHeld ?_
 case hia33 => simp only [zga, zgs, zgz]; rfl
 case hqa33 => exact fun _ _ _ h => hQ0 _ _ _ _ _ h
 case hya33 => exact Or.inr ⟨by rfl, rfl⟩
 simp only [Act.put, zsa, zsz, zss];refine wpAnyH_take (i := 34) (oi := ?oia34) (v := ?vva34) ?hia34 (by kernel_rfl) (by kernel_rfl) (by kernel_rfl) ?hqa34 ?hya34 hHeld ?_
 case hia34 => simp only [zga, zgs, zgz]; rfl
 case hqa34 => exact fun _ _ _ h => hQ0 _ _ _ _ _ h
 case hya34 => refine .inl ⟨by rfl, ?_⟩; intro w' hSw; (try dsimp only at hSw); go_simp; try with_reducible rfl
 simp only [Act.put, zsa, zsz, zss];refine wpAnyH_ready (rs := [35]) (by kernel_rfl) (by simp) ?_;refine AllReadyH.cons (o := ?oia35) ?hia35 (fun K hK => ?_) AllReadyH.nil
 case hia35 => simp only [zga, zgs, zgz]; rfl
 go_simp;refine hK.out _ _ (⟨keep_set hHeld.1 (by simp; omega), keep_set hHeld.2.1 (by simp; omega), keep_set hHeld.2.2.1 (by simp; omega), keep_set hHeld.2.2.2.1 (by simp; omega), keep_set hHeld.2.2.2.2.1 (by simp; omega), keep_set hHeld.2.2.2.2.2.1 (by simp; omega), keep_set hHeld.2.2.2.2.2.2.1 (by simp; omega), keep_set hHeld.2.2.2.2.2.2.2.1 (by simp; omega), keep_set hHeld.2.2.2.2.2.2.2.2 (by simp; omega)⟩) (fun hN => ?_);clear hK K hHeld;have hHeld := hN;clear hN
 try simp only [Act.put, zsa, zsz, zss]
 refine wpAnyH_done (by kernel_rfl) ?_ _;exact HK.out _ _ _ _ _ _ _ _ _ _ _ _ _ _ _ _ _ _ _ _ _ _ _ _ _ _ _ _ _ _ _ _ _ _ _ 

theorem tk_r12b (ib io fb fo B0 B1 B2 : Nat) (xd xs op sub d k regs frame : Int) (z0z z3z z6z z7z z8z z9z z10z z11z z12z z13z z14z z15z z16z z17z z18z z19z z20z z21z z22z z23z z24z z25z z26z z27z z28z z29z z30z z31z z32z z33z z34z z35z z36z z37z z38z z39z z40z z41z z42z z43z z44z z45z z46z z47z z48z z49z z50z z51z z52z z53z z54z z55z z56z z57z z58z z59z z60z z61z z62z z63z z64z z65z z66z z67z z68z z69z z70z z71z z72z z73z : Value) (DF : List Deferred) (K : Act → World → Prop) (Q0 : Exit → Act → World → Prop) (w1 : World)
  (hQ0 : ∀ c (a : Act) (dd : Option Tmp) v x, Q0 (.panic c) (a.put dd v) x → Q0 (.panic c) a x)
  (a0 : w1.cell? ⟨B0, 0, none⟩ = some (.pointer (some ⟨fb, fo, none⟩))) (a1 : w1.cell? ⟨B2, 4, none⟩ = some (.int .i64 xd)) (a2 : w1.cell? ⟨B2, 1, none⟩ = some (.int .i64 xs)) (a3 : w1.cell? ⟨ib, io, none⟩ = some (.int .i64 op)) (a4 : w1.cell? ⟨ib, io + 1, none⟩ = some (.int .i64 sub)) (a5 : w1.cell? ⟨ib, io + 4, none⟩ = some (.int .i64 d)) (a6 : w1.cell? ⟨ib, io + 5, none⟩ = some (.int .i64 k)) (a7 : w1.cell? ⟨fb, fo + 3, none⟩ = some (.int .i64 frame)) (a8 : w1.cell? ⟨fb, fo + 2, none⟩ = some (.int .i64 regs)) (b1 : w1.cell? ⟨B1, 0, none⟩ = some (.bool false)) (z1 : w1.frozen? ⟨B1, 0, none⟩ = false)
  (m0 : B0 ≠ B1) (m2 : B2 ≠ B1) (mi : ib ≠ B1) (mf : fb ≠ B1) (r0 : -9223372036854775808 < regs) (r1 : regs ≤ 9223372036854775807) (ht : targetB xd d regs = true) (hm : mayB xs sub = false)
  (HK : Hid (∀ y39 y40 y41 y42 y43 y44 y45 y46 y47 y48 y49 y50 y51 y52 y53 y54 y55 y56 y57 y58 y59 y60 y61 y62 y63 y64 y65 y66 y67 y68 y69 y70 y71 y72 y73, K ⟨#[z0z, .pointer (some ⟨ib, io, none⟩), .pointer (some ⟨B0, 0, none⟩), z3z, .pointer (some ⟨B1, 0, none⟩), .pointer (some ⟨B2, 0, none⟩), z6z, z7z, z8z, z9z, z10z, z11z, z12z, z13z, z14z, z15z, z16z, z17z, z18z, z19z, z20z, z21z, z22z, z23z, z24z, z25z, z26z, z27z, z28z, z29z, z30z, z31z, z32z, z33z, z34z, z35z, z36z, z37z, z38z, y39, y40, y41, y42, y43, y44, y45, y46, y47, y48, y49, y50, y51, y52, y53, y54, y55, y56, y57, y58, y59, y60, y61, y62, y63, y64, y65, y66, y67, y68, y69, y70, y71, y72, y73], DF⟩ (w1.setCell ⟨B1, 0, none⟩ (.bool false)).drew)) :
  Code.wp prog tkR12 (Exit.then K Q0) ⟨#[z0z, .pointer (some ⟨ib, io, none⟩), .pointer (some ⟨B0, 0, none⟩), z3z, .pointer (some ⟨B1, 0, none⟩), .pointer (some ⟨B2, 0, none⟩), z6z, z7z, z8z, z9z, z10z, z11z, z12z, z13z, z14z, z15z, z16z, z17z, z18z, z19z, z20z, z21z, z22z, z23z, z24z, z25z, z26z, z27z, z28z, z29z, z30z, z31z, z32z, z33z, z34z, z35z, z36z, z37z, z38z, z39z, z40z, z41z, z42z, z43z, z44z, z45z, z46z, z47z, z48z, z49z, z50z, z51z, z52z, z53z, z54z, z55z, z56z, z57z, z58z, z59z, z60z, z61z, z62z, z63z, z64z, z65z, z66z, z67z, z68z, z69z, z70z, z71z, z72z, z73z], DF⟩ w1 := by
 conv => arg 2; whnf
 have HT1 : Hid (∀ W : World, W.cell? ⟨fb, fo + 2, none⟩ = some (.int .i64 regs) → Calls prog 97 #[.pointer (some ⟨fb, fo, none⟩), .int .i64 xd, .int .i64 d] W fun e w' => e = .returned (.bool (targetB xd d regs)) ∧ w' = W) := fun W h => hasTarget_any fb fo regs xd d W h r0 r1;have HM1 : Hid (∀ W, Calls prog 98 #[.int .i64 xs, .int .i64 sub] W fun e w' => e = .returned (.bool (mayB xs sub)) ∧ w' = W) := fun W => mayBe_any _ _ _;have HW1 : Hid (∀ W, Calls prog 99 #[.int .i64 k, .int .i64 frame] W fun e w' => e = .returned (.bool (withinB k frame)) ∧ w' = W) := fun W => within64_any _ _ _;rw [ht] at HT1;rw [hm] at HM1;refine wp_region_held_drew (S := (fun w' => w'.cell? ⟨B0, 0, none⟩ = some (.pointer (some ⟨fb, fo, none⟩)) ∧ w'.cell? ⟨B2, 4, none⟩ = some (.int .i64 xd) ∧ w'.cell? ⟨B2, 1, none⟩ = some (.int .i64 xs) ∧ w'.cell? ⟨ib, io, none⟩ = some (.int .i64 op) ∧ w'.cell? ⟨ib, io + 1, none⟩ = some (.int .i64 sub) ∧ w'.cell? ⟨ib, io + 4, none⟩ = some (.int .i64 d) ∧ w'.cell? ⟨ib, io + 5, none⟩ = some (.int .i64 k) ∧ w'.cell? ⟨fb, fo + 3, none⟩ = some (.int .i64 frame) ∧ w'.cell? ⟨fb, fo + 2, none⟩ = some (.int .i64 regs))) (by kernel_rfl) (⟨a0, a1, a2, a3, a4, a5, a6, a7, a8⟩) (fun hHeld => ?_);refine wpAnyH_take (i := 0) (oi := ?oib0) (v := ?vvb0) ?hib0 (by kernel_rfl) (by kernel_rfl) (by kernel_rfl) ?hqb0 ?hyb0 hHeld ?_
 case hib0 => simp only [zga, zgs, zgz]; rfl
 case hqb0 => exact fun _ _ _ h => hQ0 _ _ _ _ _ h
 case hyb0 => refine .inl ⟨by rfl, ?_⟩; intro w' hSw; (try dsimp only at hSw); go_simp; try with_reducible rfl
 simp only [Act.put, zsa, zsz, zss];refine wpAnyH_take (i := 1) (oi := ?oib1) (v := ?vvb1) ?hib1 (by kernel_rfl) (by kernel_rfl) (by kernel_rfl) ?hqb1 ?hyb1 hHeld ?_
 case hib1 => simp only [zga, zgs, zgz]; rfl
 case hqb1 => exact fun _ _ _ h => hQ0 _ _ _ _ _ h
 case hyb1 => refine .inl ⟨by rfl, ?_⟩; intro w' hSw; (try dsimp only at hSw); go_simp; try with_reducible rfl
 simp only [Act.put, zsa, zsz, zss];refine wpAnyH_take (i := 2) (oi := ?oib2) (v := ?vvb2) ?hib2 (by kernel_rfl) (by kernel_rfl) (by kernel_rfl) ?hqb2 ?hyb2 hHeld ?_
 case hib2 => simp only [zga, zgs, zgz]; rfl
 case hqb2 => exact fun _ _ _ h => hQ0 _ _ _ _ _ h
 case hyb2 => refine .inl ⟨by rfl, ?_⟩; intro w' hSw; (try dsimp only at hSw); go_simp; try with_reducible rfl
 simp only [Act.put, zsa, zsz, zss];refine wpAnyH_take (i := 3) (oi := ?oib3) (v := ?vvb3) ?hib3 (by kernel_rfl) (by kernel_rfl) (by kernel_rfl) ?hqb3 ?hyb3 hHeld ?_
 case hib3 => simp only [zga, zgs, zgz]; rfl
 case hqb3 => exact fun _ _ _ h => hQ0 _ _ _ _ _ h
 case hyb3 => refine .inl ⟨by rfl, ?_⟩; intro w' hSw; (try dsimp only at hSw); go_simp; try with_reducible rfl
 simp only [Act.put, zsa, zsz, zss];refine wpAnyH_take (i := 4) (oi := ?oib4) (v := ?vvb4) ?hib4 (by kernel_rfl) (by kernel_rfl) (by kernel_rfl) ?hqb4 ?hyb4 hHeld ?_
 case hib4 => simp only [zga, zgs, zgz]; rfl
 case hqb4 => exact fun _ _ _ h => hQ0 _ _ _ _ _ h
 case hyb4 => refine .inl ⟨by rfl, ?_⟩; intro w' hSw; (try dsimp only at hSw); go_simp; try with_reducible rfl
 simp only [Act.put, zsa, zsz, zss];refine wpAnyH_take (i := 5) (oi := ?oib5) (v := ?vvb5) ?hib5 (by kernel_rfl) (by kernel_rfl) (by kernel_rfl) ?hqb5 ?hyb5 hHeld ?_
 case hib5 => simp only [zga, zgs, zgz]; rfl
 case hqb5 => exact fun _ _ _ h => hQ0 _ _ _ _ _ h
 case hyb5 => refine .inl ⟨by rfl, ?_⟩; intro w' hSw; (try dsimp only at hSw); go_simp; try with_reducible rfl
 simp only [Act.put, zsa, zsz, zss];refine wpAnyH_take (i := 6) (oi := ?oib6) (v := ?vvb6) ?hib6 (by kernel_rfl) (by kernel_rfl) (by kernel_rfl) ?hqb6 ?hyb6 hHeld ?_
 case hib6 => simp only [zga, zgs, zgz]; rfl
 case hqb6 => exact fun _ _ _ h => hQ0 _ _ _ _ _ h
 case hyb6 => refine .inl ⟨by rfl, ?_⟩; intro w' hSw; (try dsimp only at hSw); go_simp; try with_reducible rfl
 simp only [Act.put, zsa, zsz, zss];refine wpAnyH_ready (rs := [7]) (by kernel_rfl) (by simp) ?_;refine AllReadyH.cons (o := ?oib7) ?hib7 (fun K hK => ?_) AllReadyH.nil
 case hib7 => simp only [zga, zgs, zgz]; rfl
 go_simp;refine (HT1.out _ hHeld.2.2.2.2.2.2.2.2).mono ?_;rintro e v7 ⟨rfl, rfl⟩;go_wp2_with fail
 refine hK.out _ _ (hHeld) (fun hN => ?_);clear hK K hHeld;have hHeld := hN;clear hN
 try simp only [Act.put, zsa, zsz, zss]
 refine wpAnyH_take (i := 8) (oi := ?oib8) (v := ?vvb8) ?hib8 (by kernel_rfl) (by kernel_rfl) (by kernel_rfl) ?hqb8 ?hyb8 hHeld ?_
 case hib8 => simp only [zga, zgs, zgz]; rfl
 case hqb8 => exact fun _ _ _ h => hQ0 _ _ _ _ _ h
 case hyb8 => refine .inl ⟨by rfl, ?_⟩; intro w' hSw; (try dsimp only at hSw); go_simp; try with_reducible rfl
 simp only [Act.put, zsa, zsz, zss];refine wpAnyH_take (i := 9) (oi := ?oib9) (v := ?vvb9) ?hib9 (by kernel_rfl) (by kernel_rfl) (by kernel_rfl) ?hqb9 ?hyb9 hHeld ?_
 case hib9 => simp only [zga, zgs, zgz]; rfl
 case hqb9 => exact fun _ _ _ h => hQ0 _ _ _ _ _ h
 case hyb9 => refine .inl ⟨by rfl, ?_⟩; intro w' hSw; (try dsimp only at hSw); go_simp; try with_reducible rfl
 simp only [Act.put, zsa, zsz, zss];refine wpAnyH_take (i := 10) (oi := ?oib10) (v := ?vvb10) ?hib10 (by kernel_rfl) (by kernel_rfl) (by kernel_rfl) ?hqb10 ?hyb10 hHeld ?_
 case hib10 => simp only [zga, zgs, zgz]; rfl
 case hqb10 => exact fun _ _ _ h => hQ0 _ _ _ _ _ h
 case hyb10 => refine .inl ⟨by rfl, ?_⟩; intro w' hSw; (try dsimp only at hSw); go_simp; try with_reducible rfl
 simp only [Act.put, zsa, zsz, zss];refine wpAnyH_take (i := 11) (oi := ?oib11) (v := ?vvb11) ?hib11 (by kernel_rfl) (by kernel_rfl) (by kernel_rfl) ?hqb11 ?hyb11 hHeld ?_
 case hib11 => simp only [zga, zgs, zgz]; rfl
 case hqb11 => exact fun _ _ _ h => hQ0 _ _ _ _ _ h
 case hyb11 => refine .inl ⟨by rfl, ?_⟩; intro w' hSw; (try dsimp only at hSw); go_simp; try with_reducible rfl
 simp only [Act.put, zsa, zsz, zss];refine wpAnyH_take (i := 12) (oi := ?oib12) (v := ?vvb12) ?hib12 (by kernel_rfl) (by kernel_rfl) (by kernel_rfl) ?hqb12 ?hyb12 hHeld ?_
 case hib12 => simp only [zga, zgs, zgz]; rfl
 case hqb12 => exact fun _ _ _ h => hQ0 _ _ _ _ _ h
 case hyb12 => refine .inl ⟨by rfl, ?_⟩; intro w' hSw; (try dsimp only at hSw); go_simp; try with_reducible rfl
 simp only [Act.put, zsa, zsz, zss];refine wpAnyH_take (i := 13) (oi := ?oib13) (v := ?vvb13) ?hib13 (by kernel_rfl) (by kernel_rfl) (by kernel_rfl) ?hqb13 ?hyb13 hHeld ?_
 case hib13 => simp only [zga, zgs, zgz]; rfl
 case hqb13 => exact fun _ _ _ h => hQ0 _ _ _ _ _ h
 case hyb13 => refine .inl ⟨by rfl, ?_⟩; intro w' hSw; (try dsimp only at hSw); go_simp; try with_reducible rfl
 simp only [Act.put, zsa, zsz, zss];refine wpAnyH_take (i := 14) (oi := ?oib14) (v := ?vvb14) ?hib14 (by kernel_rfl) (by kernel_rfl) (by kernel_rfl) ?hqb14 ?hyb14 hHeld ?_
 case hib14 => simp only [zga, zgs, zgz]; rfl
 case hqb14 => exact fun _ _ _ h => hQ0 _ _ _ _ _ h
 case hyb14 => refine .inl ⟨by rfl, ?_⟩; intro w' hSw; (try dsimp only at hSw); go_simp; try with_reducible rfl
 simp only [Act.put, zsa, zsz, zss];refine wpAnyH_ready (rs := [15]) (by kernel_rfl) (by simp) ?_;refine AllReadyH.cons (o := ?oib15) ?hib15 (fun K hK => ?_) AllReadyH.nil
 case hib15 => simp only [zga, zgs, zgz]; rfl
 go_simp;refine (HM1.out _).mono ?_;rintro e v15 ⟨rfl, rfl⟩;go_wp2_with fail
 refine hK.out _ _ (hHeld) (fun hN => ?_);clear hK K hHeld;have hHeld := hN;clear hN
 try simp only [Act.put, zsa, zsz, zss]
 refine wpAnyH_take (i := 16) (oi := ?oib16) (v := ?vvb16) ?hib16 (by kernel_rfl) (by kernel_rfl) (by kernel_rfl) ?hqb16 ?hyb16 hHeld ?_
 case hib16 => simp only [zga, zgs, zgz]; rfl
 case hqb16 => exact fun _ _ _ h => hQ0 _ _ _ _ _ h
 case hyb16 => refine .inl ⟨by rfl, ?_⟩; intro w' hSw; (try dsimp only at hSw); go_simp; try with_reducible rfl
 simp only [Act.put, zsa, zsz, zss];refine wpAnyH_take (i := 17) (oi := ?oib17) (v := ?vvb17) ?hib17 (by kernel_rfl) (by kernel_rfl) (by kernel_rfl) ?hqb17 ?hyb17 hHeld ?_
 case hib17 => simp only [zga, zgs, zgz]; rfl
 case hqb17 => exact fun _ _ _ h => hQ0 _ _ _ _ _ h
 case hyb17 => refine .inl ⟨by rfl, ?_⟩; intro w' hSw; (try dsimp only at hSw); go_simp; try with_reducible rfl
 simp only [Act.put, zsa, zsz, zss];refine wpAnyH_take (i := 18) (oi := ?oib18) (v := undef) ?hib18 (by kernel_rfl) (by kernel_rfl) (by kernel_rfl) ?hqb18 ?hyb18 hHeld ?_
 case hib18 => simp only [zga, zgs, zgz]; rfl
 case hqb18 => exact fun _ _ _ h => hQ0 _ _ _ _ _ h
 case hyb18 => exact Or.inr ⟨by rfl, rfl⟩
 simp only [Act.put, zsa, zsz, zss];refine wpAnyH_take (i := 19) (oi := ?oib19) (v := undef) ?hib19 (by kernel_rfl) (by kernel_rfl) (by kernel_rfl) ?hqb19 ?hyb19 hHeld ?_
 case hib19 => simp only [zga, zgs, zgz]; rfl
 case hqb19 => exact fun _ _ _ h => hQ0 _ _ _ _ _ h
 case hyb19 => exact Or.inr ⟨by rfl, rfl⟩
 simp only [Act.put, zsa, zsz, zss];refine wpAnyH_take (i := 20) (oi := ?oib20) (v := undef) ?hib20 (by kernel_rfl) (by kernel_rfl) (by kernel_rfl) ?hqb20 ?hyb20 hHeld ?_
 case hib20 => simp only [zga, zgs, zgz]; rfl
 case hqb20 => exact fun _ _ _ h => hQ0 _ _ _ _ _ h
 case hyb20 => exact Or.inr ⟨by rfl, rfl⟩
 simp only [Act.put, zsa, zsz, zss];refine wpAnyH_take (i := 21) (oi := ?oib21) (v := undef) ?hib21 (by kernel_rfl) (by kernel_rfl) (by kernel_rfl) ?hqb21 ?hyb21 hHeld ?_
 case hib21 => simp only [zga, zgs, zgz]; rfl
 case hqb21 => exact fun _ _ _ h => hQ0 _ _ _ _ _ h
 case hyb21 => exact Or.inr ⟨by rfl, rfl⟩
 simp only [Act.put, zsa, zsz, zss];refine wpAnyH_take (i := 22) (oi := ?oib22) (v := undef) ?hib22 (by kernel_rfl) (by kernel_rfl) (by kernel_rfl) ?hqb22 ?hyb22 hHeld ?_
 case hib22 => simp only [zga, zgs, zgz]; rfl
 case hqb22 => exact fun _ _ _ h => hQ0 _ _ _ _ _ h
 case hyb22 => exact Or.inr ⟨by rfl, rfl⟩
 simp only [Act.put, zsa, zsz, zss];refine wpAnyH_take (i := 23) (oi := ?oib23) (v := undef) ?hib23 (by kernel_rfl) (by kernel_rfl) (by kernel_rfl) ?hqb23 ?hyb23 hHeld ?_
 case hib23 => simp only [zga, zgs, zgz]; rfl
 case hqb23 => exact fun _ _ _ h => hQ0 _ _ _ _ _ h
 case hyb23 => exact Or.inr ⟨by rfl, rfl⟩
 simp only [Act.put, zsa, zsz, zss];refine wpAnyH_take (i := 24) (oi := ?oib24) (v := undef) ?hib24 (by kernel_rfl) (by kernel_rfl) (by kernel_rfl) ?hqb24 ?hyb24 hHeld ?_
 case hib24 => simp only [zga, zgs, zgz]; rfl
 case hqb24 => exact fun _ _ _ h => hQ0 _ _ _ _ _ h
 case hyb24 => exact Or.inr ⟨by rfl, rfl⟩
 simp only [Act.put, zsa, zsz, zss];refine wpAnyH_take (i := 25) (oi := ?oib25) (v := undef) ?hib25 (by kernel_rfl) (by kernel_rfl) (by kernel_rfl) ?hqb25 ?hyb25 hHeld ?_
 case hib25 => simp only [zga, zgs, zgz]; rfl
 case hqb25 => exact fun _ _ _ h => hQ0 _ _ _ _ _ h
 case hyb25 => exact Or.inr ⟨by rfl, rfl⟩
 simp only [Act.put, zsa, zsz, zss];refine wpAnyH_take (i := 26) (oi := ?oib26) (v := undef) ?hib26 (by kernel_rfl) (by kernel_rfl) (by kernel_rfl) ?hqb26 ?hyb26 hHeld ?_
 case hib26 => simp only [zga, zgs, zgz]; rfl
 case hqb26 => exact fun _ _ _ h => hQ0 _ _ _ _ _ h
 case hyb26 => exact Or.inr ⟨by rfl, rfl⟩
 simp only [Act.put, zsa, zsz, zss];refine wpAnyH_take (i := 27) (oi := ?oib27) (v := undef) ?hib27 (by kernel_rfl) (by kernel_rfl) (by kernel_rfl) ?hqb27 ?hyb27 hHeld ?_
 case hib27 => simp only [zga, zgs, zgz]; rfl
 case hqb27 => exact fun _ _ _ h => hQ0 _ _ _ _ _ h
 case hyb27 => exact Or.inr ⟨by rfl, rfl⟩
 simp only [Act.put, zsa, zsz, zss];refine wpAnyH_take (i := 28) (oi := ?oib28) (v := undef) ?hib28 (by kernel_rfl) (by kernel_rfl) (by kernel_rfl) ?hqb28 ?hyb28 hHeld ?_
 case hib28 => simp only [zga, zgs, zgz]; rfl
 case hqb28 => exact fun _ _ _ h => hQ0 _ _ _ _ _ h
 case hyb28 => exact Or.inr ⟨by rfl, rfl⟩
 simp only [Act.put, zsa, zsz, zss];refine wpAnyH_take (i := 29) (oi := ?oib29) (v := undef) ?hib29 (by kernel_rfl) (by kernel_rfl) (by kernel_rfl) ?hqb29 ?hyb29 hHeld ?_
 case hib29 => simp only [zga, zgs, zgz]; rfl
 case hqb29 => exact fun _ _ _ h => hQ0 _ _ _ _ _ h
 case hyb29 => exact Or.inr ⟨by rfl, rfl⟩
 simp only [Act.put, zsa, zsz, zss];refine wpAnyH_take (i := 30) (oi := ?oib30) (v := undef) ?hib30 (by kernel_rfl) (by kernel_rfl) (by kernel_rfl) ?hqb30 ?hyb30 hHeld ?_
 case hib30 => simp only [zga, zgs, zgz]; rfl
 case hqb30 => exact fun _ _ _ h => hQ0 _ _ _ _ _ h
 case hyb30 => exact Or.inr ⟨by rfl, rfl⟩
 simp only [Act.put, zsa, zsz, zss];refine wpAnyH_take (i := 31) (oi := ?oib31) (v := undef) ?hib31 (by kernel_rfl) (by kernel_rfl) (by kernel_rfl) ?hqb31 ?hyb31 hHeld ?_
 case hib31 => simp only [zga, zgs, zgz]; rfl
 case hqb31 => exact fun _ _ _ h => hQ0 _ _ _ _ _ h
 case hyb31 => exact Or.inr ⟨by rfl, rfl⟩
 simp only [Act.put, zsa, zsz, zss];refine wpAnyH_ready (rs := [32]) (by kernel_rfl) (by simp) ?_;refine AllReadyH.cons (o := ?oib32) ?hib32 (fun K hK => ?_) AllReadyH.nil
 case hib32 => simp only [zga, zgs, zgz]; rfl
 go_simp;refine hK.out _ _ hHeld (fun hN => ?_);clear hK K hHeld;have hHeld := hN;clear hN
 try simp only [Act.put, zsa, zsz, zss]
 refine wpAnyH_take (i := 33) (oi := ?oib33) (v := undef) ?hib33 (by kernel_rfl) (by kernel_rfl) (by kernel_rfl) ?hqb33 ?hyb33 hHeld ?_
 case hib33 => simp only [zga, zgs, zgz]; rfl
 case hqb33 => exact fun _ _ _ h => hQ0 _ _ _ _ _ h
 case hyb33 => exact Or.inr ⟨by rfl, rfl⟩
 simp only [Act.put, zsa, zsz, zss];refine wpAnyH_take (i := 34) (oi := ?oib34) (v := ?vvb34) ?hib34 (by kernel_rfl) (by kernel_rfl) (by kernel_rfl) ?hqb34 ?hyb34 hHeld ?_
 case hib34 => simp only [zga, zgs, zgz]; rfl
 case hqb34 => exact fun _ _ _ h => hQ0 _ _ _ _ _ h
 case hyb34 => refine .inl ⟨by rfl, ?_⟩; intro w' hSw; (try dsimp only at hSw); go_simp; try with_reducible rfl
 simp only [Act.put, zsa, zsz, zss];refine wpAnyH_ready (rs := [35]) (by kernel_rfl) (by simp) ?_;refine AllReadyH.cons (o := ?oib35) ?hib35 (fun K hK => ?_) AllReadyH.nil
 case hib35 => simp only [zga, zgs, zgz]; rfl
 go_simp;refine hK.out _ _ (⟨keep_set hHeld.1 (by simp; omega), keep_set hHeld.2.1 (by simp; omega), keep_set hHeld.2.2.1 (by simp; omega), keep_set hHeld.2.2.2.1 (by simp; omega), keep_set hHeld.2.2.2.2.1 (by simp; omega), keep_set hHeld.2.2.2.2.2.1 (by simp; omega), keep_set hHeld.2.2.2.2.2.2.1 (by simp; omega), keep_set hHeld.2.2.2.2.2.2.2.1 (by simp; omega), keep_set hHeld.2.2.2.2.2.2.2.2 (by simp; omega)⟩) (fun hN => ?_);clear hK K hHeld;have hHeld := hN;clear hN
 try simp only [Act.put, zsa, zsz, zss]
 refine wpAnyH_done (by kernel_rfl) ?_ _;exact HK.out _ _ _ _ _ _ _ _ _ _ _ _ _ _ _ _ _ _ _ _ _ _ _ _ _ _ _ _ _ _ _ _ _ _ _ 

theorem tk_r12c (ib io fb fo B0 B1 B2 : Nat) (xd xs op sub d k regs frame : Int) (z0z z3z z6z z7z z8z z9z z10z z11z z12z z13z z14z z15z z16z z17z z18z z19z z20z z21z z22z z23z z24z z25z z26z z27z z28z z29z z30z z31z z32z z33z z34z z35z z36z z37z z38z z39z z40z z41z z42z z43z z44z z45z z46z z47z z48z z49z z50z z51z z52z z53z z54z z55z z56z z57z z58z z59z z60z z61z z62z z63z z64z z65z z66z z67z z68z z69z z70z z71z z72z z73z : Value) (DF : List Deferred) (K : Act → World → Prop) (Q0 : Exit → Act → World → Prop) (w1 : World)
  (hQ0 : ∀ c (a : Act) (dd : Option Tmp) v x, Q0 (.panic c) (a.put dd v) x → Q0 (.panic c) a x)
  (a0 : w1.cell? ⟨B0, 0, none⟩ = some (.pointer (some ⟨fb, fo, none⟩))) (a1 : w1.cell? ⟨B2, 4, none⟩ = some (.int .i64 xd)) (a2 : w1.cell? ⟨B2, 1, none⟩ = some (.int .i64 xs)) (a3 : w1.cell? ⟨ib, io, none⟩ = some (.int .i64 op)) (a4 : w1.cell? ⟨ib, io + 1, none⟩ = some (.int .i64 sub)) (a5 : w1.cell? ⟨ib, io + 4, none⟩ = some (.int .i64 d)) (a6 : w1.cell? ⟨ib, io + 5, none⟩ = some (.int .i64 k)) (a7 : w1.cell? ⟨fb, fo + 3, none⟩ = some (.int .i64 frame)) (a8 : w1.cell? ⟨fb, fo + 2, none⟩ = some (.int .i64 regs)) (b1 : w1.cell? ⟨B1, 0, none⟩ = some (.bool false)) (z1 : w1.frozen? ⟨B1, 0, none⟩ = false)
  (m0 : B0 ≠ B1) (m2 : B2 ≠ B1) (mi : ib ≠ B1) (mf : fb ≠ B1) (r0 : -9223372036854775808 < regs) (r1 : regs ≤ 9223372036854775807) (ht : targetB xd d regs = true) (hm : mayB xs sub = true) (qo : (op != 9) = true)
  (HK : Hid (∀ y39 y40 y41 y42 y43 y44 y45 y46 y47 y48 y49 y50 y51 y52 y53 y54 y55 y56 y57 y58 y59 y60 y61 y62 y63 y64 y65 y66 y67 y68 y69 y70 y71 y72 y73, K ⟨#[z0z, .pointer (some ⟨ib, io, none⟩), .pointer (some ⟨B0, 0, none⟩), z3z, .pointer (some ⟨B1, 0, none⟩), .pointer (some ⟨B2, 0, none⟩), z6z, z7z, z8z, z9z, z10z, z11z, z12z, z13z, z14z, z15z, z16z, z17z, z18z, z19z, z20z, z21z, z22z, z23z, z24z, z25z, z26z, z27z, z28z, z29z, z30z, z31z, z32z, z33z, z34z, z35z, z36z, z37z, z38z, y39, y40, y41, y42, y43, y44, y45, y46, y47, y48, y49, y50, y51, y52, y53, y54, y55, y56, y57, y58, y59, y60, y61, y62, y63, y64, y65, y66, y67, y68, y69, y70, y71, y72, y73], DF⟩ (w1.setCell ⟨B1, 0, none⟩ (.bool true)).drew)) :
  Code.wp prog tkR12 (Exit.then K Q0) ⟨#[z0z, .pointer (some ⟨ib, io, none⟩), .pointer (some ⟨B0, 0, none⟩), z3z, .pointer (some ⟨B1, 0, none⟩), .pointer (some ⟨B2, 0, none⟩), z6z, z7z, z8z, z9z, z10z, z11z, z12z, z13z, z14z, z15z, z16z, z17z, z18z, z19z, z20z, z21z, z22z, z23z, z24z, z25z, z26z, z27z, z28z, z29z, z30z, z31z, z32z, z33z, z34z, z35z, z36z, z37z, z38z, z39z, z40z, z41z, z42z, z43z, z44z, z45z, z46z, z47z, z48z, z49z, z50z, z51z, z52z, z53z, z54z, z55z, z56z, z57z, z58z, z59z, z60z, z61z, z62z, z63z, z64z, z65z, z66z, z67z, z68z, z69z, z70z, z71z, z72z, z73z], DF⟩ w1 := by
 conv => arg 2; whnf
 have HT1 : Hid (∀ W : World, W.cell? ⟨fb, fo + 2, none⟩ = some (.int .i64 regs) → Calls prog 97 #[.pointer (some ⟨fb, fo, none⟩), .int .i64 xd, .int .i64 d] W fun e w' => e = .returned (.bool (targetB xd d regs)) ∧ w' = W) := fun W h => hasTarget_any fb fo regs xd d W h r0 r1;have HM1 : Hid (∀ W, Calls prog 98 #[.int .i64 xs, .int .i64 sub] W fun e w' => e = .returned (.bool (mayB xs sub)) ∧ w' = W) := fun W => mayBe_any _ _ _;have HW1 : Hid (∀ W, Calls prog 99 #[.int .i64 k, .int .i64 frame] W fun e w' => e = .returned (.bool (withinB k frame)) ∧ w' = W) := fun W => within64_any _ _ _;rw [ht] at HT1;rw [hm] at HM1;refine wp_region_held_drew (S := (fun w' => w'.cell? ⟨B0, 0, none⟩ = some (.pointer (some ⟨fb, fo, none⟩)) ∧ w'.cell? ⟨B2, 4, none⟩ = some (.int .i64 xd) ∧ w'.cell? ⟨B2, 1, none⟩ = some (.int .i64 xs) ∧ w'.cell? ⟨ib, io, none⟩ = some (.int .i64 op) ∧ w'.cell? ⟨ib, io + 1, none⟩ = some (.int .i64 sub) ∧ w'.cell? ⟨ib, io + 4, none⟩ = some (.int .i64 d) ∧ w'.cell? ⟨ib, io + 5, none⟩ = some (.int .i64 k) ∧ w'.cell? ⟨fb, fo + 3, none⟩ = some (.int .i64 frame) ∧ w'.cell? ⟨fb, fo + 2, none⟩ = some (.int .i64 regs))) (by kernel_rfl) (⟨a0, a1, a2, a3, a4, a5, a6, a7, a8⟩) (fun hHeld => ?_);refine wpAnyH_take (i := 0) (oi := ?oic0) (v := ?vvc0) ?hic0 (by kernel_rfl) (by kernel_rfl) (by kernel_rfl) ?hqc0 ?hyc0 hHeld ?_
 case hic0 => simp only [zga, zgs, zgz]; rfl
 case hqc0 => exact fun _ _ _ h => hQ0 _ _ _ _ _ h
 case hyc0 => refine .inl ⟨by rfl, ?_⟩; intro w' hSw; (try dsimp only at hSw); go_simp; try with_reducible rfl
 simp only [Act.put, zsa, zsz, zss];refine wpAnyH_take (i := 1) (oi := ?oic1) (v := ?vvc1) ?hic1 (by kernel_rfl) (by kernel_rfl) (by kernel_rfl) ?hqc1 ?hyc1 hHeld ?_
 case hic1 => simp only [zga, zgs, zgz]; rfl
 case hqc1 => exact fun _ _ _ h => hQ0 _ _ _ _ _ h
 case hyc1 => refine .inl ⟨by rfl, ?_⟩; intro w' hSw; (try dsimp only at hSw); go_simp; try with_reducible rfl
 simp only [Act.put, zsa, zsz, zss];refine wpAnyH_take (i := 2) (oi := ?oic2) (v := ?vvc2) ?hic2 (by kernel_rfl) (by kernel_rfl) (by kernel_rfl) ?hqc2 ?hyc2 hHeld ?_
 case hic2 => simp only [zga, zgs, zgz]; rfl
 case hqc2 => exact fun _ _ _ h => hQ0 _ _ _ _ _ h
 case hyc2 => refine .inl ⟨by rfl, ?_⟩; intro w' hSw; (try dsimp only at hSw); go_simp; try with_reducible rfl
 simp only [Act.put, zsa, zsz, zss];refine wpAnyH_take (i := 3) (oi := ?oic3) (v := ?vvc3) ?hic3 (by kernel_rfl) (by kernel_rfl) (by kernel_rfl) ?hqc3 ?hyc3 hHeld ?_
 case hic3 => simp only [zga, zgs, zgz]; rfl
 case hqc3 => exact fun _ _ _ h => hQ0 _ _ _ _ _ h
 case hyc3 => refine .inl ⟨by rfl, ?_⟩; intro w' hSw; (try dsimp only at hSw); go_simp; try with_reducible rfl
 simp only [Act.put, zsa, zsz, zss];refine wpAnyH_take (i := 4) (oi := ?oic4) (v := ?vvc4) ?hic4 (by kernel_rfl) (by kernel_rfl) (by kernel_rfl) ?hqc4 ?hyc4 hHeld ?_
 case hic4 => simp only [zga, zgs, zgz]; rfl
 case hqc4 => exact fun _ _ _ h => hQ0 _ _ _ _ _ h
 case hyc4 => refine .inl ⟨by rfl, ?_⟩; intro w' hSw; (try dsimp only at hSw); go_simp; try with_reducible rfl
 simp only [Act.put, zsa, zsz, zss];refine wpAnyH_take (i := 5) (oi := ?oic5) (v := ?vvc5) ?hic5 (by kernel_rfl) (by kernel_rfl) (by kernel_rfl) ?hqc5 ?hyc5 hHeld ?_
 case hic5 => simp only [zga, zgs, zgz]; rfl
 case hqc5 => exact fun _ _ _ h => hQ0 _ _ _ _ _ h
 case hyc5 => refine .inl ⟨by rfl, ?_⟩; intro w' hSw; (try dsimp only at hSw); go_simp; try with_reducible rfl
 simp only [Act.put, zsa, zsz, zss];refine wpAnyH_take (i := 6) (oi := ?oic6) (v := ?vvc6) ?hic6 (by kernel_rfl) (by kernel_rfl) (by kernel_rfl) ?hqc6 ?hyc6 hHeld ?_
 case hic6 => simp only [zga, zgs, zgz]; rfl
 case hqc6 => exact fun _ _ _ h => hQ0 _ _ _ _ _ h
 case hyc6 => refine .inl ⟨by rfl, ?_⟩; intro w' hSw; (try dsimp only at hSw); go_simp; try with_reducible rfl
 simp only [Act.put, zsa, zsz, zss];refine wpAnyH_ready (rs := [7]) (by kernel_rfl) (by simp) ?_;refine AllReadyH.cons (o := ?oic7) ?hic7 (fun K hK => ?_) AllReadyH.nil
 case hic7 => simp only [zga, zgs, zgz]; rfl
 go_simp;refine (HT1.out _ hHeld.2.2.2.2.2.2.2.2).mono ?_;rintro e v7 ⟨rfl, rfl⟩;go_wp2_with fail
 refine hK.out _ _ (hHeld) (fun hN => ?_);clear hK K hHeld;have hHeld := hN;clear hN
 try simp only [Act.put, zsa, zsz, zss]
 refine wpAnyH_take (i := 8) (oi := ?oic8) (v := ?vvc8) ?hic8 (by kernel_rfl) (by kernel_rfl) (by kernel_rfl) ?hqc8 ?hyc8 hHeld ?_
 case hic8 => simp only [zga, zgs, zgz]; rfl
 case hqc8 => exact fun _ _ _ h => hQ0 _ _ _ _ _ h
 case hyc8 => refine .inl ⟨by rfl, ?_⟩; intro w' hSw; (try dsimp only at hSw); go_simp; try with_reducible rfl
 simp only [Act.put, zsa, zsz, zss];refine wpAnyH_take (i := 9) (oi := ?oic9) (v := ?vvc9) ?hic9 (by kernel_rfl) (by kernel_rfl) (by kernel_rfl) ?hqc9 ?hyc9 hHeld ?_
 case hic9 => simp only [zga, zgs, zgz]; rfl
 case hqc9 => exact fun _ _ _ h => hQ0 _ _ _ _ _ h
 case hyc9 => refine .inl ⟨by rfl, ?_⟩; intro w' hSw; (try dsimp only at hSw); go_simp; try with_reducible rfl
 simp only [Act.put, zsa, zsz, zss];refine wpAnyH_take (i := 10) (oi := ?oic10) (v := ?vvc10) ?hic10 (by kernel_rfl) (by kernel_rfl) (by kernel_rfl) ?hqc10 ?hyc10 hHeld ?_
 case hic10 => simp only [zga, zgs, zgz]; rfl
 case hqc10 => exact fun _ _ _ h => hQ0 _ _ _ _ _ h
 case hyc10 => refine .inl ⟨by rfl, ?_⟩; intro w' hSw; (try dsimp only at hSw); go_simp; try with_reducible rfl
 simp only [Act.put, zsa, zsz, zss];refine wpAnyH_take (i := 11) (oi := ?oic11) (v := ?vvc11) ?hic11 (by kernel_rfl) (by kernel_rfl) (by kernel_rfl) ?hqc11 ?hyc11 hHeld ?_
 case hic11 => simp only [zga, zgs, zgz]; rfl
 case hqc11 => exact fun _ _ _ h => hQ0 _ _ _ _ _ h
 case hyc11 => refine .inl ⟨by rfl, ?_⟩; intro w' hSw; (try dsimp only at hSw); go_simp; try with_reducible rfl
 simp only [Act.put, zsa, zsz, zss];refine wpAnyH_take (i := 12) (oi := ?oic12) (v := ?vvc12) ?hic12 (by kernel_rfl) (by kernel_rfl) (by kernel_rfl) ?hqc12 ?hyc12 hHeld ?_
 case hic12 => simp only [zga, zgs, zgz]; rfl
 case hqc12 => exact fun _ _ _ h => hQ0 _ _ _ _ _ h
 case hyc12 => refine .inl ⟨by rfl, ?_⟩; intro w' hSw; (try dsimp only at hSw); go_simp; try with_reducible rfl
 simp only [Act.put, zsa, zsz, zss];refine wpAnyH_take (i := 13) (oi := ?oic13) (v := ?vvc13) ?hic13 (by kernel_rfl) (by kernel_rfl) (by kernel_rfl) ?hqc13 ?hyc13 hHeld ?_
 case hic13 => simp only [zga, zgs, zgz]; rfl
 case hqc13 => exact fun _ _ _ h => hQ0 _ _ _ _ _ h
 case hyc13 => refine .inl ⟨by rfl, ?_⟩; intro w' hSw; (try dsimp only at hSw); go_simp; try with_reducible rfl
 simp only [Act.put, zsa, zsz, zss];refine wpAnyH_take (i := 14) (oi := ?oic14) (v := ?vvc14) ?hic14 (by kernel_rfl) (by kernel_rfl) (by kernel_rfl) ?hqc14 ?hyc14 hHeld ?_
 case hic14 => simp only [zga, zgs, zgz]; rfl
 case hqc14 => exact fun _ _ _ h => hQ0 _ _ _ _ _ h
 case hyc14 => refine .inl ⟨by rfl, ?_⟩; intro w' hSw; (try dsimp only at hSw); go_simp; try with_reducible rfl
 simp only [Act.put, zsa, zsz, zss];refine wpAnyH_ready (rs := [15]) (by kernel_rfl) (by simp) ?_;refine AllReadyH.cons (o := ?oic15) ?hic15 (fun K hK => ?_) AllReadyH.nil
 case hic15 => simp only [zga, zgs, zgz]; rfl
 go_simp;refine (HM1.out _).mono ?_;rintro e v15 ⟨rfl, rfl⟩;go_wp2_with fail
 refine hK.out _ _ (hHeld) (fun hN => ?_);clear hK K hHeld;have hHeld := hN;clear hN
 try simp only [Act.put, zsa, zsz, zss]
 refine wpAnyH_take (i := 16) (oi := ?oic16) (v := ?vvc16) ?hic16 (by kernel_rfl) (by kernel_rfl) (by kernel_rfl) ?hqc16 ?hyc16 hHeld ?_
 case hic16 => simp only [zga, zgs, zgz]; rfl
 case hqc16 => exact fun _ _ _ h => hQ0 _ _ _ _ _ h
 case hyc16 => refine .inl ⟨by rfl, ?_⟩; intro w' hSw; (try dsimp only at hSw); go_simp; try with_reducible rfl
 simp only [Act.put, zsa, zsz, zss];refine wpAnyH_take (i := 17) (oi := ?oic17) (v := ?vvc17) ?hic17 (by kernel_rfl) (by kernel_rfl) (by kernel_rfl) ?hqc17 ?hyc17 hHeld ?_
 case hic17 => simp only [zga, zgs, zgz]; rfl
 case hqc17 => exact fun _ _ _ h => hQ0 _ _ _ _ _ h
 case hyc17 => refine .inl ⟨by rfl, ?_⟩; intro w' hSw; (try dsimp only at hSw); go_simp; try with_reducible rfl
 simp only [Act.put, zsa, zsz, zss];refine wpAnyH_take (i := 18) (oi := ?oic18) (v := ?vvc18) ?hic18 (by kernel_rfl) (by kernel_rfl) (by kernel_rfl) ?hqc18 ?hyc18 hHeld ?_
 case hic18 => simp only [zga, zgs, zgz]; rfl
 case hqc18 => exact fun _ _ _ h => hQ0 _ _ _ _ _ h
 case hyc18 => refine .inl ⟨by rfl, ?_⟩; intro w' hSw; (try dsimp only at hSw); go_simp; try with_reducible rfl
 simp only [Act.put, zsa, zsz, zss];refine wpAnyH_take (i := 19) (oi := ?oic19) (v := ?vvc19) ?hic19 (by kernel_rfl) (by kernel_rfl) (by kernel_rfl) ?hqc19 ?hyc19 hHeld ?_
 case hic19 => simp only [zga, zgs, zgz]; rfl
 case hqc19 => exact fun _ _ _ h => hQ0 _ _ _ _ _ h
 case hyc19 => refine .inl ⟨by rfl, ?_⟩; intro w' hSw; (try dsimp only at hSw); go_simp; try with_reducible rfl
 simp only [Act.put, zsa, zsz, zss];refine wpAnyH_take (i := 20) (oi := ?oic20) (v := ?vvc20) ?hic20 (by kernel_rfl) (by kernel_rfl) (by kernel_rfl) ?hqc20 ?hyc20 hHeld ?_
 case hic20 => simp only [zga, zgs, zgz]; rfl
 case hqc20 => exact fun _ _ _ h => hQ0 _ _ _ _ _ h
 case hyc20 => refine .inl ⟨by rfl, ?_⟩; intro w' hSw; (try dsimp only at hSw); go_simp; try with_reducible rfl
 simp only [Act.put, zsa, zsz, zss];refine wpAnyH_take (i := 21) (oi := ?oic21) (v := ?vvc21) ?hic21 (by kernel_rfl) (by kernel_rfl) (by kernel_rfl) ?hqc21 ?hyc21 hHeld ?_
 case hic21 => simp only [zga, zgs, zgz]; rfl
 case hqc21 => exact fun _ _ _ h => hQ0 _ _ _ _ _ h
 case hyc21 => refine .inl ⟨by rfl, ?_⟩; intro w' hSw; (try dsimp only at hSw); go_simp; try with_reducible rfl
 simp only [Act.put, zsa, zsz, zss];refine wpAnyH_take (i := 22) (oi := ?oic22) (v := ?vvc22) ?hic22 (by kernel_rfl) (by kernel_rfl) (by kernel_rfl) ?hqc22 ?hyc22 hHeld ?_
 case hic22 => simp only [zga, zgs, zgz]; rfl
 case hqc22 => exact fun _ _ _ h => hQ0 _ _ _ _ _ h
 case hyc22 => refine .inl ⟨by rfl, ?_⟩; intro w' hSw; (try dsimp only at hSw); go_simp; try with_reducible rfl
 simp only [Act.put, zsa, zsz, zss];refine wpAnyH_take (i := 23) (oi := ?oic23) (v := ?vvc23) ?hic23 (by kernel_rfl) (by kernel_rfl) (by kernel_rfl) ?hqc23 ?hyc23 hHeld ?_
 case hic23 => simp only [zga, zgs, zgz]; rfl
 case hqc23 => exact fun _ _ _ h => hQ0 _ _ _ _ _ h
 case hyc23 => refine .inl ⟨by rfl, ?_⟩; intro w' hSw; (try dsimp only at hSw); go_simp; try with_reducible rfl
 simp only [Act.put, zsa, zsz, zss];refine wpAnyH_take (i := 24) (oi := ?oic24) (v := undef) ?hic24 (by kernel_rfl) (by kernel_rfl) (by kernel_rfl) ?hqc24 ?hyc24 hHeld ?_
 case hic24 => simp only [zga, zgs, zgz]; rfl
 case hqc24 => exact fun _ _ _ h => hQ0 _ _ _ _ _ h
 case hyc24 => exact Or.inr ⟨by rfl, rfl⟩
 simp only [Act.put, zsa, zsz, zss];refine wpAnyH_take (i := 25) (oi := ?oic25) (v := undef) ?hic25 (by kernel_rfl) (by kernel_rfl) (by kernel_rfl) ?hqc25 ?hyc25 hHeld ?_
 case hic25 => simp only [zga, zgs, zgz]; rfl
 case hqc25 => exact fun _ _ _ h => hQ0 _ _ _ _ _ h
 case hyc25 => exact Or.inr ⟨by rfl, rfl⟩
 simp only [Act.put, zsa, zsz, zss];refine wpAnyH_take (i := 26) (oi := ?oic26) (v := undef) ?hic26 (by kernel_rfl) (by kernel_rfl) (by kernel_rfl) ?hqc26 ?hyc26 hHeld ?_
 case hic26 => simp only [zga, zgs, zgz]; rfl
 case hqc26 => exact fun _ _ _ h => hQ0 _ _ _ _ _ h
 case hyc26 => exact Or.inr ⟨by rfl, rfl⟩
 simp only [Act.put, zsa, zsz, zss];refine wpAnyH_take (i := 27) (oi := ?oic27) (v := undef) ?hic27 (by kernel_rfl) (by kernel_rfl) (by kernel_rfl) ?hqc27 ?hyc27 hHeld ?_
 case hic27 => simp only [zga, zgs, zgz]; rfl
 case hqc27 => exact fun _ _ _ h => hQ0 _ _ _ _ _ h
 case hyc27 => exact Or.inr ⟨by rfl, rfl⟩
 simp only [Act.put, zsa, zsz, zss];refine wpAnyH_take (i := 28) (oi := ?oic28) (v := undef) ?hic28 (by kernel_rfl) (by kernel_rfl) (by kernel_rfl) ?hqc28 ?hyc28 hHeld ?_
 case hic28 => simp only [zga, zgs, zgz]; rfl
 case hqc28 => exact fun _ _ _ h => hQ0 _ _ _ _ _ h
 case hyc28 => exact Or.inr ⟨by rfl, rfl⟩
 simp only [Act.put, zsa, zsz, zss];refine wpAnyH_take (i := 29) (oi := ?oic29) (v := undef) ?hic29 (by kernel_rfl) (by kernel_rfl) (by kernel_rfl) ?hqc29 ?hyc29 hHeld ?_
 case hic29 => simp only [zga, zgs, zgz]; rfl
 case hqc29 => exact fun _ _ _ h => hQ0 _ _ _ _ _ h
 case hyc29 => exact Or.inr ⟨by rfl, rfl⟩
 simp only [Act.put, zsa, zsz, zss];refine wpAnyH_take (i := 30) (oi := ?oic30) (v := undef) ?hic30 (by kernel_rfl) (by kernel_rfl) (by kernel_rfl) ?hqc30 ?hyc30 hHeld ?_
 case hic30 => simp only [zga, zgs, zgz]; rfl
 case hqc30 => exact fun _ _ _ h => hQ0 _ _ _ _ _ h
 case hyc30 => exact Or.inr ⟨by rfl, rfl⟩
 simp only [Act.put, zsa, zsz, zss];refine wpAnyH_take (i := 31) (oi := ?oic31) (v := undef) ?hic31 (by kernel_rfl) (by kernel_rfl) (by kernel_rfl) ?hqc31 ?hyc31 hHeld ?_
 case hic31 => simp only [zga, zgs, zgz]; rfl
 case hqc31 => exact fun _ _ _ h => hQ0 _ _ _ _ _ h
 case hyc31 => exact Or.inr ⟨by rfl, rfl⟩
 simp only [Act.put, zsa, zsz, zss];refine wpAnyH_ready (rs := [32]) (by kernel_rfl) (by simp) ?_;refine AllReadyH.cons (o := ?oic32) ?hic32 (fun K hK => ?_) AllReadyH.nil
 case hic32 => simp only [zga, zgs, zgz]; rfl
 go_simp;refine hK.out _ _ hHeld (fun hN => ?_);clear hK K hHeld;have hHeld := hN;clear hN
 try simp only [Act.put, zsa, zsz, zss]
 refine wpAnyH_take (i := 33) (oi := ?oic33) (v := ?vvc33) ?hic33 (by kernel_rfl) (by kernel_rfl) (by kernel_rfl) ?hqc33 ?hyc33 hHeld ?_
 case hic33 => simp only [zga, zgs, zgz]; rfl
 case hqc33 => exact fun _ _ _ h => hQ0 _ _ _ _ _ h
 case hyc33 => refine .inl ⟨by rfl, ?_⟩; intro w' hSw; (try dsimp only at hSw); go_simp; try with_reducible rfl
 simp only [Act.put, zsa, zsz, zss];refine wpAnyH_take (i := 34) (oi := ?oic34) (v := ?vvc34) ?hic34 (by kernel_rfl) (by kernel_rfl) (by kernel_rfl) ?hqc34 ?hyc34 hHeld ?_
 case hic34 => simp only [zga, zgs, zgz]; rfl
 case hqc34 => exact fun _ _ _ h => hQ0 _ _ _ _ _ h
 case hyc34 => refine .inl ⟨by rfl, ?_⟩; intro w' hSw; (try dsimp only at hSw); go_simp; try with_reducible rfl
 simp only [Act.put, zsa, zsz, zss];refine wpAnyH_ready (rs := [35]) (by kernel_rfl) (by simp) ?_;refine AllReadyH.cons (o := ?oic35) ?hic35 (fun K hK => ?_) AllReadyH.nil
 case hic35 => simp only [zga, zgs, zgz]; rfl
 go_simp;refine hK.out _ _ (⟨keep_set hHeld.1 (by simp; omega), keep_set hHeld.2.1 (by simp; omega), keep_set hHeld.2.2.1 (by simp; omega), keep_set hHeld.2.2.2.1 (by simp; omega), keep_set hHeld.2.2.2.2.1 (by simp; omega), keep_set hHeld.2.2.2.2.2.1 (by simp; omega), keep_set hHeld.2.2.2.2.2.2.1 (by simp; omega), keep_set hHeld.2.2.2.2.2.2.2.1 (by simp; omega), keep_set hHeld.2.2.2.2.2.2.2.2 (by simp; omega)⟩) (fun hN => ?_);clear hK K hHeld;have hHeld := hN;clear hN
 try simp only [Act.put, zsa, zsz, zss]
 refine wpAnyH_done (by kernel_rfl) ?_ _;exact HK.out _ _ _ _ _ _ _ _ _ _ _ _ _ _ _ _ _ _ _ _ _ _ _ _ _ _ _ _ _ _ _ _ _ _ _ 

theorem tk_r12d (ib io fb fo B0 B1 B2 : Nat) (xd xs op sub d k regs frame : Int) (z0z z3z z6z z7z z8z z9z z10z z11z z12z z13z z14z z15z z16z z17z z18z z19z z20z z21z z22z z23z z24z z25z z26z z27z z28z z29z z30z z31z z32z z33z z34z z35z z36z z37z z38z z39z z40z z41z z42z z43z z44z z45z z46z z47z z48z z49z z50z z51z z52z z53z z54z z55z z56z z57z z58z z59z z60z z61z z62z z63z z64z z65z z66z z67z z68z z69z z70z z71z z72z z73z : Value) (DF : List Deferred) (K : Act → World → Prop) (Q0 : Exit → Act → World → Prop) (w1 : World)
  (hQ0 : ∀ c (a : Act) (dd : Option Tmp) v x, Q0 (.panic c) (a.put dd v) x → Q0 (.panic c) a x)
  (a0 : w1.cell? ⟨B0, 0, none⟩ = some (.pointer (some ⟨fb, fo, none⟩))) (a1 : w1.cell? ⟨B2, 4, none⟩ = some (.int .i64 xd)) (a2 : w1.cell? ⟨B2, 1, none⟩ = some (.int .i64 xs)) (a3 : w1.cell? ⟨ib, io, none⟩ = some (.int .i64 op)) (a4 : w1.cell? ⟨ib, io + 1, none⟩ = some (.int .i64 sub)) (a5 : w1.cell? ⟨ib, io + 4, none⟩ = some (.int .i64 d)) (a6 : w1.cell? ⟨ib, io + 5, none⟩ = some (.int .i64 k)) (a7 : w1.cell? ⟨fb, fo + 3, none⟩ = some (.int .i64 frame)) (a8 : w1.cell? ⟨fb, fo + 2, none⟩ = some (.int .i64 regs)) (b1 : w1.cell? ⟨B1, 0, none⟩ = some (.bool false)) (z1 : w1.frozen? ⟨B1, 0, none⟩ = false)
  (m0 : B0 ≠ B1) (m2 : B2 ≠ B1) (mi : ib ≠ B1) (mf : fb ≠ B1) (r0 : -9223372036854775808 < regs) (r1 : regs ≤ 9223372036854775807) (ht : targetB xd d regs = true) (hm : mayB xs sub = true) (qo : (op != 9) = false)
  (HK : Hid (∀ y39 y40 y41 y42 y43 y44 y45 y46 y47 y48 y49 y50 y51 y52 y53 y54 y55 y56 y57 y58 y59 y60 y61 y62 y63 y64 y65 y66 y67 y68 y69 y70 y71 y72 y73, K ⟨#[z0z, .pointer (some ⟨ib, io, none⟩), .pointer (some ⟨B0, 0, none⟩), z3z, .pointer (some ⟨B1, 0, none⟩), .pointer (some ⟨B2, 0, none⟩), z6z, z7z, z8z, z9z, z10z, z11z, z12z, z13z, z14z, z15z, z16z, z17z, z18z, z19z, z20z, z21z, z22z, z23z, z24z, z25z, z26z, z27z, z28z, z29z, z30z, z31z, z32z, z33z, z34z, z35z, z36z, z37z, z38z, y39, y40, y41, y42, y43, y44, y45, y46, y47, y48, y49, y50, y51, y52, y53, y54, y55, y56, y57, y58, y59, y60, y61, y62, y63, y64, y65, y66, y67, y68, y69, y70, y71, y72, y73], DF⟩ (w1.setCell ⟨B1, 0, none⟩ (.bool (withinB k frame))).drew)) :
  Code.wp prog tkR12 (Exit.then K Q0) ⟨#[z0z, .pointer (some ⟨ib, io, none⟩), .pointer (some ⟨B0, 0, none⟩), z3z, .pointer (some ⟨B1, 0, none⟩), .pointer (some ⟨B2, 0, none⟩), z6z, z7z, z8z, z9z, z10z, z11z, z12z, z13z, z14z, z15z, z16z, z17z, z18z, z19z, z20z, z21z, z22z, z23z, z24z, z25z, z26z, z27z, z28z, z29z, z30z, z31z, z32z, z33z, z34z, z35z, z36z, z37z, z38z, z39z, z40z, z41z, z42z, z43z, z44z, z45z, z46z, z47z, z48z, z49z, z50z, z51z, z52z, z53z, z54z, z55z, z56z, z57z, z58z, z59z, z60z, z61z, z62z, z63z, z64z, z65z, z66z, z67z, z68z, z69z, z70z, z71z, z72z, z73z], DF⟩ w1 := by
 conv => arg 2; whnf
 have HT1 : Hid (∀ W : World, W.cell? ⟨fb, fo + 2, none⟩ = some (.int .i64 regs) → Calls prog 97 #[.pointer (some ⟨fb, fo, none⟩), .int .i64 xd, .int .i64 d] W fun e w' => e = .returned (.bool (targetB xd d regs)) ∧ w' = W) := fun W h => hasTarget_any fb fo regs xd d W h r0 r1;have HM1 : Hid (∀ W, Calls prog 98 #[.int .i64 xs, .int .i64 sub] W fun e w' => e = .returned (.bool (mayB xs sub)) ∧ w' = W) := fun W => mayBe_any _ _ _;have HW1 : Hid (∀ W, Calls prog 99 #[.int .i64 k, .int .i64 frame] W fun e w' => e = .returned (.bool (withinB k frame)) ∧ w' = W) := fun W => within64_any _ _ _;rw [ht] at HT1;rw [hm] at HM1;refine wp_region_held_drew (S := (fun w' => w'.cell? ⟨B0, 0, none⟩ = some (.pointer (some ⟨fb, fo, none⟩)) ∧ w'.cell? ⟨B2, 4, none⟩ = some (.int .i64 xd) ∧ w'.cell? ⟨B2, 1, none⟩ = some (.int .i64 xs) ∧ w'.cell? ⟨ib, io, none⟩ = some (.int .i64 op) ∧ w'.cell? ⟨ib, io + 1, none⟩ = some (.int .i64 sub) ∧ w'.cell? ⟨ib, io + 4, none⟩ = some (.int .i64 d) ∧ w'.cell? ⟨ib, io + 5, none⟩ = some (.int .i64 k) ∧ w'.cell? ⟨fb, fo + 3, none⟩ = some (.int .i64 frame) ∧ w'.cell? ⟨fb, fo + 2, none⟩ = some (.int .i64 regs))) (by kernel_rfl) (⟨a0, a1, a2, a3, a4, a5, a6, a7, a8⟩) (fun hHeld => ?_);refine wpAnyH_take (i := 0) (oi := ?oid0) (v := ?vvd0) ?hid0 (by kernel_rfl) (by kernel_rfl) (by kernel_rfl) ?hqd0 ?hyd0 hHeld ?_
 case hid0 => simp only [zga, zgs, zgz]; rfl
 case hqd0 => exact fun _ _ _ h => hQ0 _ _ _ _ _ h
 case hyd0 => refine .inl ⟨by rfl, ?_⟩; intro w' hSw; (try dsimp only at hSw); go_simp; try with_reducible rfl
 simp only [Act.put, zsa, zsz, zss];refine wpAnyH_take (i := 1) (oi := ?oid1) (v := ?vvd1) ?hid1 (by kernel_rfl) (by kernel_rfl) (by kernel_rfl) ?hqd1 ?hyd1 hHeld ?_
 case hid1 => simp only [zga, zgs, zgz]; rfl
 case hqd1 => exact fun _ _ _ h => hQ0 _ _ _ _ _ h
 case hyd1 => refine .inl ⟨by rfl, ?_⟩; intro w' hSw; (try dsimp only at hSw); go_simp; try with_reducible rfl
 simp only [Act.put, zsa, zsz, zss];refine wpAnyH_take (i := 2) (oi := ?oid2) (v := ?vvd2) ?hid2 (by kernel_rfl) (by kernel_rfl) (by kernel_rfl) ?hqd2 ?hyd2 hHeld ?_
 case hid2 => simp only [zga, zgs, zgz]; rfl
 case hqd2 => exact fun _ _ _ h => hQ0 _ _ _ _ _ h
 case hyd2 => refine .inl ⟨by rfl, ?_⟩; intro w' hSw; (try dsimp only at hSw); go_simp; try with_reducible rfl
 simp only [Act.put, zsa, zsz, zss];refine wpAnyH_take (i := 3) (oi := ?oid3) (v := ?vvd3) ?hid3 (by kernel_rfl) (by kernel_rfl) (by kernel_rfl) ?hqd3 ?hyd3 hHeld ?_
 case hid3 => simp only [zga, zgs, zgz]; rfl
 case hqd3 => exact fun _ _ _ h => hQ0 _ _ _ _ _ h
 case hyd3 => refine .inl ⟨by rfl, ?_⟩; intro w' hSw; (try dsimp only at hSw); go_simp; try with_reducible rfl
 simp only [Act.put, zsa, zsz, zss];refine wpAnyH_take (i := 4) (oi := ?oid4) (v := ?vvd4) ?hid4 (by kernel_rfl) (by kernel_rfl) (by kernel_rfl) ?hqd4 ?hyd4 hHeld ?_
 case hid4 => simp only [zga, zgs, zgz]; rfl
 case hqd4 => exact fun _ _ _ h => hQ0 _ _ _ _ _ h
 case hyd4 => refine .inl ⟨by rfl, ?_⟩; intro w' hSw; (try dsimp only at hSw); go_simp; try with_reducible rfl
 simp only [Act.put, zsa, zsz, zss];refine wpAnyH_take (i := 5) (oi := ?oid5) (v := ?vvd5) ?hid5 (by kernel_rfl) (by kernel_rfl) (by kernel_rfl) ?hqd5 ?hyd5 hHeld ?_
 case hid5 => simp only [zga, zgs, zgz]; rfl
 case hqd5 => exact fun _ _ _ h => hQ0 _ _ _ _ _ h
 case hyd5 => refine .inl ⟨by rfl, ?_⟩; intro w' hSw; (try dsimp only at hSw); go_simp; try with_reducible rfl
 simp only [Act.put, zsa, zsz, zss];refine wpAnyH_take (i := 6) (oi := ?oid6) (v := ?vvd6) ?hid6 (by kernel_rfl) (by kernel_rfl) (by kernel_rfl) ?hqd6 ?hyd6 hHeld ?_
 case hid6 => simp only [zga, zgs, zgz]; rfl
 case hqd6 => exact fun _ _ _ h => hQ0 _ _ _ _ _ h
 case hyd6 => refine .inl ⟨by rfl, ?_⟩; intro w' hSw; (try dsimp only at hSw); go_simp; try with_reducible rfl
 simp only [Act.put, zsa, zsz, zss];refine wpAnyH_ready (rs := [7]) (by kernel_rfl) (by simp) ?_;refine AllReadyH.cons (o := ?oid7) ?hid7 (fun K hK => ?_) AllReadyH.nil
 case hid7 => simp only [zga, zgs, zgz]; rfl
 go_simp;refine (HT1.out _ hHeld.2.2.2.2.2.2.2.2).mono ?_;rintro e v7 ⟨rfl, rfl⟩;go_wp2_with fail
 refine hK.out _ _ (hHeld) (fun hN => ?_);clear hK K hHeld;have hHeld := hN;clear hN
 try simp only [Act.put, zsa, zsz, zss]
 refine wpAnyH_take (i := 8) (oi := ?oid8) (v := ?vvd8) ?hid8 (by kernel_rfl) (by kernel_rfl) (by kernel_rfl) ?hqd8 ?hyd8 hHeld ?_
 case hid8 => simp only [zga, zgs, zgz]; rfl
 case hqd8 => exact fun _ _ _ h => hQ0 _ _ _ _ _ h
 case hyd8 => refine .inl ⟨by rfl, ?_⟩; intro w' hSw; (try dsimp only at hSw); go_simp; try with_reducible rfl
 simp only [Act.put, zsa, zsz, zss];refine wpAnyH_take (i := 9) (oi := ?oid9) (v := ?vvd9) ?hid9 (by kernel_rfl) (by kernel_rfl) (by kernel_rfl) ?hqd9 ?hyd9 hHeld ?_
 case hid9 => simp only [zga, zgs, zgz]; rfl
 case hqd9 => exact fun _ _ _ h => hQ0 _ _ _ _ _ h
 case hyd9 => refine .inl ⟨by rfl, ?_⟩; intro w' hSw; (try dsimp only at hSw); go_simp; try with_reducible rfl
 simp only [Act.put, zsa, zsz, zss];refine wpAnyH_take (i := 10) (oi := ?oid10) (v := ?vvd10) ?hid10 (by kernel_rfl) (by kernel_rfl) (by kernel_rfl) ?hqd10 ?hyd10 hHeld ?_
 case hid10 => simp only [zga, zgs, zgz]; rfl
 case hqd10 => exact fun _ _ _ h => hQ0 _ _ _ _ _ h
 case hyd10 => refine .inl ⟨by rfl, ?_⟩; intro w' hSw; (try dsimp only at hSw); go_simp; try with_reducible rfl
 simp only [Act.put, zsa, zsz, zss];refine wpAnyH_take (i := 11) (oi := ?oid11) (v := ?vvd11) ?hid11 (by kernel_rfl) (by kernel_rfl) (by kernel_rfl) ?hqd11 ?hyd11 hHeld ?_
 case hid11 => simp only [zga, zgs, zgz]; rfl
 case hqd11 => exact fun _ _ _ h => hQ0 _ _ _ _ _ h
 case hyd11 => refine .inl ⟨by rfl, ?_⟩; intro w' hSw; (try dsimp only at hSw); go_simp; try with_reducible rfl
 simp only [Act.put, zsa, zsz, zss];refine wpAnyH_take (i := 12) (oi := ?oid12) (v := ?vvd12) ?hid12 (by kernel_rfl) (by kernel_rfl) (by kernel_rfl) ?hqd12 ?hyd12 hHeld ?_
 case hid12 => simp only [zga, zgs, zgz]; rfl
 case hqd12 => exact fun _ _ _ h => hQ0 _ _ _ _ _ h
 case hyd12 => refine .inl ⟨by rfl, ?_⟩; intro w' hSw; (try dsimp only at hSw); go_simp; try with_reducible rfl
 simp only [Act.put, zsa, zsz, zss];refine wpAnyH_take (i := 13) (oi := ?oid13) (v := ?vvd13) ?hid13 (by kernel_rfl) (by kernel_rfl) (by kernel_rfl) ?hqd13 ?hyd13 hHeld ?_
 case hid13 => simp only [zga, zgs, zgz]; rfl
 case hqd13 => exact fun _ _ _ h => hQ0 _ _ _ _ _ h
 case hyd13 => refine .inl ⟨by rfl, ?_⟩; intro w' hSw; (try dsimp only at hSw); go_simp; try with_reducible rfl
 simp only [Act.put, zsa, zsz, zss];refine wpAnyH_take (i := 14) (oi := ?oid14) (v := ?vvd14) ?hid14 (by kernel_rfl) (by kernel_rfl) (by kernel_rfl) ?hqd14 ?hyd14 hHeld ?_
 case hid14 => simp only [zga, zgs, zgz]; rfl
 case hqd14 => exact fun _ _ _ h => hQ0 _ _ _ _ _ h
 case hyd14 => refine .inl ⟨by rfl, ?_⟩; intro w' hSw; (try dsimp only at hSw); go_simp; try with_reducible rfl
 simp only [Act.put, zsa, zsz, zss];refine wpAnyH_ready (rs := [15]) (by kernel_rfl) (by simp) ?_;refine AllReadyH.cons (o := ?oid15) ?hid15 (fun K hK => ?_) AllReadyH.nil
 case hid15 => simp only [zga, zgs, zgz]; rfl
 go_simp;refine (HM1.out _).mono ?_;rintro e v15 ⟨rfl, rfl⟩;go_wp2_with fail
 refine hK.out _ _ (hHeld) (fun hN => ?_);clear hK K hHeld;have hHeld := hN;clear hN
 try simp only [Act.put, zsa, zsz, zss]
 refine wpAnyH_take (i := 16) (oi := ?oid16) (v := ?vvd16) ?hid16 (by kernel_rfl) (by kernel_rfl) (by kernel_rfl) ?hqd16 ?hyd16 hHeld ?_
 case hid16 => simp only [zga, zgs, zgz]; rfl
 case hqd16 => exact fun _ _ _ h => hQ0 _ _ _ _ _ h
 case hyd16 => refine .inl ⟨by rfl, ?_⟩; intro w' hSw; (try dsimp only at hSw); go_simp; try with_reducible rfl
 simp only [Act.put, zsa, zsz, zss];refine wpAnyH_take (i := 17) (oi := ?oid17) (v := ?vvd17) ?hid17 (by kernel_rfl) (by kernel_rfl) (by kernel_rfl) ?hqd17 ?hyd17 hHeld ?_
 case hid17 => simp only [zga, zgs, zgz]; rfl
 case hqd17 => exact fun _ _ _ h => hQ0 _ _ _ _ _ h
 case hyd17 => refine .inl ⟨by rfl, ?_⟩; intro w' hSw; (try dsimp only at hSw); go_simp; try with_reducible rfl
 simp only [Act.put, zsa, zsz, zss];refine wpAnyH_take (i := 18) (oi := ?oid18) (v := ?vvd18) ?hid18 (by kernel_rfl) (by kernel_rfl) (by kernel_rfl) ?hqd18 ?hyd18 hHeld ?_
 case hid18 => simp only [zga, zgs, zgz]; rfl
 case hqd18 => exact fun _ _ _ h => hQ0 _ _ _ _ _ h
 case hyd18 => refine .inl ⟨by rfl, ?_⟩; intro w' hSw; (try dsimp only at hSw); go_simp; try with_reducible rfl
 simp only [Act.put, zsa, zsz, zss];refine wpAnyH_take (i := 19) (oi := ?oid19) (v := ?vvd19) ?hid19 (by kernel_rfl) (by kernel_rfl) (by kernel_rfl) ?hqd19 ?hyd19 hHeld ?_
 case hid19 => simp only [zga, zgs, zgz]; rfl
 case hqd19 => exact fun _ _ _ h => hQ0 _ _ _ _ _ h
 case hyd19 => refine .inl ⟨by rfl, ?_⟩; intro w' hSw; (try dsimp only at hSw); go_simp; try with_reducible rfl
 simp only [Act.put, zsa, zsz, zss];refine wpAnyH_take (i := 20) (oi := ?oid20) (v := ?vvd20) ?hid20 (by kernel_rfl) (by kernel_rfl) (by kernel_rfl) ?hqd20 ?hyd20 hHeld ?_
 case hid20 => simp only [zga, zgs, zgz]; rfl
 case hqd20 => exact fun _ _ _ h => hQ0 _ _ _ _ _ h
 case hyd20 => refine .inl ⟨by rfl, ?_⟩; intro w' hSw; (try dsimp only at hSw); go_simp; try with_reducible rfl
 simp only [Act.put, zsa, zsz, zss];refine wpAnyH_take (i := 21) (oi := ?oid21) (v := ?vvd21) ?hid21 (by kernel_rfl) (by kernel_rfl) (by kernel_rfl) ?hqd21 ?hyd21 hHeld ?_
 case hid21 => simp only [zga, zgs, zgz]; rfl
 case hqd21 => exact fun _ _ _ h => hQ0 _ _ _ _ _ h
 case hyd21 => refine .inl ⟨by rfl, ?_⟩; intro w' hSw; (try dsimp only at hSw); go_simp; try with_reducible rfl
 simp only [Act.put, zsa, zsz, zss];refine wpAnyH_take (i := 22) (oi := ?oid22) (v := ?vvd22) ?hid22 (by kernel_rfl) (by kernel_rfl) (by kernel_rfl) ?hqd22 ?hyd22 hHeld ?_
 case hid22 => simp only [zga, zgs, zgz]; rfl
 case hqd22 => exact fun _ _ _ h => hQ0 _ _ _ _ _ h
 case hyd22 => refine .inl ⟨by rfl, ?_⟩; intro w' hSw; (try dsimp only at hSw); go_simp; try with_reducible rfl
 simp only [Act.put, zsa, zsz, zss];refine wpAnyH_take (i := 23) (oi := ?oid23) (v := ?vvd23) ?hid23 (by kernel_rfl) (by kernel_rfl) (by kernel_rfl) ?hqd23 ?hyd23 hHeld ?_
 case hid23 => simp only [zga, zgs, zgz]; rfl
 case hqd23 => exact fun _ _ _ h => hQ0 _ _ _ _ _ h
 case hyd23 => refine .inl ⟨by rfl, ?_⟩; intro w' hSw; (try dsimp only at hSw); go_simp; try with_reducible rfl
 simp only [Act.put, zsa, zsz, zss];refine wpAnyH_take (i := 24) (oi := ?oid24) (v := ?vvd24) ?hid24 (by kernel_rfl) (by kernel_rfl) (by kernel_rfl) ?hqd24 ?hyd24 hHeld ?_
 case hid24 => simp only [zga, zgs, zgz]; rfl
 case hqd24 => exact fun _ _ _ h => hQ0 _ _ _ _ _ h
 case hyd24 => refine .inl ⟨by rfl, ?_⟩; intro w' hSw; (try dsimp only at hSw); go_simp; try with_reducible rfl
 simp only [Act.put, zsa, zsz, zss];refine wpAnyH_take (i := 25) (oi := ?oid25) (v := ?vvd25) ?hid25 (by kernel_rfl) (by kernel_rfl) (by kernel_rfl) ?hqd25 ?hyd25 hHeld ?_
 case hid25 => simp only [zga, zgs, zgz]; rfl
 case hqd25 => exact fun _ _ _ h => hQ0 _ _ _ _ _ h
 case hyd25 => refine .inl ⟨by rfl, ?_⟩; intro w' hSw; (try dsimp only at hSw); go_simp; try with_reducible rfl
 simp only [Act.put, zsa, zsz, zss];refine wpAnyH_take (i := 26) (oi := ?oid26) (v := ?vvd26) ?hid26 (by kernel_rfl) (by kernel_rfl) (by kernel_rfl) ?hqd26 ?hyd26 hHeld ?_
 case hid26 => simp only [zga, zgs, zgz]; rfl
 case hqd26 => exact fun _ _ _ h => hQ0 _ _ _ _ _ h
 case hyd26 => refine .inl ⟨by rfl, ?_⟩; intro w' hSw; (try dsimp only at hSw); go_simp; try with_reducible rfl
 simp only [Act.put, zsa, zsz, zss];refine wpAnyH_take (i := 27) (oi := ?oid27) (v := ?vvd27) ?hid27 (by kernel_rfl) (by kernel_rfl) (by kernel_rfl) ?hqd27 ?hyd27 hHeld ?_
 case hid27 => simp only [zga, zgs, zgz]; rfl
 case hqd27 => exact fun _ _ _ h => hQ0 _ _ _ _ _ h
 case hyd27 => refine .inl ⟨by rfl, ?_⟩; intro w' hSw; (try dsimp only at hSw); go_simp; try with_reducible rfl
 simp only [Act.put, zsa, zsz, zss];refine wpAnyH_take (i := 28) (oi := ?oid28) (v := ?vvd28) ?hid28 (by kernel_rfl) (by kernel_rfl) (by kernel_rfl) ?hqd28 ?hyd28 hHeld ?_
 case hid28 => simp only [zga, zgs, zgz]; rfl
 case hqd28 => exact fun _ _ _ h => hQ0 _ _ _ _ _ h
 case hyd28 => refine .inl ⟨by rfl, ?_⟩; intro w' hSw; (try dsimp only at hSw); go_simp; try with_reducible rfl
 simp only [Act.put, zsa, zsz, zss];refine wpAnyH_take (i := 29) (oi := ?oid29) (v := ?vvd29) ?hid29 (by kernel_rfl) (by kernel_rfl) (by kernel_rfl) ?hqd29 ?hyd29 hHeld ?_
 case hid29 => simp only [zga, zgs, zgz]; rfl
 case hqd29 => exact fun _ _ _ h => hQ0 _ _ _ _ _ h
 case hyd29 => refine .inl ⟨by rfl, ?_⟩; intro w' hSw; (try dsimp only at hSw); go_simp; try with_reducible rfl
 simp only [Act.put, zsa, zsz, zss];refine wpAnyH_take (i := 30) (oi := ?oid30) (v := ?vvd30) ?hid30 (by kernel_rfl) (by kernel_rfl) (by kernel_rfl) ?hqd30 ?hyd30 hHeld ?_
 case hid30 => simp only [zga, zgs, zgz]; rfl
 case hqd30 => exact fun _ _ _ h => hQ0 _ _ _ _ _ h
 case hyd30 => refine .inl ⟨by rfl, ?_⟩; intro w' hSw; (try dsimp only at hSw); go_simp; try with_reducible rfl
 simp only [Act.put, zsa, zsz, zss];refine wpAnyH_take (i := 31) (oi := ?oid31) (v := ?vvd31) ?hid31 (by kernel_rfl) (by kernel_rfl) (by kernel_rfl) ?hqd31 ?hyd31 hHeld ?_
 case hid31 => simp only [zga, zgs, zgz]; rfl
 case hqd31 => exact fun _ _ _ h => hQ0 _ _ _ _ _ h
 case hyd31 => refine .inl ⟨by rfl, ?_⟩; intro w' hSw; (try dsimp only at hSw); go_simp; try with_reducible rfl
 simp only [Act.put, zsa, zsz, zss];refine wpAnyH_ready (rs := [32]) (by kernel_rfl) (by simp) ?_;refine AllReadyH.cons (o := ?oid32) ?hid32 (fun K hK => ?_) AllReadyH.nil
 case hid32 => simp only [zga, zgs, zgz]; rfl
 go_simp;refine (HW1.out _).mono ?_;rintro e v32 ⟨rfl, rfl⟩;go_wp2_with fail
 refine hK.out _ _ (hHeld) (fun hN => ?_);clear hK K hHeld;have hHeld := hN;clear hN
 try simp only [Act.put, zsa, zsz, zss]
 refine wpAnyH_take (i := 33) (oi := ?oid33) (v := ?vvd33) ?hid33 (by kernel_rfl) (by kernel_rfl) (by kernel_rfl) ?hqd33 ?hyd33 hHeld ?_
 case hid33 => simp only [zga, zgs, zgz]; rfl
 case hqd33 => exact fun _ _ _ h => hQ0 _ _ _ _ _ h
 case hyd33 => refine .inl ⟨by rfl, ?_⟩; intro w' hSw; (try dsimp only at hSw); go_simp; try with_reducible rfl
 simp only [Act.put, zsa, zsz, zss];refine wpAnyH_take (i := 34) (oi := ?oid34) (v := ?vvd34) ?hid34 (by kernel_rfl) (by kernel_rfl) (by kernel_rfl) ?hqd34 ?hyd34 hHeld ?_
 case hid34 => simp only [zga, zgs, zgz]; rfl
 case hqd34 => exact fun _ _ _ h => hQ0 _ _ _ _ _ h
 case hyd34 => refine .inl ⟨by rfl, ?_⟩; intro w' hSw; (try dsimp only at hSw); go_simp; try with_reducible rfl
 simp only [Act.put, zsa, zsz, zss];refine wpAnyH_ready (rs := [35]) (by kernel_rfl) (by simp) ?_;refine AllReadyH.cons (o := ?oid35) ?hid35 (fun K hK => ?_) AllReadyH.nil
 case hid35 => simp only [zga, zgs, zgz]; rfl
 go_simp;refine hK.out _ _ (⟨keep_set hHeld.1 (by simp; omega), keep_set hHeld.2.1 (by simp; omega), keep_set hHeld.2.2.1 (by simp; omega), keep_set hHeld.2.2.2.1 (by simp; omega), keep_set hHeld.2.2.2.2.1 (by simp; omega), keep_set hHeld.2.2.2.2.2.1 (by simp; omega), keep_set hHeld.2.2.2.2.2.2.1 (by simp; omega), keep_set hHeld.2.2.2.2.2.2.2.1 (by simp; omega), keep_set hHeld.2.2.2.2.2.2.2.2 (by simp; omega)⟩) (fun hN => ?_);clear hK K hHeld;have hHeld := hN;clear hN
 try simp only [Act.put, zsa, zsz, zss]
 refine wpAnyH_done (by kernel_rfl) ?_ _;exact HK.out _ _ _ _ _ _ _ _ _ _ _ _ _ _ _ _ _ _ _ _ _ _ _ _ _ _ _ _ _ _ _ _ _ _ _ 

theorem tk_r12 (ib io fb fo B0 B1 B2 : Nat) (xd xs op sub d k regs frame : Int) (z0z z3z z6z z7z z8z z9z z10z z11z z12z z13z z14z z15z z16z z17z z18z z19z z20z z21z z22z z23z z24z z25z z26z z27z z28z z29z z30z z31z z32z z33z z34z z35z z36z z37z z38z z39z z40z z41z z42z z43z z44z z45z z46z z47z z48z z49z z50z z51z z52z z53z z54z z55z z56z z57z z58z z59z z60z z61z z62z z63z z64z z65z z66z z67z z68z z69z z70z z71z z72z z73z : Value) (DF : List Deferred) (K : Act → World → Prop) (Q0 : Exit → Act → World → Prop) (w1 : World)
  (hQ0 : ∀ c (a : Act) (dd : Option Tmp) v x, Q0 (.panic c) (a.put dd v) x → Q0 (.panic c) a x)
  (a0 : w1.cell? ⟨B0, 0, none⟩ = some (.pointer (some ⟨fb, fo, none⟩))) (a1 : w1.cell? ⟨B2, 4, none⟩ = some (.int .i64 xd)) (a2 : w1.cell? ⟨B2, 1, none⟩ = some (.int .i64 xs)) (a3 : w1.cell? ⟨ib, io, none⟩ = some (.int .i64 op)) (a4 : w1.cell? ⟨ib, io + 1, none⟩ = some (.int .i64 sub)) (a5 : w1.cell? ⟨ib, io + 4, none⟩ = some (.int .i64 d)) (a6 : w1.cell? ⟨ib, io + 5, none⟩ = some (.int .i64 k)) (a7 : w1.cell? ⟨fb, fo + 3, none⟩ = some (.int .i64 frame)) (a8 : w1.cell? ⟨fb, fo + 2, none⟩ = some (.int .i64 regs)) (b1 : w1.cell? ⟨B1, 0, none⟩ = some (.bool false)) (z1 : w1.frozen? ⟨B1, 0, none⟩ = false)
  (m0 : B0 ≠ B1) (m2 : B2 ≠ B1) (mi : ib ≠ B1) (mf : fb ≠ B1) (r0 : -9223372036854775808 < regs) (r1 : regs ≤ 9223372036854775807) (r : Bool) (hr : r = (targetB xd d regs && mayB xs sub && (op != 9 || withinB k frame)))
  (HK : Hid (∀ y39 y40 y41 y42 y43 y44 y45 y46 y47 y48 y49 y50 y51 y52 y53 y54 y55 y56 y57 y58 y59 y60 y61 y62 y63 y64 y65 y66 y67 y68 y69 y70 y71 y72 y73, K ⟨#[z0z, .pointer (some ⟨ib, io, none⟩), .pointer (some ⟨B0, 0, none⟩), z3z, .pointer (some ⟨B1, 0, none⟩), .pointer (some ⟨B2, 0, none⟩), z6z, z7z, z8z, z9z, z10z, z11z, z12z, z13z, z14z, z15z, z16z, z17z, z18z, z19z, z20z, z21z, z22z, z23z, z24z, z25z, z26z, z27z, z28z, z29z, z30z, z31z, z32z, z33z, z34z, z35z, z36z, z37z, z38z, y39, y40, y41, y42, y43, y44, y45, y46, y47, y48, y49, y50, y51, y52, y53, y54, y55, y56, y57, y58, y59, y60, y61, y62, y63, y64, y65, y66, y67, y68, y69, y70, y71, y72, y73], DF⟩ (w1.setCell ⟨B1, 0, none⟩ (.bool r)).drew)) :
  Code.wp prog tkR12 (Exit.then K Q0) ⟨#[z0z, .pointer (some ⟨ib, io, none⟩), .pointer (some ⟨B0, 0, none⟩), z3z, .pointer (some ⟨B1, 0, none⟩), .pointer (some ⟨B2, 0, none⟩), z6z, z7z, z8z, z9z, z10z, z11z, z12z, z13z, z14z, z15z, z16z, z17z, z18z, z19z, z20z, z21z, z22z, z23z, z24z, z25z, z26z, z27z, z28z, z29z, z30z, z31z, z32z, z33z, z34z, z35z, z36z, z37z, z38z, z39z, z40z, z41z, z42z, z43z, z44z, z45z, z46z, z47z, z48z, z49z, z50z, z51z, z52z, z53z, z54z, z55z, z56z, z57z, z58z, z59z, z60z, z61z, z62z, z63z, z64z, z65z, z66z, z67z, z68z, z69z, z70z, z71z, z72z, z73z], DF⟩ w1 := by
 cases ht : targetB xd d regs with
 | false =>
  have e : r = false := by rw [hr, ht]; rfl
  subst e;exact tk_r12a ib io fb fo B0 B1 B2 xd xs op sub d k regs frame z0z z3z z6z z7z z8z z9z z10z z11z z12z z13z z14z z15z z16z z17z z18z z19z z20z z21z z22z z23z z24z z25z z26z z27z z28z z29z z30z z31z z32z z33z z34z z35z z36z z37z z38z z39z z40z z41z z42z z43z z44z z45z z46z z47z z48z z49z z50z z51z z52z z53z z54z z55z z56z z57z z58z z59z z60z z61z z62z z63z z64z z65z z66z z67z z68z z69z z70z z71z z72z z73z DF K Q0 w1 hQ0 a0 a1 a2 a3 a4 a5 a6 a7 a8 b1 z1 m0 m2 mi mf r0 r1 ht HK
 | true =>
  cases hm : mayB xs sub with
  | false =>
   have e : r = false := by rw [hr, ht, hm]; rfl
   subst e;exact tk_r12b ib io fb fo B0 B1 B2 xd xs op sub d k regs frame z0z z3z z6z z7z z8z z9z z10z z11z z12z z13z z14z z15z z16z z17z z18z z19z z20z z21z z22z z23z z24z z25z z26z z27z z28z z29z z30z z31z z32z z33z z34z z35z z36z z37z z38z z39z z40z z41z z42z z43z z44z z45z z46z z47z z48z z49z z50z z51z z52z z53z z54z z55z z56z z57z z58z z59z z60z z61z z62z z63z z64z z65z z66z z67z z68z z69z z70z z71z z72z z73z DF K Q0 w1 hQ0 a0 a1 a2 a3 a4 a5 a6 a7 a8 b1 z1 m0 m2 mi mf r0 r1 ht hm HK
  | true =>
   cases qo : (op != 9) with
   | true =>
    have e : r = true := by rw [hr, ht, hm, qo]; rfl
    subst e;exact tk_r12c ib io fb fo B0 B1 B2 xd xs op sub d k regs frame z0z z3z z6z z7z z8z z9z z10z z11z z12z z13z z14z z15z z16z z17z z18z z19z z20z z21z z22z z23z z24z z25z z26z z27z z28z z29z z30z z31z z32z z33z z34z z35z z36z z37z z38z z39z z40z z41z z42z z43z z44z z45z z46z z47z z48z z49z z50z z51z z52z z53z z54z z55z z56z z57z z58z z59z z60z z61z z62z z63z z64z z65z z66z z67z z68z z69z z70z z71z z72z z73z DF K Q0 w1 hQ0 a0 a1 a2 a3 a4 a5 a6 a7 a8 b1 z1 m0 m2 mi mf r0 r1 ht hm qo HK
   | false =>
    have e : r = withinB k frame := by rw [hr, ht, hm, qo]; rfl
    subst e;exact tk_r12d ib io fb fo B0 B1 B2 xd xs op sub d k regs frame z0z z3z z6z z7z z8z z9z z10z z11z z12z z13z z14z z15z z16z z17z z18z z19z z20z z21z z22z z23z z24z z25z z26z z27z z28z z29z z30z z31z z32z z33z z34z z35z z36z z37z z38z z39z z40z z41z z42z z43z z44z z45z z46z z47z z48z z49z z50z z51z z52z z53z z54z z55z z56z z57z z58z z59z z60z z61z z62z z63z z64z z65z z66z z67z z68z z69z z70z z71z z72z z73z DF K Q0 w1 hQ0 a0 a1 a2 a3 a4 a5 a6 a7 a8 b1 z1 m0 m2 mi mf r0 r1 ht hm qo HK

end Go.Proofs.YtncondlfngeilaaGreatDoor
