/- AsmGood: which programs are well formed: the program says of every program what the document says, and a copy is the same; its walk. -/
import Derived.Test.YtofnnpchobgapaaGreatDoorAsEq
import Derived.Test.YtofnnpchobgapaaGreatDoorAsCp3
import Derived.Test.YtofnnpchobgapaaGreatDoorAsS1
import Derived.Test.YtofnnpchobgapaaGreatDoorAsFw
import Derived.Test.YtofnnpchobgapaaGreatDoorAsTb
namespace Go.Proofs.YtofnnpchobgapaaGreatDoor
open Go.ChangeShapes Go.WideShapes Go.ChangeAt Go.RowKit
set_option linter.unusedSimpArgs false
set_option linter.unusedVariables false

set_option maxRecDepth 100000 in
set_option maxHeartbeats 8000000 in
theorem asmGood_short (ga fa : Option Addr) (ng gc nf fc : Nat) (main params : Int) (p : APg) (g : Bool) (w : World) (HG : Hid (GoodA p = g)) (HM : Hid (p.main = main ∧ p.params = params)) (HP : Hid (APgV w (.agg #[.slice ga ng gc, .slice fa nf fc, .int .i64 main, .int .i64 params]) p)) (HT : Hid (AsTab w))
    (HA : Hid (∀ W, Below w.heap.size w W → Calls Tryz.prog 5 #[] W (retP (.bool true) W))) :
    Calls Tryz.prog 3 #[.agg #[.slice ga ng gc, .slice fa nf fc, .int .i64 main, .int .i64 params]] w (retP (.bool true) w) := by
  go_enter Tryz.func3, Tryz.ntmps3
  go_wp2_with (go_at_call 5; refine (HA.out _ (bel_alloc (Below.refl _ _) _)).mono ?_; rintro e w1 ⟨rfl, hb1⟩; have x0 := keep_cell hb1 (p := ⟨w.heap.size, 0, none⟩) (v := .slice ga ng gc) (by simp); have x1 := keep_cell hb1 (p := ⟨w.heap.size, 1, none⟩) (v := .slice fa nf fc) (by simp); have x2 := keep_cell hb1 (p := ⟨w.heap.size, 2, none⟩) (v := .int .i64 main) (by simp); have x3 := keep_cell hb1 (p := ⟨w.heap.size, 3, none⟩) (v := .int .i64 params) (by simp); have HB1 : Hid (Below w.heap.size w w1) := bel_trans (bel_alloc (Below.refl _ _) _) hb1; clear hb1)
  refine (afew_any (HP.out.keep HB1.out)).mono ?_
  rintro e w2 ⟨b, rfl, hb2⟩
  have HB2 : Hid (Below w.heap.size w w2) := bel_trans HB1.out hb2
  replace x0 := keep_cell hb2 x0
  replace x1 := keep_cell hb2 x1
  replace x2 := keep_cell hb2 x2
  replace x3 := keep_cell hb2 x3
  clear hb2 HB1
  cases b with
  | false =>
    go_wp2
    go_ret
    exact ⟨rfl, HB2.out⟩
  | true =>
    go_wp2_with fail
    refine (acopy_any (HP.out.keep HB2.out)).mono ?_
    rintro e w3 ⟨v2, rfl, hq, hb3⟩
    have HQ0 := hid hq
    obtain ⟨gv, fv, rfl, hg, hf⟩ := hq
    rw [HM.out.1, HM.out.2] at HQ0 ⊢
    obtain ⟨ha, hc, rfl, _⟩ := ail_len hg
    have hf' := hf
    obtain ⟨ka, kc, rfl, _⟩ := hf'
    obtain ⟨mg, hmg⟩ : ∃ n, n = p.globals.length := ⟨_, rfl⟩
    obtain ⟨mf, hmf⟩ : ∃ n, n = p.funcs.length := ⟨_, rfl⟩
    rw [← hmg, ← hmf] at HQ0 ⊢
    have HB3 : Hid (Below w.heap.size w w3) := bel_trans HB2.out hb3
    replace x0 := keep_cell hb3 x0
    replace x1 := keep_cell hb3 x1
    replace x2 := keep_cell hb3 x2
    replace x3 := keep_cell hb3 x3
    clear hg hf hmg hmf hb3 HB2
    have HB4 : Hid (Below w.heap.size w (w3.alloc (.cells #[.slice ha mg hc, .slice ka mf kc, .int .i64 main, .int .i64 params] 25))) := bel_alloc HB3.out _
    have HQ : Hid (APgV (w3.alloc (.cells #[.slice ha mg hc, .slice ka mf kc, .int .i64 main, .int .i64 params] 25)) (.agg #[.slice ha mg hc, .slice ka mf kc, .int .i64 main, .int .i64 params]) p) := HQ0.out.keep ((Below.refl _ _).alloc (Nat.le_refl _) _)
    have HC1 : Hid (∀ W, Below (w3.alloc (.cells #[.slice ha mg hc, .slice ka mf kc, .int .i64 main, .int .i64 params] 25)).heap.size (w3.alloc (.cells #[.slice ha mg hc, .slice ka mf kc, .int .i64 main, .int .i64 params] 25)) W → Calls Tryz.prog 8 #[.agg #[.slice ga ng gc, .slice fa nf fc, .int .i64 main, .int .i64 params]] W (retP (.bool g) W)) := fun W hW => by
      have h := aGood_any (HP.out.keep (bel_trans HB4.out hW)) (HT.out.keep (bel_trans HB4.out hW))
      rw [HG.out] at h
      exact h
    have HC2 : Hid (∀ W, Below (w3.alloc (.cells #[.slice ha mg hc, .slice ka mf kc, .int .i64 main, .int .i64 params] 25)).heap.size (w3.alloc (.cells #[.slice ha mg hc, .slice ka mf kc, .int .i64 main, .int .i64 params] 25)) W → Calls Tryz.prog 9 #[.agg #[.slice ha mg hc, .slice ka mf kc, .int .i64 main, .int .i64 params]] W (retP (.bool g) W)) := fun W hW => by
      have h := rGoodA_any (HQ.out.keep hW)
      rw [← good_eqA, HG.out] at h
      exact h
    have HC3 : Hid (∀ W, Below (w3.alloc (.cells #[.slice ha mg hc, .slice ka mf kc, .int .i64 main, .int .i64 params] 25)).heap.size (w3.alloc (.cells #[.slice ha mg hc, .slice ka mf kc, .int .i64 main, .int .i64 params] 25)) W → Calls Tryz.prog 10 #[.agg #[.slice ga ng gc, .slice fa nf fc, .int .i64 main, .int .i64 params], .agg #[.slice ha mg hc, .slice ka mf kc, .int .i64 main, .int .i64 params]] W (retP (.bool true) W)) := fun W hW => asameP_any (HP.out.keep (bel_trans HB4.out hW)) (HQ.out.keep hW)
    have X0 := keep_alloc x0 (.cells #[.slice ha mg hc, .slice ka mf kc, .int .i64 main, .int .i64 params] 25)
    have X1 := keep_alloc x1 (.cells #[.slice ha mg hc, .slice ka mf kc, .int .i64 main, .int .i64 params] 25)
    have X2 := keep_alloc x2 (.cells #[.slice ha mg hc, .slice ka mf kc, .int .i64 main, .int .i64 params] 25)
    have X3 := keep_alloc x3 (.cells #[.slice ha mg hc, .slice ka mf kc, .int .i64 main, .int .i64 params] 25)
    have hdB : ∀ {A0 A1 A2 A3 A4 A5 A6 A7 : Prop} {x : World}, A0 ∧ A1 ∧ A2 ∧ A3 ∧ A4 ∧ A5 ∧ A6 ∧ A7 ∧ Below (w3.alloc (.cells #[.slice ha mg hc, .slice ka mf kc, .int .i64 main, .int .i64 params] 25)).heap.size (w3.alloc (.cells #[.slice ha mg hc, .slice ka mf kc, .int .i64 main, .int .i64 params] 25)) x → Below (w3.alloc (.cells #[.slice ha mg hc, .slice ka mf kc, .int .i64 main, .int .i64 params] 25)).heap.size (w3.alloc (.cells #[.slice ha mg hc, .slice ka mf kc, .int .i64 main, .int .i64 params] 25)) x := fun h => h.2.2.2.2.2.2.2.2
    have hdS : ∀ {g : World}, Below (w3.alloc (.cells #[.slice ha mg hc, .slice ka mf kc, .int .i64 main, .int .i64 params] 25)).heap.size (w3.alloc (.cells #[.slice ha mg hc, .slice ka mf kc, .int .i64 main, .int .i64 params] 25)) g → (g.cell? ⟨w.heap.size, 0, none⟩ = some (.slice ga ng gc) ∧ g.cell? ⟨w.heap.size, 1, none⟩ = some (.slice fa nf fc) ∧ g.cell? ⟨w.heap.size, 2, none⟩ = some (.int .i64 main) ∧ g.cell? ⟨w.heap.size, 3, none⟩ = some (.int .i64 params) ∧ g.cell? ⟨w3.heap.size, 0, none⟩ = some (.slice ha mg hc) ∧ g.cell? ⟨w3.heap.size, 1, none⟩ = some (.slice ka mf kc) ∧ g.cell? ⟨w3.heap.size, 2, none⟩ = some (.int .i64 main) ∧ g.cell? ⟨w3.heap.size, 3, none⟩ = some (.int .i64 params) ∧ Below (w3.alloc (.cells #[.slice ha mg hc, .slice ka mf kc, .int .i64 main, .int .i64 params] 25)).heap.size (w3.alloc (.cells #[.slice ha mg hc, .slice ka mf kc, .int .i64 main, .int .i64 params] 25)) g) := fun h => ⟨keep_cell h X0, keep_cell h X1, keep_cell h X2, keep_cell h X3, keep_cell h (by simp), keep_cell h (by simp), keep_cell h (by simp), keep_cell h (by simp), h⟩
    have hgg : (g == g) = true := beq_self_eq_true g
    go_wp2_with fail
    refine wp_region_held_drew (S := (fun w' => w'.cell? ⟨w.heap.size, 0, none⟩ = some (.slice ga ng gc) ∧ w'.cell? ⟨w.heap.size, 1, none⟩ = some (.slice fa nf fc) ∧ w'.cell? ⟨w.heap.size, 2, none⟩ = some (.int .i64 main) ∧ w'.cell? ⟨w.heap.size, 3, none⟩ = some (.int .i64 params) ∧ w'.cell? ⟨w3.heap.size, 0, none⟩ = some (.slice ha mg hc) ∧ w'.cell? ⟨w3.heap.size, 1, none⟩ = some (.slice ka mf kc) ∧ w'.cell? ⟨w3.heap.size, 2, none⟩ = some (.int .i64 main) ∧ w'.cell? ⟨w3.heap.size, 3, none⟩ = some (.int .i64 params) ∧ Below (w3.alloc (.cells #[.slice ha mg hc, .slice ka mf kc, .int .i64 main, .int .i64 params] 25)).heap.size (w3.alloc (.cells #[.slice ha mg hc, .slice ka mf kc, .int .i64 main, .int .i64 params] 25)) w')) (by kernel_rfl) (hdS (Below.drew (Below.refl _ _))) (fun hHeld => ?_)
    refine wpAnyH_take (i := 0) (oi := ?oia0) (v := ?vva0) ?hia0 (by kernel_rfl) (by kernel_rfl) (by kernel_rfl) ?hqa0 ?hya0 hHeld ?_
    case hia0 => simp only [List.getElem?_toArray, List.getElem?_cons_succ, List.getElem?_cons_zero]; rfl
    case hqa0 => exact fun _ _ _ h => h
    case hya0 => (refine Or.inl ⟨by rfl, ?_⟩; intro w' hSw; (try dsimp only at hSw); go_simp; (try (with_reducible rfl)))
    simp only [Act.put, List.setIfInBounds_toArray, List.set_cons_zero, List.set_cons_succ]
    refine wpAnyH_take (i := 2) (oi := ?oia2) (v := ?vva2) ?hia2 (by kernel_rfl) (by kernel_rfl) (by kernel_rfl) ?hqa2 ?hya2 hHeld ?_
    case hia2 => simp only [List.getElem?_toArray, List.getElem?_cons_succ, List.getElem?_cons_zero]; rfl
    case hqa2 => exact fun _ _ _ h => h
    case hya2 => (refine Or.inl ⟨by rfl, ?_⟩; intro w' hSw; (try dsimp only at hSw); go_simp; (try (with_reducible rfl)))
    simp only [Act.put, List.setIfInBounds_toArray, List.set_cons_zero, List.set_cons_succ]
    refine wpAnyH_ready (rs := [1]) (by kernel_rfl) (by simp) ?_
    refine AllReadyH.cons (o := ?oia1) ?hia1 (fun K hK => ?_) AllReadyH.nil
    case hia1 => simp only [List.getElem?_toArray, List.getElem?_cons_succ, List.getElem?_cons_zero]; rfl
    go_simp
    refine (HC1.out _ (hdB hHeld)).mono ?_
    rintro e v1 ⟨rfl, hv1⟩
    go_wp2_with fail
    refine hK.out _ _ (hdS (bel_trans (hdB hHeld) hv1)) (fun hN => ?_)
    clear hK K hHeld
    have hHeld := hN
    clear hN
    try simp only [Act.put, List.setIfInBounds_toArray, List.set_cons_zero, List.set_cons_succ]
    refine wpAnyH_ready (rs := [3]) (by kernel_rfl) (by simp) ?_
    refine AllReadyH.cons (o := ?oia3) ?hia3 (fun K hK => ?_) AllReadyH.nil
    case hia3 => simp only [List.getElem?_toArray, List.getElem?_cons_succ, List.getElem?_cons_zero]; rfl
    go_simp
    refine (HC2.out _ (hdB hHeld)).mono ?_
    rintro e v3 ⟨rfl, hv3⟩
    go_wp2_with fail
    refine hK.out _ _ (hdS (bel_trans (hdB hHeld) hv3)) (fun hN => ?_)
    clear hK K hHeld
    have hHeld := hN
    clear hN
    try simp only [Act.put, List.setIfInBounds_toArray, List.set_cons_zero, List.set_cons_succ]
    refine wpAnyH_take (i := 4) (oi := ?oia4) (v := ?vva4) ?hia4 (by kernel_rfl) (by kernel_rfl) (by kernel_rfl) ?hqa4 ?hya4 hHeld ?_
    case hia4 => simp only [List.getElem?_toArray, List.getElem?_cons_succ, List.getElem?_cons_zero]; rfl
    case hqa4 => exact fun _ _ _ h => h
    case hya4 => (refine Or.inl ⟨by rfl, ?_⟩; intro w' hSw; (try dsimp only at hSw); go_simp; (try (with_reducible rfl)))
    simp only [Act.put, List.setIfInBounds_toArray, List.set_cons_zero, List.set_cons_succ]
    refine wpAnyH_take (i := 5) (oi := ?oia5) (v := ?vva5) ?hia5 (by kernel_rfl) (by kernel_rfl) (by kernel_rfl) ?hqa5 ?hya5 hHeld ?_
    case hia5 => simp only [List.getElem?_toArray, List.getElem?_cons_succ, List.getElem?_cons_zero]; rfl
    case hqa5 => exact fun _ _ _ h => h
    case hya5 => (refine Or.inl ⟨by rfl, ?_⟩; intro w' hSw; (try dsimp only at hSw); go_simp; (try (with_reducible rfl)))
    simp only [Act.put, List.setIfInBounds_toArray, List.set_cons_zero, List.set_cons_succ]
    refine wpAnyH_take (i := 6) (oi := ?oia6) (v := ?vva6) ?hia6 (by kernel_rfl) (by kernel_rfl) (by kernel_rfl) ?hqa6 ?hya6 hHeld ?_
    case hia6 => simp only [List.getElem?_toArray, List.getElem?_cons_succ, List.getElem?_cons_zero]; rfl
    case hqa6 => exact fun _ _ _ h => h
    case hya6 => (refine Or.inl ⟨by rfl, ?_⟩; intro w' hSw; (try dsimp only at hSw); go_simp; (try (with_reducible rfl)))
    simp only [Act.put, List.setIfInBounds_toArray, List.set_cons_zero, List.set_cons_succ]
    refine wpAnyH_take (i := 7) (oi := ?oia7) (v := ?vva7) ?hia7 (by kernel_rfl) (by kernel_rfl) (by kernel_rfl) ?hqa7 ?hya7 hHeld ?_
    case hia7 => simp only [List.getElem?_toArray, List.getElem?_cons_succ, List.getElem?_cons_zero]; rfl
    case hqa7 => exact fun _ _ _ h => h
    case hya7 => (refine Or.inl ⟨by rfl, ?_⟩; intro w' hSw; (try dsimp only at hSw); go_simp; (try (with_reducible rfl)))
    simp only [Act.put, List.setIfInBounds_toArray, List.set_cons_zero, List.set_cons_succ]
    refine wpAnyH_ready (rs := [8]) (by kernel_rfl) (by simp) ?_
    refine AllReadyH.cons (o := ?oia8) ?hia8 (fun K hK => ?_) AllReadyH.nil
    case hia8 => simp only [List.getElem?_toArray, List.getElem?_cons_succ, List.getElem?_cons_zero]; rfl
    go_simp
    refine (HC3.out _ (hdB hHeld)).mono ?_
    rintro e v8 ⟨rfl, hv8⟩
    go_wp2_with fail
    refine hK.out _ _ (hdS (bel_trans (hdB hHeld) hv8)) (fun hN => ?_)
    clear hK K hHeld
    have hHeld := hN
    clear hN
    try simp only [Act.put, List.setIfInBounds_toArray, List.set_cons_zero, List.set_cons_succ]
    refine wpAnyH_take (i := 9) (oi := ?oia9) (v := ?vva9) ?hia9 (by kernel_rfl) (by kernel_rfl) (by kernel_rfl) ?hqa9 ?hya9 hHeld ?_
    case hia9 => simp only [List.getElem?_toArray, List.getElem?_cons_succ, List.getElem?_cons_zero]; rfl
    case hqa9 => exact fun _ _ _ h => h
    case hya9 => (refine Or.inl ⟨by rfl, ?_⟩; intro w' hSw; (try dsimp only at hSw); go_simp; (try (with_reducible rfl)))
    simp only [Act.put, List.setIfInBounds_toArray, List.set_cons_zero, List.set_cons_succ]
    refine wpAnyH_take (i := 10) (oi := ?oia10) (v := ?vva10) ?hia10 (by kernel_rfl) (by kernel_rfl) (by kernel_rfl) ?hqa10 ?hya10 hHeld ?_
    case hia10 => simp only [List.getElem?_toArray, List.getElem?_cons_succ, List.getElem?_cons_zero]; rfl
    case hqa10 => exact fun _ _ _ h => h
    case hya10 => (refine Or.inl ⟨by rfl, ?_⟩; intro w' hSw; (try dsimp only at hSw); go_simp; (try (with_reducible rfl)))
    simp only [Act.put, List.setIfInBounds_toArray, List.set_cons_zero, List.set_cons_succ]
    refine wpAnyH_done (by kernel_rfl) ?_ _
    have HBf := hid (bel_trans HB4.out (hdB hHeld))
    clear hHeld hdB hdS
    go_wp2
    go_ret
    exact ⟨rfl, HBf.out⟩
theorem asmGood_walk (v : Value) (p : APg) (W : World) (hp : APgV W v p) (h : laidMetH Tryz.prog laidY W) : Calls Tryz.prog 3 #[v] W (retP (.bool true) W) := by
  have hp' := hp
  obtain ⟨gv, fv, rfl, hg, hf⟩ := hp'
  obtain ⟨ga, gc, rfl, _⟩ := ail_len hg
  have hf' := hf
  obtain ⟨fa, fc, rfl, _⟩ := hf'
  exact asmGood_short ga fa _ gc _ fc p.main p.params p _ W rfl ⟨rfl, rfl⟩ hp (astab_of W h) (awake_walk W h)
end Go.Proofs.YtofnnpchobgapaaGreatDoor

