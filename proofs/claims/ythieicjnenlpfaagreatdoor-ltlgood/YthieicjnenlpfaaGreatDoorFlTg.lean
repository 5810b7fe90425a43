/- Package rtl: the register that an instruction writes. -/
import Derived.Test.YthieicjnenlpfaaGreatDoorGIter
import Derived.Test.YthieicjnenlpfaaGreatDoorFlBase
namespace Go.Proofs.YthieicjnenlpfaaGreatDoor
open Go.ChangeShapes Go.WideShapes Go.ChangeAt Go.RowKit
set_option linter.unusedSimpArgs false
set_option linter.unusedVariables false

theorem field4 (nm : ByteArray) (ks xa xb xd : Int) (xk xg xs xt : Bool) (w : World) : (Instr.field 97 (.agg #[.string nm, .int .i64 ks, .int .i64 xa, .int .i64 xb, .int .i64 xd, .bool xk, .bool xg, .bool xs, .bool xt]) 4).run Tryz.prog w = .ok (.int .i64 xd) w := by kernel_rfl
theorem end_2 {P : Program} {fn : Func} {a : Act} {w w' : World} {v : Value} (hr : (results fn a.tmps).run P w' = .ok v w') (hd : a.defers = []) (hb : Below w.heap.size w w') : bodyPost P fn (retP v w) .ret a w' := bodyPost_ret hr hd ⟨rfl, hb⟩
theorem bdrew {B : Nat} {a w : World} (h : Below B a w) : Below B a w.drew := ⟨h.os, h.tape, h.output, h.size, h.block⟩
set_option maxRecDepth 100000 in
set_option maxHeartbeats 8000000 in
theorem target_walk (op sub a b d k : Int) (va : Option Addr) (vn vc : Nat) (s t : Int) (x : Sp) (w : World) (HX : Hid (shOf op = x)) (HT : Hid (ShTab w)) :
    Calls Tryz.prog 37 #[.agg #[.int .i64 op, .int .i64 sub, .int .i64 a, .int .i64 b, .int .i64 d, .int .i64 k, .slice va vn vc, .int .i64 s, .int .i64 t]] w (retP (if readB x.d d = true then .tuple #[.int .i64 d, .bool true] else .tuple #[.int .i64 0, .bool false]) w) := by
  have HR : Hid (∀ W, Calls Tryz.prog 53 #[.int .i64 x.d, .int .i64 d] W fun e w' => e = .returned (.bool (readB x.d d)) ∧ w' = W) := fun W => isRegister_any x.d d W
  have hf4 := field4 x.name x.sub x.a x.b x.d x.k x.args x.s x.t
  cases hq : readB x.d d
  · rw [hq] at HR
    go_enter Tryz.func37, Tryz.ntmps37
    go_upto_region 1 with fail
    refine wp_region_held_drew (S := (fun w' => w'.cell? ⟨w.heap.size, 0, none⟩ = some (.int .i64 op) ∧ w'.cell? ⟨w.heap.size, 4, none⟩ = some (.int .i64 d) ∧ Hid (Below w.heap.size w w') ∧ Hid (ShTab w'))) (by kernel_rfl) (⟨by simp, by simp, hidF (bdrew (bel_alloc (Below.refl _ _) _)), hidF (HT.out.keep (bdrew (bel_alloc (Below.refl _ _) _)))⟩) (fun hHeld => ?_)
    refine wpAnyH_take (i := 0) (oi := ?oib0) (v := ?vvb0) ?hib0 (by kernel_rfl) (by kernel_rfl) (by kernel_rfl) ?hqb0 ?hyb0 hHeld ?_
    case hib0 => simp only [List.getElem?_toArray, List.getElem?_cons_succ, List.getElem?_cons_zero]; rfl
    case hqb0 => exact fun _ _ _ h => h
    case hyb0 => (refine Or.inl ⟨by rfl, ?_⟩; intro w' hSw; (try dsimp only at hSw); go_simp; (try (with_reducible rfl)))
    simp only [Act.put, List.setIfInBounds_toArray, List.set_cons_zero, List.set_cons_succ]
    refine wpAnyH_take (i := 1) (oi := ?oib1) (v := ?vvb1) ?hib1 (by kernel_rfl) (by kernel_rfl) (by kernel_rfl) ?hqb1 ?hyb1 hHeld ?_
    case hib1 => simp only [List.getElem?_toArray, List.getElem?_cons_succ, List.getElem?_cons_zero]; rfl
    case hqb1 => exact fun _ _ _ h => h
    case hyb1 => (refine Or.inl ⟨by rfl, ?_⟩; intro w' hSw; (try dsimp only at hSw); go_simp; (try (with_reducible rfl)))
    simp only [Act.put, List.setIfInBounds_toArray, List.set_cons_zero, List.set_cons_succ]
    refine wpAnyH_take (i := 4) (oi := ?oib4) (v := ?vvb4) ?hib4 (by kernel_rfl) (by kernel_rfl) (by kernel_rfl) ?hqb4 ?hyb4 hHeld ?_
    case hib4 => simp only [List.getElem?_toArray, List.getElem?_cons_succ, List.getElem?_cons_zero]; rfl
    case hqb4 => exact fun _ _ _ h => h
    case hyb4 => (refine Or.inl ⟨by rfl, ?_⟩; intro w' hSw; (try dsimp only at hSw); go_simp; (try (with_reducible rfl)))
    simp only [Act.put, List.setIfInBounds_toArray, List.set_cons_zero, List.set_cons_succ]
    refine wpAnyH_take (i := 5) (oi := ?oib5) (v := ?vvb5) ?hib5 (by kernel_rfl) (by kernel_rfl) (by kernel_rfl) ?hqb5 ?hyb5 hHeld ?_
    case hib5 => simp only [List.getElem?_toArray, List.getElem?_cons_succ, List.getElem?_cons_zero]; rfl
    case hqb5 => exact fun _ _ _ h => h
    case hyb5 => (refine Or.inl ⟨by rfl, ?_⟩; intro w' hSw; (try dsimp only at hSw); go_simp; (try (with_reducible rfl)))
    simp only [Act.put, List.setIfInBounds_toArray, List.set_cons_zero, List.set_cons_succ]
    refine wpAnyH_ready (rs := [2]) (by kernel_rfl) (by simp) ?_
    refine AllReadyH.cons (o := ?oib2) ?hib2 (fun K hK => ?_) AllReadyH.nil
    case hib2 => simp only [List.getElem?_toArray, List.getElem?_cons_succ, List.getElem?_cons_zero]; rfl
    go_simp
    refine (shapeOf_any op _ hHeld.2.2.2.out).mono ?_
    rintro e v2 ⟨rfl, hb1⟩
    rw [HX.out]
    simp only [spV]
    go_wp2_with fail
    refine hK.out _ _ (⟨keep_cell hb1 hHeld.1, keep_cell hb1 hHeld.2.1, hidF (bel_trans hHeld.2.2.1.out hb1), hidF (hHeld.2.2.2.out.keep hb1)⟩) (fun hN => ?_)
    clear hK K hHeld
    have hHeld := hN
    clear hN
    try simp only [Act.put, List.setIfInBounds_toArray, List.set_cons_zero, List.set_cons_succ]
    refine wpAnyH_take (i := 3) (oi := ?oib3) (v := ?vvb3) ?hib3 (by kernel_rfl) (by kernel_rfl) (by kernel_rfl) ?hqb3 ?hyb3 hHeld ?_
    case hib3 => simp only [List.getElem?_toArray, List.getElem?_cons_succ, List.getElem?_cons_zero]; rfl
    case hqb3 => exact fun _ _ _ h => h
    case hyb3 => (refine Or.inl ⟨by rfl, ?_⟩; intro w' hSw; (try dsimp only at hSw); go_simp; (try (with_reducible rfl)))
    simp only [Act.put, List.setIfInBounds_toArray, List.set_cons_zero, List.set_cons_succ]
    refine wpAnyH_ready (rs := [6]) (by kernel_rfl) (by simp) ?_
    refine AllReadyH.cons (o := ?oib6) ?hib6 (fun K hK => ?_) AllReadyH.nil
    case hib6 => simp only [List.getElem?_toArray, List.getElem?_cons_succ, List.getElem?_cons_zero]; rfl
    go_simp
    refine (HR.out _).mono ?_
    rintro e v6 ⟨rfl, rfl⟩
    go_wp2_with fail
    refine hK.out _ _ (hHeld) (fun hN => ?_)
    clear hK K hHeld
    have hHeld := hN
    clear hN
    try simp only [Act.put, List.setIfInBounds_toArray, List.set_cons_zero, List.set_cons_succ]
    refine wpAnyH_take (i := 7) (oi := ?oib7) (v := ?vvb7) ?hib7 (by kernel_rfl) (by kernel_rfl) (by kernel_rfl) ?hqb7 ?hyb7 hHeld ?_
    case hib7 => simp only [List.getElem?_toArray, List.getElem?_cons_succ, List.getElem?_cons_zero]; rfl
    case hqb7 => exact fun _ _ _ h => h
    case hyb7 => (refine Or.inl ⟨by rfl, ?_⟩; intro w' hSw; (try dsimp only at hSw); go_simp; (try (with_reducible rfl)))
    simp only [Act.put, List.setIfInBounds_toArray, List.set_cons_zero, List.set_cons_succ]
    refine wpAnyH_done (by kernel_rfl) ?_ _
    go_wp2
    exact end_2 (by simp [results, Tryz.results37, go_sem]) rfl hHeld.2.2.1.out
  · rw [hq] at HR
    go_enter Tryz.func37, Tryz.ntmps37
    go_upto_region 1 with fail
    refine wp_region_held_drew (S := (fun w' => w'.cell? ⟨w.heap.size, 0, none⟩ = some (.int .i64 op) ∧ w'.cell? ⟨w.heap.size, 4, none⟩ = some (.int .i64 d) ∧ Hid (Below w.heap.size w w') ∧ Hid (ShTab w'))) (by kernel_rfl) (⟨by simp, by simp, hidF (bdrew (bel_alloc (Below.refl _ _) _)), hidF (HT.out.keep (bdrew (bel_alloc (Below.refl _ _) _)))⟩) (fun hHeld => ?_)
    refine wpAnyH_take (i := 0) (oi := ?oid0) (v := ?vvd0) ?hid0 (by kernel_rfl) (by kernel_rfl) (by kernel_rfl) ?hqd0 ?hyd0 hHeld ?_
    case hid0 => simp only [List.getElem?_toArray, List.getElem?_cons_succ, List.getElem?_cons_zero]; rfl
    case hqd0 => exact fun _ _ _ h => h
    case hyd0 => (refine Or.inl ⟨by rfl, ?_⟩; intro w' hSw; (try dsimp only at hSw); go_simp; (try (with_reducible rfl)))
    simp only [Act.put, List.setIfInBounds_toArray, List.set_cons_zero, List.set_cons_succ]
    refine wpAnyH_take (i := 1) (oi := ?oid1) (v := ?vvd1) ?hid1 (by kernel_rfl) (by kernel_rfl) (by kernel_rfl) ?hqd1 ?hyd1 hHeld ?_
    case hid1 => simp only [List.getElem?_toArray, List.getElem?_cons_succ, List.getElem?_cons_zero]; rfl
    case hqd1 => exact fun _ _ _ h => h
    case hyd1 => (refine Or.inl ⟨by rfl, ?_⟩; intro w' hSw; (try dsimp only at hSw); go_simp; (try (with_reducible rfl)))
    simp only [Act.put, List.setIfInBounds_toArray, List.set_cons_zero, List.set_cons_succ]
    refine wpAnyH_take (i := 4) (oi := ?oid4) (v := ?vvd4) ?hid4 (by kernel_rfl) (by kernel_rfl) (by kernel_rfl) ?hqd4 ?hyd4 hHeld ?_
    case hid4 => simp only [List.getElem?_toArray, List.getElem?_cons_succ, List.getElem?_cons_zero]; rfl
    case hqd4 => exact fun _ _ _ h => h
    case hyd4 => (refine Or.inl ⟨by rfl, ?_⟩; intro w' hSw; (try dsimp only at hSw); go_simp; (try (with_reducible rfl)))
    simp only [Act.put, List.setIfInBounds_toArray, List.set_cons_zero, List.set_cons_succ]
    refine wpAnyH_take (i := 5) (oi := ?oid5) (v := ?vvd5) ?hid5 (by kernel_rfl) (by kernel_rfl) (by kernel_rfl) ?hqd5 ?hyd5 hHeld ?_
    case hid5 => simp only [List.getElem?_toArray, List.getElem?_cons_succ, List.getElem?_cons_zero]; rfl
    case hqd5 => exact fun _ _ _ h => h
    case hyd5 => (refine Or.inl ⟨by rfl, ?_⟩; intro w' hSw; (try dsimp only at hSw); go_simp; (try (with_reducible rfl)))
    simp only [Act.put, List.setIfInBounds_toArray, List.set_cons_zero, List.set_cons_succ]
    refine wpAnyH_ready (rs := [2]) (by kernel_rfl) (by simp) ?_
    refine AllReadyH.cons (o := ?oid2) ?hid2 (fun K hK => ?_) AllReadyH.nil
    case hid2 => simp only [List.getElem?_toArray, List.getElem?_cons_succ, List.getElem?_cons_zero]; rfl
    go_simp
    refine (shapeOf_any op _ hHeld.2.2.2.out).mono ?_
    rintro e v2 ⟨rfl, hb1⟩
    rw [HX.out]
    simp only [spV]
    go_wp2_with fail
    refine hK.out _ _ (⟨keep_cell hb1 hHeld.1, keep_cell hb1 hHeld.2.1, hidF (bel_trans hHeld.2.2.1.out hb1), hidF (hHeld.2.2.2.out.keep hb1)⟩) (fun hN => ?_)
    clear hK K hHeld
    have hHeld := hN
    clear hN
    try simp only [Act.put, List.setIfInBounds_toArray, List.set_cons_zero, List.set_cons_succ]
    refine wpAnyH_take (i := 3) (oi := ?oid3) (v := ?vvd3) ?hid3 (by kernel_rfl) (by kernel_rfl) (by kernel_rfl) ?hqd3 ?hyd3 hHeld ?_
    case hid3 => simp only [List.getElem?_toArray, List.getElem?_cons_succ, List.getElem?_cons_zero]; rfl
    case hqd3 => exact fun _ _ _ h => h
    case hyd3 => (refine Or.inl ⟨by rfl, ?_⟩; intro w' hSw; (try dsimp only at hSw); go_simp; (try (with_reducible rfl)))
    simp only [Act.put, List.setIfInBounds_toArray, List.set_cons_zero, List.set_cons_succ]
    refine wpAnyH_ready (rs := [6]) (by kernel_rfl) (by simp) ?_
    refine AllReadyH.cons (o := ?oid6) ?hid6 (fun K hK => ?_) AllReadyH.nil
    case hid6 => simp only [List.getElem?_toArray, List.getElem?_cons_succ, List.getElem?_cons_zero]; rfl
    go_simp
    refine (HR.out _).mono ?_
    rintro e v6 ⟨rfl, rfl⟩
    go_wp2_with fail
    refine hK.out _ _ (hHeld) (fun hN => ?_)
    clear hK K hHeld
    have hHeld := hN
    clear hN
    try simp only [Act.put, List.setIfInBounds_toArray, List.set_cons_zero, List.set_cons_succ]
    refine wpAnyH_take (i := 7) (oi := ?oid7) (v := ?vvd7) ?hid7 (by kernel_rfl) (by kernel_rfl) (by kernel_rfl) ?hqd7 ?hyd7 hHeld ?_
    case hid7 => simp only [List.getElem?_toArray, List.getElem?_cons_succ, List.getElem?_cons_zero]; rfl
    case hqd7 => exact fun _ _ _ h => h
    case hyd7 => (refine Or.inl ⟨by rfl, ?_⟩; intro w' hSw; (try dsimp only at hSw); go_simp; (try (with_reducible rfl)))
    simp only [Act.put, List.setIfInBounds_toArray, List.set_cons_zero, List.set_cons_succ]
    refine wpAnyH_done (by kernel_rfl) ?_ _
    go_wp2
    exact end_2 (by simp [results, Tryz.results37, go_sem]) rfl hHeld.2.2.1.out
end Go.Proofs.YthieicjnenlpfaaGreatDoor

