/- The document's own graphs: two programs that are the same are said to be, whole. -/
import Derived.Test.YtfepkekielopmaaGreatDoorRSame
namespace Go.Proofs.YtfepkekielopmaaGreatDoor
open Go.ChangeShapes Go.WideShapes Go.ChangeAt Go.RowKit
set_option linter.unusedSimpArgs false
set_option linter.unusedVariables false

set_option maxRecDepth 100000 in
set_option maxHeartbeats 20000000 in
theorem sameP_walk (main : Int) (ga ha ca da : Option Addr) (ng gc hc gb go hb ho n cc dc cb co db do_ : Nat) (globals : List Int) (funcs : List Fn) (w : World) (hp : ng * 8 ≤ 140737488355328) (hn : n * 88 ≤ 140737488355328) (HNP : Hid (ng = globals.length)) (HNC : Hid (n = funcs.length))
    (HPA : Hid (0 < ng → ga = some ⟨gb, go, none⟩)) (HQA : Hid (0 < ng → ha = some ⟨hb, ho, none⟩)) (HCA : Hid (0 < n → ca = some ⟨cb, co, none⟩)) (HDA : Hid (0 < n → da = some ⟨db, do_, none⟩))
    (HPC : Hid (∀ (i : Nat) x, globals[i]? = some x → w.cell? ⟨gb, go + i, none⟩ = some (.int .i64 x))) (HQC : Hid (∀ (i : Nat) x, globals[i]? = some x → w.cell? ⟨hb, ho + i, none⟩ = some (.int .i64 x)))
    (HCC : Hid (∀ (i : Nat) x, funcs[i]? = some x → FnAt w cb (co + i * 6) x)) (HDC : Hid (∀ (i : Nat) x, funcs[i]? = some x → FnAt w db (do_ + i * 6) x)) :
    Calls Tryz.prog 12 #[.agg #[.slice ga ng gc, .slice ca n cc, .int .i64 main], .agg #[.slice ha ng hc, .slice da n dc, .int .i64 main]] w (retP (.bool true) w) := by
  have hpm : (ng : Int) ≤ 9223372036854775807 := by omega
  have hnm : (n : Int) ≤ 9223372036854775807 := by omega
  go_enter Tryz.func12, Tryz.ntmps12
  go_wp2
  go_loopw [5] (fun vv wz => ∃ i : Nat, i ≤ ng ∧ vv = .int .i64 i ∧ Hid (Below ((w.alloc (.cells #[.slice ga ng gc, .slice ca n cc, .int .i64 main] 25 (0, 0))).alloc (.cells #[.slice ha ng hc, .slice da n dc, .int .i64 main] 25 (0, 0))).heap.size ((w.alloc (.cells #[.slice ga ng gc, .slice ca n cc, .int .i64 main] 25 (0, 0))).alloc (.cells #[.slice ha ng hc, .slice da n dc, .int .i64 main] 25 (0, 0))) wz)) (fun vv _ => ng - (intOf vv).toNat)
  case atStart => exact ⟨0, by omega, rfl, Below.refl _ _⟩
  case round =>
    obtain ⟨i, hi, rfl, HBz⟩ := hrel
    rename World => wz
    have x0 := keep_cell (p := ⟨w.heap.size, 0, none⟩) HBz.out (v := .slice ga ng gc) (by simp)
    have y0 := keep_cell (p := ⟨w.heap.size + 1, 0, none⟩) HBz.out (v := .slice ha ng hc) (by simp)
    have x1 := keep_cell (p := ⟨w.heap.size, 1, none⟩) HBz.out (v := .slice ca n cc) (by simp)
    have y1 := keep_cell (p := ⟨w.heap.size + 1, 1, none⟩) HBz.out (v := .slice da n dc) (by simp)
    by_cases hin : i < ng
    · obtain rfl := HPA.out (by omega)
      obtain rfl := HQA.out (by omega)
      have j0 : (0 : Int) ≤ i := by omega
      have j1 : (i : Int) < ng := by omega
      have hget := List.getElem?_eq_getElem (l := globals) (show i < globals.length by rw [← HNP.out]; exact hin)
      generalize globals[i]'(by rw [← HNP.out]; exact hin) = y at hget
      have cx := keep_cell HBz.out (keep_alloc (keep_alloc (HPC.out i y hget) _) _)
      have cy := keep_cell HBz.out (keep_alloc (keep_alloc (HQC.out i y hget) _) _)
      clear hget
      go_wp2_with fail
      go_quiet (fail)
      go_wp2
      go_roundw
      case rel => exact ⟨i + 1, by omega, by simp, hid (bel_drewN HBz.out _)⟩
      case measure => simp [intOf]; omega
    · obtain rfl : ng = i := by omega
      go_wp2
      go_loopw [6] (fun vv wz => ∃ i : Nat, i ≤ n ∧ vv = .int .i64 i ∧ Hid (Below ((w.alloc (.cells #[.slice ga ng gc, .slice ca n cc, .int .i64 main] 25 (0, 0))).alloc (.cells #[.slice ha ng hc, .slice da n dc, .int .i64 main] 25 (0, 0))).heap.size ((w.alloc (.cells #[.slice ga ng gc, .slice ca n cc, .int .i64 main] 25 (0, 0))).alloc (.cells #[.slice ha ng hc, .slice da n dc, .int .i64 main] 25 (0, 0))) wz)) (fun vv _ => n - (intOf vv).toNat)
      case atStart => exact ⟨0, by omega, rfl, HBz⟩
      case round =>
        obtain ⟨i, hi, rfl, HBz⟩ := hrel
        rename World => wz
        have x1 := keep_cell (p := ⟨w.heap.size, 1, none⟩) HBz.out (v := .slice ca n cc) (by simp)
        have y1 := keep_cell (p := ⟨w.heap.size + 1, 1, none⟩) HBz.out (v := .slice da n dc) (by simp)
        by_cases hin : i < n
        · obtain rfl := HCA.out (by omega)
          obtain rfl := HDA.out (by omega)
          have j0 : (0 : Int) ≤ i := by omega
          have j1 : (i : Int) < n := by omega
          have hget := List.getElem?_eq_getElem (l := funcs) (show i < funcs.length by rw [← HNC.out]; exact hin)
          generalize funcs[i]'(by rw [← HNC.out]; exact hin) = z at hget
          have hbb : Below w.heap.size w wz := bel_trans (bel_alloc (bel_alloc (Below.refl _ _) _) _) HBz.out
          obtain ⟨pv, cv, hp, hcd, hnm2, c0, c1, c2, c3, c4, c5⟩ := (HCC.out i z hget).keep hbb
          obtain ⟨qv, dv, hq, hdd, _, d0, d1, d2, d3, d4, d5⟩ := (HDC.out i z hget).keep hbb
          have HSI : Hid (∀ W, Below wz.heap.size wz W → Calls Tryz.prog 28 #[.agg #[.string z.name, pv, .int .i64 z.regs, .int .i64 z.frame, .int .i64 z.entry, cv], .agg #[.string z.name, qv, .int .i64 z.regs, .int .i64 z.frame, .int .i64 z.entry, dv]] W (retP (.bool true) W)) := fun W hW => sameF_any (f := z) ⟨pv, cv, rfl, hp.keep hW, hcd.keep hW, hnm2⟩ ⟨qv, dv, rfl, hq.keep hW, hdd.keep hW, hnm2⟩
          clear hget hp hq hcd hdd hbb
          have hdB : ∀ {A0 A1 A2 A3 A4 A5 A6 A7 A8 A9 A10 A11 A12 A13 : Prop} {x : World}, A0 ∧ A1 ∧ A2 ∧ A3 ∧ A4 ∧ A5 ∧ A6 ∧ A7 ∧ A8 ∧ A9 ∧ A10 ∧ A11 ∧ A12 ∧ A13 ∧ Below wz.heap.size wz x → Below wz.heap.size wz x := fun h => h.2.2.2.2.2.2.2.2.2.2.2.2.2.2
          have hdS : ∀ {g : World}, Below wz.heap.size wz g → (g.cell? ⟨w.heap.size, 1, none⟩ = some (.slice (some ⟨cb, co, none⟩) n cc) ∧ g.cell? ⟨w.heap.size + 1, 1, none⟩ = some (.slice (some ⟨db, do_, none⟩) n dc) ∧ g.cell? ⟨cb, co + i * 6, none⟩ = some (.string z.name) ∧ g.cell? ⟨cb, co + i * 6 + 1, none⟩ = some (pv) ∧ g.cell? ⟨cb, co + i * 6 + 2, none⟩ = some (.int .i64 z.regs) ∧ g.cell? ⟨cb, co + i * 6 + 3, none⟩ = some (.int .i64 z.frame) ∧ g.cell? ⟨cb, co + i * 6 + 4, none⟩ = some (.int .i64 z.entry) ∧ g.cell? ⟨cb, co + i * 6 + 5, none⟩ = some (cv) ∧ g.cell? ⟨db, do_ + i * 6, none⟩ = some (.string z.name) ∧ g.cell? ⟨db, do_ + i * 6 + 1, none⟩ = some (qv) ∧ g.cell? ⟨db, do_ + i * 6 + 2, none⟩ = some (.int .i64 z.regs) ∧ g.cell? ⟨db, do_ + i * 6 + 3, none⟩ = some (.int .i64 z.frame) ∧ g.cell? ⟨db, do_ + i * 6 + 4, none⟩ = some (.int .i64 z.entry) ∧ g.cell? ⟨db, do_ + i * 6 + 5, none⟩ = some (dv) ∧ Below wz.heap.size wz g) := fun h => ⟨keep_cell h x1, keep_cell h y1, keep_cell h c0, keep_cell h c1, keep_cell h c2, keep_cell h c3, keep_cell h c4, keep_cell h c5, keep_cell h d0, keep_cell h d1, keep_cell h d2, keep_cell h d3, keep_cell h d4, keep_cell h d5, h⟩
          go_wp2_with fail
          refine wp_region_held_drew (S := (fun w' => w'.cell? ⟨w.heap.size, 1, none⟩ = some (.slice (some ⟨cb, co, none⟩) n cc) ∧ w'.cell? ⟨w.heap.size + 1, 1, none⟩ = some (.slice (some ⟨db, do_, none⟩) n dc) ∧ w'.cell? ⟨cb, co + i * 6, none⟩ = some (.string z.name) ∧ w'.cell? ⟨cb, co + i * 6 + 1, none⟩ = some (pv) ∧ w'.cell? ⟨cb, co + i * 6 + 2, none⟩ = some (.int .i64 z.regs) ∧ w'.cell? ⟨cb, co + i * 6 + 3, none⟩ = some (.int .i64 z.frame) ∧ w'.cell? ⟨cb, co + i * 6 + 4, none⟩ = some (.int .i64 z.entry) ∧ w'.cell? ⟨cb, co + i * 6 + 5, none⟩ = some (cv) ∧ w'.cell? ⟨db, do_ + i * 6, none⟩ = some (.string z.name) ∧ w'.cell? ⟨db, do_ + i * 6 + 1, none⟩ = some (qv) ∧ w'.cell? ⟨db, do_ + i * 6 + 2, none⟩ = some (.int .i64 z.regs) ∧ w'.cell? ⟨db, do_ + i * 6 + 3, none⟩ = some (.int .i64 z.frame) ∧ w'.cell? ⟨db, do_ + i * 6 + 4, none⟩ = some (.int .i64 z.entry) ∧ w'.cell? ⟨db, do_ + i * 6 + 5, none⟩ = some (dv) ∧ Below wz.heap.size wz w')) (by kernel_rfl) (hdS (Below.drew (Below.refl _ _))) (fun hHeld => ?_)
          refine wpAnyH_take (i := 0) (oi := ?oia0) (v := ?vva0) ?hia0 (by kernel_rfl) (by kernel_rfl) (by kernel_rfl) ?hqa0 ?hya0 hHeld ?_
          case hia0 => simp only [List.getElem?_toArray, List.getElem?_cons_succ, List.getElem?_cons_zero]; rfl
          case hqa0 => exact fun _ _ _ h => h
          case hya0 => (refine Or.inl ⟨by rfl, ?_⟩; intro w' hSw; (try dsimp only at hSw); go_simp; (try (with_reducible rfl)))
          simp only [Act.put, List.setIfInBounds_toArray, List.set_cons_zero, List.set_cons_succ]
          refine wpAnyH_take (i := 1) (oi := ?oia1) (v := ?vva1) ?hia1 (by kernel_rfl) (by kernel_rfl) (by kernel_rfl) ?hqa1 ?hya1 hHeld ?_
          case hia1 => simp only [List.getElem?_toArray, List.getElem?_cons_succ, List.getElem?_cons_zero]; rfl
          case hqa1 => exact fun _ _ _ h => h
          case hya1 => (refine Or.inl ⟨by rfl, ?_⟩; intro w' hSw; (try dsimp only at hSw); go_simp; (try (with_reducible rfl)))
          simp only [Act.put, List.setIfInBounds_toArray, List.set_cons_zero, List.set_cons_succ]
          refine wpAnyH_take (i := 2) (oi := ?oia2) (v := ?vva2) ?hia2 (by kernel_rfl) (by kernel_rfl) (by kernel_rfl) ?hqa2 ?hya2 hHeld ?_
          case hia2 => simp only [List.getElem?_toArray, List.getElem?_cons_succ, List.getElem?_cons_zero]; rfl
          case hqa2 => exact fun _ _ _ h => h
          case hya2 => (refine Or.inl ⟨by rfl, ?_⟩; intro w' hSw; (try dsimp only at hSw); go_simp; (try (with_reducible rfl)))
          simp only [Act.put, List.setIfInBounds_toArray, List.set_cons_zero, List.set_cons_succ]
          refine wpAnyH_take (i := 3) (oi := ?oia3) (v := ?vva3) ?hia3 (by kernel_rfl) (by kernel_rfl) (by kernel_rfl) ?hqa3 ?hya3 hHeld ?_
          case hia3 => simp only [List.getElem?_toArray, List.getElem?_cons_succ, List.getElem?_cons_zero]; rfl
          case hqa3 => exact fun _ _ _ h => h
          case hya3 => (refine Or.inl ⟨by rfl, ?_⟩; intro w' hSw; (try dsimp only at hSw); go_simp; (try (with_reducible rfl)))
          simp only [Act.put, List.setIfInBounds_toArray, List.set_cons_zero, List.set_cons_succ]
          refine wpAnyH_take (i := 4) (oi := ?oia4) (v := ?vva4) ?hia4 (by kernel_rfl) (by kernel_rfl) (by kernel_rfl) ?hqa4 ?hya4 hHeld ?_
          case hia4 => simp only [List.getElem?_toArray, List.getElem?_cons_succ, List.getElem?_cons_zero]; rfl
          case hqa4 => exact fun _ _ _ h => h
          case hya4 => (refine Or.inl ⟨by rfl, ?_⟩; intro w' hSw; (try dsimp only at hSw); go_simp; (try (with_reducible rfl)))
          simp only [Act.put, List.setIfInBounds_toArray, List.set_cons_zero, List.set_cons_succ]
          refine wpAnyH_take (i := 5) (oi := ?oia5) (v := ?vva5) ?hia5 (by kernel_rfl) (by kernel_rfl) (by kernel_rfl) ?hqa5 ?hya5 hHeld ?_
          case hia5 => simp only [List.getElem?_toArray, List.getElem?_cons_succ, List.getElem?_cons_zero]; rfl
          case hqa5 => exact fun _ _ _ h => h
          case hya5 => (refine Or.inl ⟨by rfl, ?_⟩; intro w' hSw; (try dsimp only at hSw); go_simp; (try (with_reducible rfl)))
          simp only [Act.put, List.setIfInBounds_toArray, List.set_cons_zero, List.set_cons_succ]
          refine wpAnyH_take (i := 6) (oi := ?oia6) (v := ?vva6) ?hia6 (by kernel_rfl) (by kernel_rfl) (by kernel_rfl) ?hqa6 ?hya6 hHeld ?_
          case hia6 => simp only [List.getElem?_toArray, List.getElem?_cons_succ, List.getElem?_cons_zero]; rfl
          case hqa6 => exact fun _ _ _ h => h
          case hya6 => (refine Or.inl ⟨by rfl, ?_⟩; intro w' hSw; (try dsimp only at hSw); go_simp; (try (with_reducible rfl)))
          simp only [Act.put, List.setIfInBounds_toArray, List.set_cons_zero, List.set_cons_succ]
          refine wpAnyH_take (i := 7) (oi := ?oia7) (v := ?vva7) ?hia7 (by kernel_rfl) (by kernel_rfl) (by kernel_rfl) ?hqa7 ?hya7 hHeld ?_
          case hia7 => simp only [List.getElem?_toArray, List.getElem?_cons_succ, List.getElem?_cons_zero]; rfl
          case hqa7 => exact fun _ _ _ h => h
          case hya7 => (refine Or.inl ⟨by rfl, ?_⟩; intro w' hSw; (try dsimp only at hSw); go_simp; (try (with_reducible rfl)))
          simp only [Act.put, List.setIfInBounds_toArray, List.set_cons_zero, List.set_cons_succ]
          refine wpAnyH_take (i := 8) (oi := ?oia8) (v := ?vva8) ?hia8 (by kernel_rfl) (by kernel_rfl) (by kernel_rfl) ?hqa8 ?hya8 hHeld ?_
          case hia8 => simp only [List.getElem?_toArray, List.getElem?_cons_succ, List.getElem?_cons_zero]; rfl
          case hqa8 => exact fun _ _ _ h => h
          case hya8 => (refine Or.inl ⟨by rfl, ?_⟩; intro w' hSw; (try dsimp only at hSw); go_simp; (try (with_reducible rfl)))
          simp only [Act.put, List.setIfInBounds_toArray, List.set_cons_zero, List.set_cons_succ]
          refine wpAnyH_take (i := 9) (oi := ?oia9) (v := ?vva9) ?hia9 (by kernel_rfl) (by kernel_rfl) (by kernel_rfl) ?hqa9 ?hya9 hHeld ?_
          case hia9 => simp only [List.getElem?_toArray, List.getElem?_cons_succ, List.getElem?_cons_zero]; rfl
          case hqa9 => exact fun _ _ _ h => h
          case hya9 => (refine Or.inl ⟨by rfl, ?_⟩; intro w' hSw; (try dsimp only at hSw); go_simp; (try (with_reducible rfl)))
          simp only [Act.put, List.setIfInBounds_toArray, List.set_cons_zero, List.set_cons_succ]
          refine wpAnyH_ready (rs := [10]) (by kernel_rfl) (by simp) ?_
          refine AllReadyH.cons (o := ?oia10) ?hia10 (fun K hK => ?_) AllReadyH.nil
          case hia10 => simp only [List.getElem?_toArray, List.getElem?_cons_succ, List.getElem?_cons_zero]; rfl
          go_simp
          refine (HSI.out _ (hdB hHeld)).mono ?_
          rintro e v10 ⟨rfl, hv10⟩
          go_wp2_with fail
          refine hK.out _ _ (hdS (bel_trans (hdB hHeld) hv10)) (fun hN => ?_)
          clear hK K hHeld
          have hHeld := hN
          clear hN
          try simp only [Act.put, List.setIfInBounds_toArray, List.set_cons_zero, List.set_cons_succ]
          refine wpAnyH_take (i := 11) (oi := ?oia11) (v := ?vva11) ?hia11 (by kernel_rfl) (by kernel_rfl) (by kernel_rfl) ?hqa11 ?hya11 hHeld ?_
          case hia11 => simp only [List.getElem?_toArray, List.getElem?_cons_succ, List.getElem?_cons_zero]; rfl
          case hqa11 => exact fun _ _ _ h => h
          case hya11 => (refine Or.inl ⟨by rfl, ?_⟩; intro w' hSw; (try dsimp only at hSw); go_simp; (try (with_reducible rfl)))
          simp only [Act.put, List.setIfInBounds_toArray, List.set_cons_zero, List.set_cons_succ]
          refine wpAnyH_done (by kernel_rfl) ?_ _
          have HBf := hid (bel_trans HBz.out (hdB hHeld))
          clear hHeld hdB hdS
          go_wp2
          go_roundw
          case rel => exact ⟨i + 1, by omega, by simp, HBf⟩
          case measure => simp [intOf]; omega
        · obtain rfl : n = i := by omega
          go_wp2
          go_ret
          exact ⟨rfl, bel_trans (bel_alloc (bel_alloc (Below.refl _ _) _) _) HBz.out⟩
theorem sameP_any {w : World} {x y : Value} {p : Pg} (hx : PgV w x p) (hy : PgV w y p) : Calls Tryz.prog 12 #[x, y] w (retP (.bool true) w) := by
  obtain ⟨gv, fv, rfl, hg, hf⟩ := hx
  obtain ⟨hv, kv, rfl, hh, hk⟩ := hy
  obtain ⟨ga, gc, gb, go, rfl, hgl, hga, hgc⟩ := hg.parts
  obtain ⟨ha, hc, hb, ho, rfl, _, hha, hhc⟩ := hh.parts
  obtain ⟨ca, cc, cb, co, rfl, hcl, hca, hcc⟩ := hf.parts
  obtain ⟨da, dc, db, do_, rfl, _, hda, hdc⟩ := hk.parts
  exact sameP_walk p.main ga ha ca da _ gc hc gb go hb ho _ cc dc cb co db do_ p.globals p.funcs w hgl hcl rfl rfl hga hha hca hda hgc hhc hcc hdc
end Go.Proofs.YtfepkekielopmaaGreatDoor

