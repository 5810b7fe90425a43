
import Derived.Test.YtncondlfngeilaaGreatDoorTzA
import Derived.Test.YtncondlfngeilaaGreatDoorRRight2
namespace Go.Proofs.YtncondlfngeilaaGreatDoor
open Go.ChangeShapes Go.WideShapes Go.ChangeAt Go.RowKit Go.Proofs.Tryz
set_option linter.unusedSimpArgs false
set_option linter.unusedVariables false
set_option maxRecDepth 100000
set_option maxHeartbeats 20000000

theorem sameI_walk (op sub a b d k s t : Int) (va ua : Option Addr) (n vc uc vb vo ub uo : Nat) (l : List Int) (w : World) (hn : n * 8 ≤ 140737488355328) (HN : Hid (n = l.length)) (HA : Hid (0 < n → va = some ⟨vb, vo, none⟩)) (HU : Hid (0 < n → ua = some ⟨ub, uo, none⟩))
  (HC : Hid (∀ (i : Nat) x, l[i]? = some x → w.cell? ⟨vb, vo + i, none⟩ = some (.int .i64 x))) (HD : Hid (∀ (i : Nat) x, l[i]? = some x → w.cell? ⟨ub, uo + i, none⟩ = some (.int .i64 x))) :
  Calls prog 18 #[.agg #[.int .i64 op, .int .i64 sub, .int .i64 a, .int .i64 b, .int .i64 d, .int .i64 k, .slice va n vc, .int .i64 s, .int .i64 t], .agg #[.int .i64 op, .int .i64 sub, .int .i64 a, .int .i64 b, .int .i64 d, .int .i64 k, .slice ua n uc, .int .i64 s, .int .i64 t]] w (retP (.bool true) w) := by
 have hnm : (n : Int) ≤ 9223372036854775807 := by omega
 go_enter func18, ntmps18
 go_wp2
 go_loopw [5] (fun vv wz => ∃ i : Nat, i ≤ n ∧ vv = .int .i64 i ∧ Hid (Below ((w.alloc (.cells #[.int .i64 op, .int .i64 sub, .int .i64 a, .int .i64 b, .int .i64 d, .int .i64 k, .slice va n vc, .int .i64 s, .int .i64 t] 38 (0, 0))).alloc (.cells #[.int .i64 op, .int .i64 sub, .int .i64 a, .int .i64 b, .int .i64 d, .int .i64 k, .slice ua n uc, .int .i64 s, .int .i64 t] 38 (0, 0))).heap.size ((w.alloc (.cells #[.int .i64 op, .int .i64 sub, .int .i64 a, .int .i64 b, .int .i64 d, .int .i64 k, .slice va n vc, .int .i64 s, .int .i64 t] 38 (0, 0))).alloc (.cells #[.int .i64 op, .int .i64 sub, .int .i64 a, .int .i64 b, .int .i64 d, .int .i64 k, .slice ua n uc, .int .i64 s, .int .i64 t] 38 (0, 0))) wz)) (fun vv _ => n - (intOf vv).toNat)
 case atStart => exact ⟨0, by omega, rfl, Below.refl _ _⟩
 case round =>
  obtain ⟨i, hi, rfl, HBz⟩ := hrel
  rename World => wz
  have x6 := keep_cell (p := ⟨w.heap.size, 6, none⟩) HBz.out (v := .slice va n vc) (by simp);have y6 := keep_cell (p := ⟨w.heap.size + 1, 6, none⟩) HBz.out (v := .slice ua n uc) (by simp)
  by_cases hin : i < n
  ·obtain rfl := HA.out (by omega)
   obtain rfl := HU.out (by omega);have j0 : (0 : Int) ≤ i := by omega
   have j1 : (i : Int) < n := by omega
   have hget := List.getElem?_eq_getElem (l := l) (show i < l.length by rw [← HN.out]; exact hin)
   generalize l[i]'(by rw [← HN.out]; exact hin) = y at hget
   have cx := keep_cell HBz.out (keep_alloc (keep_alloc (HC.out i y hget) _) _);have cy := keep_cell HBz.out (keep_alloc (keep_alloc (HD.out i y hget) _) _);clear hget;go_wp2_with fail
   go_quiet (fail)
   go_wp2
   go_roundw
   case rel => exact ⟨i + 1, by omega, by simp, hid (bel_drewN HBz.out _)⟩
   case measure => simp [intOf]; omega
  ·obtain rfl : n = i := by omega
   go_wp2;go_ret;exact ⟨rfl, bel_trans (bel_alloc (bel_alloc (Below.refl _ _) _) _) HBz.out⟩
theorem sameI_any {w : World} {x y : Value} {i : Ins} (hx : ∃ v, x = insV i.op i.sub i.a i.b i.d i.k v i.s i.t ∧ IL w v i.args) (hy : ∃ v, y = insV i.op i.sub i.a i.b i.d i.k v i.s i.t ∧ IL w v i.args) : Calls prog 18 #[x, y] w (retP (.bool true) w) := by
 obtain ⟨v, rfl, hv⟩ := hx;obtain ⟨u, rfl, hu⟩ := hy;obtain ⟨va, vc, vb, vo, rfl, hl, ha, hc⟩ := hv.parts;obtain ⟨ua, uc, ub, uo, rfl, _, ha2, hc2⟩ := hu.parts;exact sameI_walk i.op i.sub i.a i.b i.d i.k i.s i.t va ua i.args.length vc uc vb vo ub uo i.args w hl rfl ha ha2 hc hc2

theorem sameF_walk (name : ByteArray) (regs frame entry : Int) (pa qa ca da : Option Addr) (np pc qc pb po qb qo n cc dc cb co db do_ : Nat) (params : List Int) (code : List Ins) (w : World) (hp : np * 8 ≤ 140737488355328) (hn : n * 88 ≤ 140737488355328) (HNP : Hid (np = params.length)) (HNC : Hid (n = code.length))
  (HPA : Hid (0 < np → pa = some ⟨pb, po, none⟩)) (HQA : Hid (0 < np → qa = some ⟨qb, qo, none⟩)) (HCA : Hid (0 < n → ca = some ⟨cb, co, none⟩)) (HDA : Hid (0 < n → da = some ⟨db, do_, none⟩))
  (HPC : Hid (∀ (i : Nat) x, params[i]? = some x → w.cell? ⟨pb, po + i, none⟩ = some (.int .i64 x))) (HQC : Hid (∀ (i : Nat) x, params[i]? = some x → w.cell? ⟨qb, qo + i, none⟩ = some (.int .i64 x)))
  (HCC : Hid (∀ (i : Nat) x, code[i]? = some x → InsAt w cb (co + i * 9) x)) (HDC : Hid (∀ (i : Nat) x, code[i]? = some x → InsAt w db (do_ + i * 9) x)) :
  Calls prog 7 #[.agg #[.string name, .slice pa np pc, .int .i64 regs, .int .i64 frame, .int .i64 entry, .slice ca n cc], .agg #[.string name, .slice qa np qc, .int .i64 regs, .int .i64 frame, .int .i64 entry, .slice da n dc]] w (retP (.bool true) w) := by
 have hpm : (np : Int) ≤ 9223372036854775807 := by omega
 have hnm : (n : Int) ≤ 9223372036854775807 := by omega
 go_enter func7, ntmps7
 go_wp2
 go_loopw [5] (fun vv wz => ∃ i : Nat, i ≤ np ∧ vv = .int .i64 i ∧ Hid (Below ((w.alloc (.cells #[.string name, .slice pa np pc, .int .i64 regs, .int .i64 frame, .int .i64 entry, .slice ca n cc] 25 (0, 0))).alloc (.cells #[.string name, .slice qa np qc, .int .i64 regs, .int .i64 frame, .int .i64 entry, .slice da n dc] 25 (0, 0))).heap.size ((w.alloc (.cells #[.string name, .slice pa np pc, .int .i64 regs, .int .i64 frame, .int .i64 entry, .slice ca n cc] 25 (0, 0))).alloc (.cells #[.string name, .slice qa np qc, .int .i64 regs, .int .i64 frame, .int .i64 entry, .slice da n dc] 25 (0, 0))) wz)) (fun vv _ => np - (intOf vv).toNat)
 case atStart => exact ⟨0, by omega, rfl, Below.refl _ _⟩
 case round =>
  obtain ⟨i, hi, rfl, HBz⟩ := hrel
  rename World => wz
  have x1 := keep_cell (p := ⟨w.heap.size, 1, none⟩) HBz.out (v := .slice pa np pc) (by simp);have y1 := keep_cell (p := ⟨w.heap.size + 1, 1, none⟩) HBz.out (v := .slice qa np qc) (by simp);have x5 := keep_cell (p := ⟨w.heap.size, 5, none⟩) HBz.out (v := .slice ca n cc) (by simp);have y5 := keep_cell (p := ⟨w.heap.size + 1, 5, none⟩) HBz.out (v := .slice da n dc) (by simp)
  by_cases hin : i < np
  ·obtain rfl := HPA.out (by omega)
   obtain rfl := HQA.out (by omega);have j0 : (0 : Int) ≤ i := by omega
   have j1 : (i : Int) < np := by omega
   have hget := List.getElem?_eq_getElem (l := params) (show i < params.length by rw [← HNP.out]; exact hin)
   generalize params[i]'(by rw [← HNP.out]; exact hin) = y at hget
   have cx := keep_cell HBz.out (keep_alloc (keep_alloc (HPC.out i y hget) _) _);have cy := keep_cell HBz.out (keep_alloc (keep_alloc (HQC.out i y hget) _) _);clear hget;go_wp2_with fail
   go_quiet (fail)
   go_wp2
   go_roundw
   case rel => exact ⟨i + 1, by omega, by simp, hid (bel_drewN HBz.out _)⟩
   case measure => simp [intOf]; omega
  ·obtain rfl : np = i := by omega
   go_wp2
   go_loopw [6] (fun vv wz => ∃ i : Nat, i ≤ n ∧ vv = .int .i64 i ∧ Hid (Below ((w.alloc (.cells #[.string name, .slice pa np pc, .int .i64 regs, .int .i64 frame, .int .i64 entry, .slice ca n cc] 25 (0, 0))).alloc (.cells #[.string name, .slice qa np qc, .int .i64 regs, .int .i64 frame, .int .i64 entry, .slice da n dc] 25 (0, 0))).heap.size ((w.alloc (.cells #[.string name, .slice pa np pc, .int .i64 regs, .int .i64 frame, .int .i64 entry, .slice ca n cc] 25 (0, 0))).alloc (.cells #[.string name, .slice qa np qc, .int .i64 regs, .int .i64 frame, .int .i64 entry, .slice da n dc] 25 (0, 0))) wz)) (fun vv _ => n - (intOf vv).toNat)
   case atStart => exact ⟨0, by omega, rfl, HBz⟩
   case round =>
    obtain ⟨i, hi, rfl, HBz⟩ := hrel
    rename World => wz
    have x5 := keep_cell (p := ⟨w.heap.size, 5, none⟩) HBz.out (v := .slice ca n cc) (by simp);have y5 := keep_cell (p := ⟨w.heap.size + 1, 5, none⟩) HBz.out (v := .slice da n dc) (by simp)
    by_cases hin : i < n
    ·obtain rfl := HCA.out (by omega)
     obtain rfl := HDA.out (by omega);have j0 : (0 : Int) ≤ i := by omega
     have j1 : (i : Int) < n := by omega
     have hget := List.getElem?_eq_getElem (l := code) (show i < code.length by rw [← HNC.out]; exact hin)
     generalize code[i]'(by rw [← HNC.out]; exact hin) = z at hget
     have hbb : Below w.heap.size w wz := bel_trans (bel_alloc (bel_alloc (Below.refl _ _) _) _) HBz.out;obtain ⟨v, hv, c0, c1, c2, c3, c4, c5, c6, c7, c8⟩ := (HCC.out i z hget).keep hbb;obtain ⟨u, hu, d0, d1, d2, d3, d4, d5, d6, d7, d8⟩ := (HDC.out i z hget).keep hbb;have HSI : Hid (∀ W, Below wz.heap.size wz W → Calls prog 18 #[insV z.op z.sub z.a z.b z.d z.k v z.s z.t, insV z.op z.sub z.a z.b z.d z.k u z.s z.t] W (retP (.bool true) W)) := fun W hW => sameI_any (i := z) ⟨v, rfl, hv.keep hW⟩ ⟨u, rfl, hu.keep hW⟩;clear hget hv hu hbb;have hdB : ∀ {A0 A1 A2 A3 A4 A5 A6 A7 A8 A9 A10 A11 A12 A13 A14 A15 A16 A17 A18 A19 : Prop} {x : World}, A0 ∧ A1 ∧ A2 ∧ A3 ∧ A4 ∧ A5 ∧ A6 ∧ A7 ∧ A8 ∧ A9 ∧ A10 ∧ A11 ∧ A12 ∧ A13 ∧ A14 ∧ A15 ∧ A16 ∧ A17 ∧ A18 ∧ A19 ∧ Below wz.heap.size wz x → Below wz.heap.size wz x := fun h => h.2.2.2.2.2.2.2.2.2.2.2.2.2.2.2.2.2.2.2.2;have hdS : ∀ {g : World}, Below wz.heap.size wz g → (g.cell? ⟨w.heap.size, 5, none⟩ = some (.slice (some ⟨cb, co, none⟩) n cc) ∧ g.cell? ⟨w.heap.size + 1, 5, none⟩ = some (.slice (some ⟨db, do_, none⟩) n dc) ∧ g.cell? ⟨cb, co + i * 9, none⟩ = some (.int .i64 z.op) ∧ g.cell? ⟨cb, co + i * 9 + 1, none⟩ = some (.int .i64 z.sub) ∧ g.cell? ⟨cb, co + i * 9 + 2, none⟩ = some (.int .i64 z.a) ∧ g.cell? ⟨cb, co + i * 9 + 3, none⟩ = some (.int .i64 z.b) ∧ g.cell? ⟨cb, co + i * 9 + 4, none⟩ = some (.int .i64 z.d) ∧ g.cell? ⟨cb, co + i * 9 + 5, none⟩ = some (.int .i64 z.k) ∧ g.cell? ⟨cb, co + i * 9 + 6, none⟩ = some (v) ∧ g.cell? ⟨cb, co + i * 9 + 7, none⟩ = some (.int .i64 z.s) ∧ g.cell? ⟨cb, co + i * 9 + 8, none⟩ = some (.int .i64 z.t) ∧ g.cell? ⟨db, do_ + i * 9, none⟩ = some (.int .i64 z.op) ∧ g.cell? ⟨db, do_ + i * 9 + 1, none⟩ = some (.int .i64 z.sub) ∧ g.cell? ⟨db, do_ + i * 9 + 2, none⟩ = some (.int .i64 z.a) ∧ g.cell? ⟨db, do_ + i * 9 + 3, none⟩ = some (.int .i64 z.b) ∧ g.cell? ⟨db, do_ + i * 9 + 4, none⟩ = some (.int .i64 z.d) ∧ g.cell? ⟨db, do_ + i * 9 + 5, none⟩ = some (.int .i64 z.k) ∧ g.cell? ⟨db, do_ + i * 9 + 6, none⟩ = some (u) ∧ g.cell? ⟨db, do_ + i * 9 + 7, none⟩ = some (.int .i64 z.s) ∧ g.cell? ⟨db, do_ + i * 9 + 8, none⟩ = some (.int .i64 z.t) ∧ Below wz.heap.size wz g) := fun h => ⟨keep_cell h x5, keep_cell h y5, keep_cell h c0, keep_cell h c1, keep_cell h c2, keep_cell h c3, keep_cell h c4, keep_cell h c5, keep_cell h c6, keep_cell h c7, keep_cell h c8, keep_cell h d0, keep_cell h d1, keep_cell h d2, keep_cell h d3, keep_cell h d4, keep_cell h d5, keep_cell h d6, keep_cell h d7, keep_cell h d8, h⟩;go_wp2_with fail
     refine wp_region_held_drew (S := (fun w' => w'.cell? ⟨w.heap.size, 5, none⟩ = some (.slice (some ⟨cb, co, none⟩) n cc) ∧ w'.cell? ⟨w.heap.size + 1, 5, none⟩ = some (.slice (some ⟨db, do_, none⟩) n dc) ∧ w'.cell? ⟨cb, co + i * 9, none⟩ = some (.int .i64 z.op) ∧ w'.cell? ⟨cb, co + i * 9 + 1, none⟩ = some (.int .i64 z.sub) ∧ w'.cell? ⟨cb, co + i * 9 + 2, none⟩ = some (.int .i64 z.a) ∧ w'.cell? ⟨cb, co + i * 9 + 3, none⟩ = some (.int .i64 z.b) ∧ w'.cell? ⟨cb, co + i * 9 + 4, none⟩ = some (.int .i64 z.d) ∧ w'.cell? ⟨cb, co + i * 9 + 5, none⟩ = some (.int .i64 z.k) ∧ w'.cell? ⟨cb, co + i * 9 + 6, none⟩ = some (v) ∧ w'.cell? ⟨cb, co + i * 9 + 7, none⟩ = some (.int .i64 z.s) ∧ w'.cell? ⟨cb, co + i * 9 + 8, none⟩ = some (.int .i64 z.t) ∧ w'.cell? ⟨db, do_ + i * 9, none⟩ = some (.int .i64 z.op) ∧ w'.cell? ⟨db, do_ + i * 9 + 1, none⟩ = some (.int .i64 z.sub) ∧ w'.cell? ⟨db, do_ + i * 9 + 2, none⟩ = some (.int .i64 z.a) ∧ w'.cell? ⟨db, do_ + i * 9 + 3, none⟩ = some (.int .i64 z.b) ∧ w'.cell? ⟨db, do_ + i * 9 + 4, none⟩ = some (.int .i64 z.d) ∧ w'.cell? ⟨db, do_ + i * 9 + 5, none⟩ = some (.int .i64 z.k) ∧ w'.cell? ⟨db, do_ + i * 9 + 6, none⟩ = some (u) ∧ w'.cell? ⟨db, do_ + i * 9 + 7, none⟩ = some (.int .i64 z.s) ∧ w'.cell? ⟨db, do_ + i * 9 + 8, none⟩ = some (.int .i64 z.t) ∧ Below wz.heap.size wz w')) (by kernel_rfl) (hdS (Below.drew (Below.refl _ _))) (fun hHeld => ?_);refine wpAnyH_take (i := 0) (oi := ?oia0) (v := ?vva0) ?hia0 (by kernel_rfl) (by kernel_rfl) (by kernel_rfl) ?hqa0 ?hya0 hHeld ?_
     case hia0 => simp only [zga, zgs, zgz]; rfl
     case hqa0 => exact fun _ _ _ h => h
     case hya0 => refine .inl ⟨by rfl, ?_⟩; intro w' hSw; (try dsimp only at hSw); go_simp; try with_reducible rfl
     simp only [Act.put, zsa, zsz, zss];refine wpAnyH_take (i := 1) (oi := ?oia1) (v := ?vva1) ?hia1 (by kernel_rfl) (by kernel_rfl) (by kernel_rfl) ?hqa1 ?hya1 hHeld ?_
     case hia1 => simp only [zga, zgs, zgz]; rfl
     case hqa1 => exact fun _ _ _ h => h
     case hya1 => refine .inl ⟨by rfl, ?_⟩; intro w' hSw; (try dsimp only at hSw); go_simp; try with_reducible rfl
     simp only [Act.put, zsa, zsz, zss];refine wpAnyH_take (i := 2) (oi := ?oia2) (v := ?vva2) ?hia2 (by kernel_rfl) (by kernel_rfl) (by kernel_rfl) ?hqa2 ?hya2 hHeld ?_
     case hia2 => simp only [zga, zgs, zgz]; rfl
     case hqa2 => exact fun _ _ _ h => h
     case hya2 => refine .inl ⟨by rfl, ?_⟩; intro w' hSw; (try dsimp only at hSw); go_simp; try with_reducible rfl
     simp only [Act.put, zsa, zsz, zss];refine wpAnyH_take (i := 3) (oi := ?oia3) (v := ?vva3) ?hia3 (by kernel_rfl) (by kernel_rfl) (by kernel_rfl) ?hqa3 ?hya3 hHeld ?_
     case hia3 => simp only [zga, zgs, zgz]; rfl
     case hqa3 => exact fun _ _ _ h => h
     case hya3 => refine .inl ⟨by rfl, ?_⟩; intro w' hSw; (try dsimp only at hSw); go_simp; try with_reducible rfl
     simp only [Act.put, zsa, zsz, zss];refine wpAnyH_take (i := 4) (oi := ?oia4) (v := ?vva4) ?hia4 (by kernel_rfl) (by kernel_rfl) (by kernel_rfl) ?hqa4 ?hya4 hHeld ?_
     case hia4 => simp only [zga, zgs, zgz]; rfl
     case hqa4 => exact fun _ _ _ h => h
     case hya4 => refine .inl ⟨by rfl, ?_⟩; intro w' hSw; (try dsimp only at hSw); go_simp; try with_reducible rfl
     simp only [Act.put, zsa, zsz, zss];refine wpAnyH_take (i := 5) (oi := ?oia5) (v := ?vva5) ?hia5 (by kernel_rfl) (by kernel_rfl) (by kernel_rfl) ?hqa5 ?hya5 hHeld ?_
     case hia5 => simp only [zga, zgs, zgz]; rfl
     case hqa5 => exact fun _ _ _ h => h
     case hya5 => refine .inl ⟨by rfl, ?_⟩; intro w' hSw; (try dsimp only at hSw); go_simp; try with_reducible rfl
     simp only [Act.put, zsa, zsz, zss];refine wpAnyH_take (i := 6) (oi := ?oia6) (v := ?vva6) ?hia6 (by kernel_rfl) (by kernel_rfl) (by kernel_rfl) ?hqa6 ?hya6 hHeld ?_
     case hia6 => simp only [zga, zgs, zgz]; rfl
     case hqa6 => exact fun _ _ _ h => h
     case hya6 => refine .inl ⟨by rfl, ?_⟩; intro w' hSw; (try dsimp only at hSw); go_simp; try with_reducible rfl
     simp only [Act.put, zsa, zsz, zss];refine wpAnyH_take (i := 7) (oi := ?oia7) (v := ?vva7) ?hia7 (by kernel_rfl) (by kernel_rfl) (by kernel_rfl) ?hqa7 ?hya7 hHeld ?_
     case hia7 => simp only [zga, zgs, zgz]; rfl
     case hqa7 => exact fun _ _ _ h => h
     case hya7 => refine .inl ⟨by rfl, ?_⟩; intro w' hSw; (try dsimp only at hSw); go_simp; try with_reducible rfl
     simp only [Act.put, zsa, zsz, zss];refine wpAnyH_take (i := 8) (oi := ?oia8) (v := ?vva8) ?hia8 (by kernel_rfl) (by kernel_rfl) (by kernel_rfl) ?hqa8 ?hya8 hHeld ?_
     case hia8 => simp only [zga, zgs, zgz]; rfl
     case hqa8 => exact fun _ _ _ h => h
     case hya8 => refine .inl ⟨by rfl, ?_⟩; intro w' hSw; (try dsimp only at hSw); go_simp; try with_reducible rfl
     simp only [Act.put, zsa, zsz, zss];refine wpAnyH_take (i := 9) (oi := ?oia9) (v := ?vva9) ?hia9 (by kernel_rfl) (by kernel_rfl) (by kernel_rfl) ?hqa9 ?hya9 hHeld ?_
     case hia9 => simp only [zga, zgs, zgz]; rfl
     case hqa9 => exact fun _ _ _ h => h
     case hya9 => refine .inl ⟨by rfl, ?_⟩; intro w' hSw; (try dsimp only at hSw); go_simp; try with_reducible rfl
     simp only [Act.put, zsa, zsz, zss];refine wpAnyH_ready (rs := [10]) (by kernel_rfl) (by simp) ?_;refine AllReadyH.cons (o := ?oia10) ?hia10 (fun K hK => ?_) AllReadyH.nil
     case hia10 => simp only [zga, zgs, zgz]; rfl
     go_simp;refine (HSI.out _ (hdB hHeld)).mono ?_;rintro e v10 ⟨rfl, hv10⟩;go_wp2_with fail
     refine hK.out _ _ (hdS (bel_trans (hdB hHeld) hv10)) (fun hN => ?_);clear hK K hHeld;have hHeld := hN;clear hN
     try simp only [Act.put, zsa, zsz, zss]
     refine wpAnyH_take (i := 11) (oi := ?oia11) (v := ?vva11) ?hia11 (by kernel_rfl) (by kernel_rfl) (by kernel_rfl) ?hqa11 ?hya11 hHeld ?_
     case hia11 => simp only [zga, zgs, zgz]; rfl
     case hqa11 => exact fun _ _ _ h => h
     case hya11 => refine .inl ⟨by rfl, ?_⟩; intro w' hSw; (try dsimp only at hSw); go_simp; try with_reducible rfl
     simp only [Act.put, zsa, zsz, zss];refine wpAnyH_done (by kernel_rfl) ?_ _;have HBf := hid (bel_trans HBz.out (hdB hHeld));clear hHeld hdB hdS;go_wp2
     go_roundw
     case rel => exact ⟨i + 1, by omega, by simp, HBf⟩
     case measure => simp [intOf]; omega
    ·obtain rfl : n = i := by omega
     go_wp2;go_ret;exact ⟨rfl, bel_trans (bel_alloc (bel_alloc (Below.refl _ _) _) _) HBz.out⟩
theorem sameF_any {w : World} {x y : Value} {f : Fn} (hx : FnV w x f) (hy : FnV w y f) : Calls prog 7 #[x, y] w (retP (.bool true) w) := by
 obtain ⟨pv, cv, rfl, hp, hc, _⟩ := hx;obtain ⟨qv, dv, rfl, hq, hd, _⟩ := hy;obtain ⟨pa, pc, pb, po, rfl, hpl, hpa, hpc⟩ := hp.parts;obtain ⟨qa, qc, qb, qo, rfl, _, hqa, hqc⟩ := hq.parts;obtain ⟨ca, cc, cb, co, rfl, hcl, hca, hcc⟩ := hc.parts;obtain ⟨da, dc, db, do_, rfl, _, hda, hdc⟩ := hd.parts;exact sameF_walk f.name f.regs f.frame f.entry pa qa ca da _ pc qc pb po qb qo _ cc dc cb co db do_ f.params f.code w hpl hcl rfl rfl hpa hqa hca hda hpc hqc hcc hdc
end Go.Proofs.YtncondlfngeilaaGreatDoor
