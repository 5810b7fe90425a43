import Derived.Test.YtfeglcpipcjaeaaGreatDoorFyA
import Derived.Test.YtfeglcpipcjaeaaGreatDoorGIter3
import Derived.Test.YtfeglcpipcjaeaaGreatDoorGIter
import Derived.Test.YtfeglcpipcjaeaaGreatDoorGLeaf
namespace Go.Proofs.YtfeglcpipcjaeaaGreatDoor
open Go.ChangeShapes Go.WideShapes Go.ChangeAt Go.RowKit Go.Proofs.Tryz
set_option linter.unusedSimpArgs false
set_option linter.unusedVariables false
set_option maxRecDepth 100000
set_option maxHeartbeats 8000000

theorem gindex_walk (va : Option Addr) (n vc vb vo : Nat) (l : List Int) (x : Int) (w : World) (HN : Hid (n = l.length)) (hn : n * 8 ≤ 140737488355328) (HA : Hid (0 < n → va = some ⟨vb, vo, none⟩)) (HC : Hid (∀ (i : Nat) y, l[i]? = some y → w.cell? ⟨vb, vo + i, none⟩ = some (.int .i64 y))) :
  Calls prog 121 #[.slice va n vc, .int .i64 x] w fun e w' => (∃ k : Int, e = .returned (.int .i64 k) ∧ decide (0 ≤ k) = l.contains x) ∧ w' = w := by
 have hnm : (n : Int) ≤ 9223372036854775807 := by omega
 go_enter func121, ntmps121
 go_wp2
 go_loopw [8] (fun vv wz => ∃ i : Nat, i ≤ n ∧ vv = .int .i64 i ∧ Hid (∀ (j : Nat) y, j < i → l[j]? = some y → y ≠ x) ∧ wz = w) (fun vv _ => n - (intOf vv).toNat)
 case atStart => exact ⟨0, by omega, rfl, fun j y hj => by omega, rfl⟩
 case round =>
  obtain ⟨i, hi, rfl, HI, rfl⟩ := hrel
  by_cases hin : i < n
  ·obtain rfl := HA.out (by omega)
   have j0 : (0 : Int) ≤ i := by omega
   have j1 : (i : Int) < n := by omega
   have hget := List.getElem?_eq_getElem (l := l) (show i < l.length by rw [← HN.out]; exact hin)
   generalize l[i]'(by rw [← HN.out]; exact hin) = y at hget
   have cx := HC.out i y hget;have HG := hid hget;clear hget
   cases hq : (x == y) with
   | true =>
    have hm : Hid (l.contains x = true) := by
     show _ = _
     rw [List.contains_iff_mem];have e : x = y := by simpa using hq
     rw [e];exact List.mem_of_getElem? HG.out
    go_wp2;go_ret;have hmm : x ∈ l := List.contains_iff_mem.1 hm.out;exact ⟨⟨_, rfl, by simp [hmm]⟩, rfl⟩
   | false =>
    have HI2 : Hid (∀ (j : Nat) z, j < i + 1 → l[j]? = some z → z ≠ x) := fun j z hj hz => by
     by_cases e : j = i
     ·subst e; rw [HG.out] at hz; cases hz
      intro e2; subst e2; simp at hq
     ·exact HI.out j z (by omega) hz
    go_wp2
    go_roundw
    case rel => exact ⟨i + 1, by omega, by simp, HI2, trivial⟩
    case measure => simp [intOf]; omega
  ·obtain rfl : n = i := by omega
   have hm : Hid (l.contains x = false) := by
    show _ = _
    cases h : l.contains x with
    | false => rfl
    | true =>
     rw [List.contains_iff_mem] at h;obtain ⟨j, hj⟩ := List.getElem?_of_mem h;exact absurd rfl (HI.out j x (by rw [HN.out]; exact (List.getElem?_eq_some_iff.1 hj).1) hj)
   go_wp2;go_ret;exact ⟨⟨_, rfl, by rw [hm.out]; rfl⟩, rfl⟩
theorem gcontains_any {w : World} {v : Value} {l : List Int} (h : IL w v l) (x : Int) : Calls prog 103 #[v, .int .i64 x] w fun e w' => e = .returned (.bool (l.contains x)) ∧ w' = w := by
 obtain ⟨va, vc, vb, vo, rfl, hl, ha, hc⟩ := h.parts;have HI : Hid (∀ W, W = w → Calls prog 121 #[.slice va l.length vc, .int .i64 x] W fun e w' => (∃ k : Int, e = .returned (.int .i64 k) ∧ decide (0 ≤ k) = l.contains x) ∧ w' = W) := fun W hW => by subst hW; exact gindex_walk va l.length vc vb vo l x _ rfl hl ha hc
 clear ha hc h
 go_enter func103, ntmps103
 go_wp2_with (go_at_call 121; refine (HI.out _ rfl).mono ?_; rintro e w1 ⟨⟨k, rfl, hk⟩, hw⟩; subst hw; have HK := hid hk; clear hk)
 go_ret;exact ⟨by rw [← HK.out]; rfl, rfl⟩
def lackS (x : Sp) (a b : Int) (l : List Int) : Bool := lackB x.a a || lackB x.b b || (x.args && l.contains (-1))

theorem lacksRegister_walk (nm : ByteArray) (xsb xa xb xd : Int) (xk xg xs xt : Bool) (ib io : Nat) (a b : Int) (va : Option Addr) (vn vc : Nat) (l : List Int) (w : World) (e2 : w.cell? ⟨ib, io + 2, none⟩ = some (.int .i64 a)) (e3 : w.cell? ⟨ib, io + 3, none⟩ = some (.int .i64 b)) (e6 : w.cell? ⟨ib, io + 6, none⟩ = some (.slice va vn vc)) (hil : IL w (.slice va vn vc) l) :
  Calls prog 80 #[.agg #[.string nm, .int .i64 xsb, .int .i64 xa, .int .i64 xb, .int .i64 xd, .bool xk, .bool xg, .bool xs, .bool xt], .pointer (some ⟨ib, io, none⟩)] w (retP (.bool (lackB xa a || lackB xb b || (xg && l.contains (-1)))) w) := by
 obtain ⟨cc, hcc⟩ : ∃ c, l.contains (-1) = c := ⟨_, rfl⟩;rw [hcc];have HCT : Hid (∀ W, Below w.heap.size w W → Calls prog 103 #[.slice va vn vc, .int .i64 (-1)] W fun e w' => e = .returned (.bool cc) ∧ w' = W) := fun W hW => hcc ▸ gcontains_any (hil.keep hW) _;clear hcc;have HLA : Hid (∀ W, Calls prog 102 #[.int .i64 xa, .int .i64 a] W fun e w' => e = .returned (.bool (lackB xa a)) ∧ w' = W) := fun W => lacks_any _ _ _;have HLB : Hid (∀ W, Calls prog 102 #[.int .i64 xb, .int .i64 b] W fun e w' => e = .returned (.bool (lackB xb b)) ∧ w' = W) := fun W => lacks_any _ _ _;have d2 := keep_alloc e2 (.cells #[.string nm, .int .i64 xsb, .int .i64 xa, .int .i64 xb, .int .i64 xd, .bool xk, .bool xg, .bool xs, .bool xt] 115 (0, 0));have d3 := keep_alloc e3 (.cells #[.string nm, .int .i64 xsb, .int .i64 xa, .int .i64 xb, .int .i64 xd, .bool xk, .bool xg, .bool xs, .bool xt] 115 (0, 0));have d6 := keep_alloc e6 (.cells #[.string nm, .int .i64 xsb, .int .i64 xa, .int .i64 xb, .int .i64 xd, .bool xk, .bool xg, .bool xs, .bool xt] 115 (0, 0));clear hil e2 e3 e6
 cases h7 : lackB xa a with
 | true =>
  rw [h7] at HLA
  go_enter func80, ntmps80
  go_wp2_with fail
  refine wp_region_held_drew (S := (fun w' => w'.cell? ⟨w.heap.size, 2, none⟩ = some (.int .i64 xa) ∧ w'.cell? ⟨w.heap.size, 3, none⟩ = some (.int .i64 xb) ∧ w'.cell? ⟨w.heap.size, 6, none⟩ = some (.bool xg) ∧ w'.cell? ⟨ib, io + 2, none⟩ = some (.int .i64 a) ∧ w'.cell? ⟨ib, io + 3, none⟩ = some (.int .i64 b) ∧ w'.cell? ⟨ib, io + 6, none⟩ = some (.slice va vn vc) ∧ Below w.heap.size w w')) (by kernel_rfl) (⟨by simp, by simp, by simp, d2, d3, d6, Below.drew (bel_alloc (Below.refl _ _) _)⟩) (fun hHeld => ?_);refine wpAnyH_take (i := 0) (oi := ?oia0) (v := ?vva0) ?hia0 (by kernel_rfl) (by kernel_rfl) (by kernel_rfl) ?hqa0 ?hya0 hHeld ?_
  case hia0 => simp only [zga, zgs, zgz]; rfl
  case hqa0 => exact fun _ _ _ h => h
  case hya0 => refine .inl ⟨by rfl, ?_⟩; intro w' hSw; (try dsimp only at hSw); go_simp; try with_reducible rfl
  simp only [Act.put, zsa, zsz, zss];refine wpAnyH_take (i := 1) (oi := ?oia1) (v := ?vva1) ?hia1 (by kernel_rfl) (by kernel_rfl) (by kernel_rfl) ?hqa1 ?hya1 hHeld ?_
  case hia1 => simp only [zga, zgs, zgz]; rfl
  case hqa1 => exact fun _ _ _ h => h
  case hya1 => refine .inl ⟨by rfl, ?_⟩; intro w' hSw; (try dsimp only at hSw); go_simp; try with_reducible rfl
  simp only [Act.put, zsa, zsz, zss];refine wpAnyH_take (i := 2) (oi := ?oia2) (v := ?vva2) ?hia2 (by kernel_rfl) (by kernel_rfl) (by kernel_rfl) ?hqa2 ?hya2 hHeld ?_
  case hia2 => simp only [zga, zgs, zgz]; rfl
  case hqa2 => exact fun _ _ _ h => h
  case hya2 => refine .inl ⟨by rfl, ?_⟩; intro w' hSw; (try dsimp only at hSw); go_simp; try with_reducible rfl
  simp only [Act.put, zsa, zsz, zss];refine wpAnyH_take (i := 3) (oi := ?oia3) (v := ?vva3) ?hia3 (by kernel_rfl) (by kernel_rfl) (by kernel_rfl) ?hqa3 ?hya3 hHeld ?_
  case hia3 => simp only [zga, zgs, zgz]; rfl
  case hqa3 => exact fun _ _ _ h => h
  case hya3 => refine .inl ⟨by rfl, ?_⟩; intro w' hSw; (try dsimp only at hSw); go_simp; try with_reducible rfl
  simp only [Act.put, zsa, zsz, zss];refine wpAnyH_take (i := 4) (oi := ?oia4) (v := ?vva4) ?hia4 (by kernel_rfl) (by kernel_rfl) (by kernel_rfl) ?hqa4 ?hya4 hHeld ?_
  case hia4 => simp only [zga, zgs, zgz]; rfl
  case hqa4 => exact fun _ _ _ h => h
  case hya4 => refine .inl ⟨by rfl, ?_⟩; intro w' hSw; (try dsimp only at hSw); go_simp; try with_reducible rfl
  simp only [Act.put, zsa, zsz, zss];refine wpAnyH_take (i := 5) (oi := ?oia5) (v := ?vva5) ?hia5 (by kernel_rfl) (by kernel_rfl) (by kernel_rfl) ?hqa5 ?hya5 hHeld ?_
  case hia5 => simp only [zga, zgs, zgz]; rfl
  case hqa5 => exact fun _ _ _ h => h
  case hya5 => refine .inl ⟨by rfl, ?_⟩; intro w' hSw; (try dsimp only at hSw); go_simp; try with_reducible rfl
  simp only [Act.put, zsa, zsz, zss];refine wpAnyH_ready (rs := [6]) (by kernel_rfl) (by simp) ?_;refine AllReadyH.cons (o := ?oia6) ?hia6 (fun K hK => ?_) AllReadyH.nil
  case hia6 => simp only [zga, zgs, zgz]; rfl
  go_simp;refine (HLA.out _).mono ?_;rintro e v6 ⟨rfl, rfl⟩;go_wp2_with fail
  refine hK.out _ _ (hHeld) (fun hN => ?_);clear hK K hHeld;have hHeld := hN;clear hN
  try simp only [Act.put, zsa, zsz, zss]
  refine wpAnyH_take (i := 7) (oi := ?oia7) (v := ?vva7) ?hia7 (by kernel_rfl) (by kernel_rfl) (by kernel_rfl) ?hqa7 ?hya7 hHeld ?_
  case hia7 => simp only [zga, zgs, zgz]; rfl
  case hqa7 => exact fun _ _ _ h => h
  case hya7 => refine .inl ⟨by rfl, ?_⟩; intro w' hSw; (try dsimp only at hSw); go_simp; try with_reducible rfl
  simp only [Act.put, zsa, zsz, zss];refine wpAnyH_take (i := 8) (oi := ?oia8) (v := undef) ?hia8 (by kernel_rfl) (by kernel_rfl) (by kernel_rfl) ?hqa8 ?hya8 hHeld ?_
  case hia8 => simp only [zga, zgs, zgz]; rfl
  case hqa8 => exact fun _ _ _ h => h
  case hya8 => exact Or.inr ⟨by rfl, rfl⟩
  simp only [Act.put, zsa, zsz, zss];refine wpAnyH_take (i := 9) (oi := ?oia9) (v := undef) ?hia9 (by kernel_rfl) (by kernel_rfl) (by kernel_rfl) ?hqa9 ?hya9 hHeld ?_
  case hia9 => simp only [zga, zgs, zgz]; rfl
  case hqa9 => exact fun _ _ _ h => h
  case hya9 => exact Or.inr ⟨by rfl, rfl⟩
  simp only [Act.put, zsa, zsz, zss];refine wpAnyH_take (i := 10) (oi := ?oia10) (v := undef) ?hia10 (by kernel_rfl) (by kernel_rfl) (by kernel_rfl) ?hqa10 ?hya10 hHeld ?_
  case hia10 => simp only [zga, zgs, zgz]; rfl
  case hqa10 => exact fun _ _ _ h => h
  case hya10 => exact Or.inr ⟨by rfl, rfl⟩
  simp only [Act.put, zsa, zsz, zss];refine wpAnyH_take (i := 11) (oi := ?oia11) (v := undef) ?hia11 (by kernel_rfl) (by kernel_rfl) (by kernel_rfl) ?hqa11 ?hya11 hHeld ?_
  case hia11 => simp only [zga, zgs, zgz]; rfl
  case hqa11 => exact fun _ _ _ h => h
  case hya11 => exact Or.inr ⟨by rfl, rfl⟩
  simp only [Act.put, zsa, zsz, zss];refine wpAnyH_take (i := 12) (oi := ?oia12) (v := undef) ?hia12 (by kernel_rfl) (by kernel_rfl) (by kernel_rfl) ?hqa12 ?hya12 hHeld ?_
  case hia12 => simp only [zga, zgs, zgz]; rfl
  case hqa12 => exact fun _ _ _ h => h
  case hya12 => exact Or.inr ⟨by rfl, rfl⟩
  simp only [Act.put, zsa, zsz, zss];refine wpAnyH_take (i := 13) (oi := ?oia13) (v := undef) ?hia13 (by kernel_rfl) (by kernel_rfl) (by kernel_rfl) ?hqa13 ?hya13 hHeld ?_
  case hia13 => simp only [zga, zgs, zgz]; rfl
  case hqa13 => exact fun _ _ _ h => h
  case hya13 => exact Or.inr ⟨by rfl, rfl⟩
  simp only [Act.put, zsa, zsz, zss];refine wpAnyH_ready (rs := [14]) (by kernel_rfl) (by simp) ?_;refine AllReadyH.cons (o := ?oia14) ?hia14 (fun K hK => ?_) AllReadyH.nil
  case hia14 => simp only [zga, zgs, zgz]; rfl
  go_simp;refine hK.out _ _ hHeld (fun hN => ?_);clear hK K hHeld;have hHeld := hN;clear hN
  try simp only [Act.put, zsa, zsz, zss]
  refine wpAnyH_take (i := 15) (oi := ?oia15) (v := ?vva15) ?hia15 (by kernel_rfl) (by kernel_rfl) (by kernel_rfl) ?hqa15 ?hya15 hHeld ?_
  case hia15 => simp only [zga, zgs, zgz]; rfl
  case hqa15 => exact fun _ _ _ h => h
  case hya15 => refine .inl ⟨by rfl, ?_⟩; intro w' hSw; (try dsimp only at hSw); go_simp; try with_reducible rfl
  simp only [Act.put, zsa, zsz, zss];refine wpAnyH_take (i := 16) (oi := ?oia16) (v := ?vva16) ?hia16 (by kernel_rfl) (by kernel_rfl) (by kernel_rfl) ?hqa16 ?hya16 hHeld ?_
  case hia16 => simp only [zga, zgs, zgz]; rfl
  case hqa16 => exact fun _ _ _ h => h
  case hya16 => refine .inl ⟨by rfl, ?_⟩; intro w' hSw; (try dsimp only at hSw); go_simp; try with_reducible rfl
  simp only [Act.put, zsa, zsz, zss];refine wpAnyH_take (i := 17) (oi := ?oia17) (v := undef) ?hia17 (by kernel_rfl) (by kernel_rfl) (by kernel_rfl) ?hqa17 ?hya17 hHeld ?_
  case hia17 => simp only [zga, zgs, zgz]; rfl
  case hqa17 => exact fun _ _ _ h => h
  case hya17 => exact Or.inr ⟨by rfl, rfl⟩
  simp only [Act.put, zsa, zsz, zss];refine wpAnyH_take (i := 18) (oi := ?oia18) (v := undef) ?hia18 (by kernel_rfl) (by kernel_rfl) (by kernel_rfl) ?hqa18 ?hya18 hHeld ?_
  case hia18 => simp only [zga, zgs, zgz]; rfl
  case hqa18 => exact fun _ _ _ h => h
  case hya18 => exact Or.inr ⟨by rfl, rfl⟩
  simp only [Act.put, zsa, zsz, zss];refine wpAnyH_take (i := 19) (oi := ?oia19) (v := undef) ?hia19 (by kernel_rfl) (by kernel_rfl) (by kernel_rfl) ?hqa19 ?hya19 hHeld ?_
  case hia19 => simp only [zga, zgs, zgz]; rfl
  case hqa19 => exact fun _ _ _ h => h
  case hya19 => exact Or.inr ⟨by rfl, rfl⟩
  simp only [Act.put, zsa, zsz, zss];refine wpAnyH_take (i := 20) (oi := ?oia20) (v := undef) ?hia20 (by kernel_rfl) (by kernel_rfl) (by kernel_rfl) ?hqa20 ?hya20 hHeld ?_
  case hia20 => simp only [zga, zgs, zgz]; rfl
  case hqa20 => exact fun _ _ _ h => h
  case hya20 => exact Or.inr ⟨by rfl, rfl⟩
  simp only [Act.put, zsa, zsz, zss];refine wpAnyH_take (i := 21) (oi := ?oia21) (v := undef) ?hia21 (by kernel_rfl) (by kernel_rfl) (by kernel_rfl) ?hqa21 ?hya21 hHeld ?_
  case hia21 => simp only [zga, zgs, zgz]; rfl
  case hqa21 => exact fun _ _ _ h => h
  case hya21 => exact Or.inr ⟨by rfl, rfl⟩
  simp only [Act.put, zsa, zsz, zss];refine wpAnyH_take (i := 22) (oi := ?oia22) (v := undef) ?hia22 (by kernel_rfl) (by kernel_rfl) (by kernel_rfl) ?hqa22 ?hya22 hHeld ?_
  case hia22 => simp only [zga, zgs, zgz]; rfl
  case hqa22 => exact fun _ _ _ h => h
  case hya22 => exact Or.inr ⟨by rfl, rfl⟩
  simp only [Act.put, zsa, zsz, zss];refine wpAnyH_take (i := 23) (oi := ?oia23) (v := undef) ?hia23 (by kernel_rfl) (by kernel_rfl) (by kernel_rfl) ?hqa23 ?hya23 hHeld ?_
  case hia23 => simp only [zga, zgs, zgz]; rfl
  case hqa23 => exact fun _ _ _ h => h
  case hya23 => exact Or.inr ⟨by rfl, rfl⟩
  simp only [Act.put, zsa, zsz, zss];refine wpAnyH_ready (rs := [24]) (by kernel_rfl) (by simp) ?_;refine AllReadyH.cons (o := ?oia24) ?hia24 (fun K hK => ?_) AllReadyH.nil
  case hia24 => simp only [zga, zgs, zgz]; rfl
  go_simp;refine hK.out _ _ hHeld (fun hN => ?_);clear hK K hHeld;have hHeld := hN;clear hN
  try simp only [Act.put, zsa, zsz, zss]
  refine wpAnyH_take (i := 25) (oi := ?oia25) (v := undef) ?hia25 (by kernel_rfl) (by kernel_rfl) (by kernel_rfl) ?hqa25 ?hya25 hHeld ?_
  case hia25 => simp only [zga, zgs, zgz]; rfl
  case hqa25 => exact fun _ _ _ h => h
  case hya25 => exact Or.inr ⟨by rfl, rfl⟩
  simp only [Act.put, zsa, zsz, zss];refine wpAnyH_take (i := 26) (oi := ?oia26) (v := ?vva26) ?hia26 (by kernel_rfl) (by kernel_rfl) (by kernel_rfl) ?hqa26 ?hya26 hHeld ?_
  case hia26 => simp only [zga, zgs, zgz]; rfl
  case hqa26 => exact fun _ _ _ h => h
  case hya26 => refine .inl ⟨by rfl, ?_⟩; intro w' hSw; (try dsimp only at hSw); go_simp; try with_reducible rfl
  simp only [Act.put, zsa, zsz, zss];refine wpAnyH_take (i := 27) (oi := ?oia27) (v := ?vva27) ?hia27 (by kernel_rfl) (by kernel_rfl) (by kernel_rfl) ?hqa27 ?hya27 hHeld ?_
  case hia27 => simp only [zga, zgs, zgz]; rfl
  case hqa27 => exact fun _ _ _ h => h
  case hya27 => refine .inl ⟨by rfl, ?_⟩; intro w' hSw; (try dsimp only at hSw); go_simp; try with_reducible rfl
  simp only [Act.put, zsa, zsz, zss];refine wpAnyH_done (by kernel_rfl) ?_ _;have hfin := hHeld.2.2.2.2.2.2;go_wp2;go_ret;exact ⟨by rfl, hfin⟩
 | false =>
  rw [h7] at HLA
  cases h16 : lackB xb b with
  | true =>
   rw [h16] at HLB
   go_enter func80, ntmps80
   go_wp2_with fail
   refine wp_region_held_drew (S := (fun w' => w'.cell? ⟨w.heap.size, 2, none⟩ = some (.int .i64 xa) ∧ w'.cell? ⟨w.heap.size, 3, none⟩ = some (.int .i64 xb) ∧ w'.cell? ⟨w.heap.size, 6, none⟩ = some (.bool xg) ∧ w'.cell? ⟨ib, io + 2, none⟩ = some (.int .i64 a) ∧ w'.cell? ⟨ib, io + 3, none⟩ = some (.int .i64 b) ∧ w'.cell? ⟨ib, io + 6, none⟩ = some (.slice va vn vc) ∧ Below w.heap.size w w')) (by kernel_rfl) (⟨by simp, by simp, by simp, d2, d3, d6, Below.drew (bel_alloc (Below.refl _ _) _)⟩) (fun hHeld => ?_);refine wpAnyH_take (i := 0) (oi := ?oib0) (v := ?vvb0) ?hib0 (by kernel_rfl) (by kernel_rfl) (by kernel_rfl) ?hqb0 ?hyb0 hHeld ?_
   case hib0 => simp only [zga, zgs, zgz]; rfl
   case hqb0 => exact fun _ _ _ h => h
   case hyb0 => refine .inl ⟨by rfl, ?_⟩; intro w' hSw; (try dsimp only at hSw); go_simp; try with_reducible rfl
   simp only [Act.put, zsa, zsz, zss];refine wpAnyH_take (i := 1) (oi := ?oib1) (v := ?vvb1) ?hib1 (by kernel_rfl) (by kernel_rfl) (by kernel_rfl) ?hqb1 ?hyb1 hHeld ?_
   case hib1 => simp only [zga, zgs, zgz]; rfl
   case hqb1 => exact fun _ _ _ h => h
   case hyb1 => refine .inl ⟨by rfl, ?_⟩; intro w' hSw; (try dsimp only at hSw); go_simp; try with_reducible rfl
   simp only [Act.put, zsa, zsz, zss];refine wpAnyH_take (i := 2) (oi := ?oib2) (v := ?vvb2) ?hib2 (by kernel_rfl) (by kernel_rfl) (by kernel_rfl) ?hqb2 ?hyb2 hHeld ?_
   case hib2 => simp only [zga, zgs, zgz]; rfl
   case hqb2 => exact fun _ _ _ h => h
   case hyb2 => refine .inl ⟨by rfl, ?_⟩; intro w' hSw; (try dsimp only at hSw); go_simp; try with_reducible rfl
   simp only [Act.put, zsa, zsz, zss];refine wpAnyH_take (i := 3) (oi := ?oib3) (v := ?vvb3) ?hib3 (by kernel_rfl) (by kernel_rfl) (by kernel_rfl) ?hqb3 ?hyb3 hHeld ?_
   case hib3 => simp only [zga, zgs, zgz]; rfl
   case hqb3 => exact fun _ _ _ h => h
   case hyb3 => refine .inl ⟨by rfl, ?_⟩; intro w' hSw; (try dsimp only at hSw); go_simp; try with_reducible rfl
   simp only [Act.put, zsa, zsz, zss];refine wpAnyH_take (i := 4) (oi := ?oib4) (v := ?vvb4) ?hib4 (by kernel_rfl) (by kernel_rfl) (by kernel_rfl) ?hqb4 ?hyb4 hHeld ?_
   case hib4 => simp only [zga, zgs, zgz]; rfl
   case hqb4 => exact fun _ _ _ h => h
   case hyb4 => refine .inl ⟨by rfl, ?_⟩; intro w' hSw; (try dsimp only at hSw); go_simp; try with_reducible rfl
   simp only [Act.put, zsa, zsz, zss];refine wpAnyH_take (i := 5) (oi := ?oib5) (v := ?vvb5) ?hib5 (by kernel_rfl) (by kernel_rfl) (by kernel_rfl) ?hqb5 ?hyb5 hHeld ?_
   case hib5 => simp only [zga, zgs, zgz]; rfl
   case hqb5 => exact fun _ _ _ h => h
   case hyb5 => refine .inl ⟨by rfl, ?_⟩; intro w' hSw; (try dsimp only at hSw); go_simp; try with_reducible rfl
   simp only [Act.put, zsa, zsz, zss];refine wpAnyH_ready (rs := [6]) (by kernel_rfl) (by simp) ?_;refine AllReadyH.cons (o := ?oib6) ?hib6 (fun K hK => ?_) AllReadyH.nil
   case hib6 => simp only [zga, zgs, zgz]; rfl
   go_simp;refine (HLA.out _).mono ?_;rintro e v6 ⟨rfl, rfl⟩;go_wp2_with fail
   refine hK.out _ _ (hHeld) (fun hN => ?_);clear hK K hHeld;have hHeld := hN;clear hN
   try simp only [Act.put, zsa, zsz, zss]
   refine wpAnyH_take (i := 7) (oi := ?oib7) (v := ?vvb7) ?hib7 (by kernel_rfl) (by kernel_rfl) (by kernel_rfl) ?hqb7 ?hyb7 hHeld ?_
   case hib7 => simp only [zga, zgs, zgz]; rfl
   case hqb7 => exact fun _ _ _ h => h
   case hyb7 => refine .inl ⟨by rfl, ?_⟩; intro w' hSw; (try dsimp only at hSw); go_simp; try with_reducible rfl
   simp only [Act.put, zsa, zsz, zss];refine wpAnyH_take (i := 8) (oi := ?oib8) (v := ?vvb8) ?hib8 (by kernel_rfl) (by kernel_rfl) (by kernel_rfl) ?hqb8 ?hyb8 hHeld ?_
   case hib8 => simp only [zga, zgs, zgz]; rfl
   case hqb8 => exact fun _ _ _ h => h
   case hyb8 => refine .inl ⟨by rfl, ?_⟩; intro w' hSw; (try dsimp only at hSw); go_simp; try with_reducible rfl
   simp only [Act.put, zsa, zsz, zss];refine wpAnyH_take (i := 9) (oi := ?oib9) (v := ?vvb9) ?hib9 (by kernel_rfl) (by kernel_rfl) (by kernel_rfl) ?hqb9 ?hyb9 hHeld ?_
   case hib9 => simp only [zga, zgs, zgz]; rfl
   case hqb9 => exact fun _ _ _ h => h
   case hyb9 => refine .inl ⟨by rfl, ?_⟩; intro w' hSw; (try dsimp only at hSw); go_simp; try with_reducible rfl
   simp only [Act.put, zsa, zsz, zss];refine wpAnyH_take (i := 10) (oi := ?oib10) (v := ?vvb10) ?hib10 (by kernel_rfl) (by kernel_rfl) (by kernel_rfl) ?hqb10 ?hyb10 hHeld ?_
   case hib10 => simp only [zga, zgs, zgz]; rfl
   case hqb10 => exact fun _ _ _ h => h
   case hyb10 => refine .inl ⟨by rfl, ?_⟩; intro w' hSw; (try dsimp only at hSw); go_simp; try with_reducible rfl
   simp only [Act.put, zsa, zsz, zss];refine wpAnyH_take (i := 11) (oi := ?oib11) (v := ?vvb11) ?hib11 (by kernel_rfl) (by kernel_rfl) (by kernel_rfl) ?hqb11 ?hyb11 hHeld ?_
   case hib11 => simp only [zga, zgs, zgz]; rfl
   case hqb11 => exact fun _ _ _ h => h
   case hyb11 => refine .inl ⟨by rfl, ?_⟩; intro w' hSw; (try dsimp only at hSw); go_simp; try with_reducible rfl
   simp only [Act.put, zsa, zsz, zss];refine wpAnyH_take (i := 12) (oi := ?oib12) (v := ?vvb12) ?hib12 (by kernel_rfl) (by kernel_rfl) (by kernel_rfl) ?hqb12 ?hyb12 hHeld ?_
   case hib12 => simp only [zga, zgs, zgz]; rfl
   case hqb12 => exact fun _ _ _ h => h
   case hyb12 => refine .inl ⟨by rfl, ?_⟩; intro w' hSw; (try dsimp only at hSw); go_simp; try with_reducible rfl
   simp only [Act.put, zsa, zsz, zss];refine wpAnyH_take (i := 13) (oi := ?oib13) (v := ?vvb13) ?hib13 (by kernel_rfl) (by kernel_rfl) (by kernel_rfl) ?hqb13 ?hyb13 hHeld ?_
   case hib13 => simp only [zga, zgs, zgz]; rfl
   case hqb13 => exact fun _ _ _ h => h
   case hyb13 => refine .inl ⟨by rfl, ?_⟩; intro w' hSw; (try dsimp only at hSw); go_simp; try with_reducible rfl
   simp only [Act.put, zsa, zsz, zss];refine wpAnyH_ready (rs := [14]) (by kernel_rfl) (by simp) ?_;refine AllReadyH.cons (o := ?oib14) ?hib14 (fun K hK => ?_) AllReadyH.nil
   case hib14 => simp only [zga, zgs, zgz]; rfl
   go_simp;refine (HLB.out _).mono ?_;rintro e v14 ⟨rfl, rfl⟩;go_wp2_with fail
   refine hK.out _ _ (hHeld) (fun hN => ?_);clear hK K hHeld;have hHeld := hN;clear hN
   try simp only [Act.put, zsa, zsz, zss]
   refine wpAnyH_take (i := 15) (oi := ?oib15) (v := ?vvb15) ?hib15 (by kernel_rfl) (by kernel_rfl) (by kernel_rfl) ?hqb15 ?hyb15 hHeld ?_
   case hib15 => simp only [zga, zgs, zgz]; rfl
   case hqb15 => exact fun _ _ _ h => h
   case hyb15 => refine .inl ⟨by rfl, ?_⟩; intro w' hSw; (try dsimp only at hSw); go_simp; try with_reducible rfl
   simp only [Act.put, zsa, zsz, zss];refine wpAnyH_take (i := 16) (oi := ?oib16) (v := ?vvb16) ?hib16 (by kernel_rfl) (by kernel_rfl) (by kernel_rfl) ?hqb16 ?hyb16 hHeld ?_
   case hib16 => simp only [zga, zgs, zgz]; rfl
   case hqb16 => exact fun _ _ _ h => h
   case hyb16 => refine .inl ⟨by rfl, ?_⟩; intro w' hSw; (try dsimp only at hSw); go_simp; try with_reducible rfl
   simp only [Act.put, zsa, zsz, zss];refine wpAnyH_take (i := 17) (oi := ?oib17) (v := undef) ?hib17 (by kernel_rfl) (by kernel_rfl) (by kernel_rfl) ?hqb17 ?hyb17 hHeld ?_
   case hib17 => simp only [zga, zgs, zgz]; rfl
   case hqb17 => exact fun _ _ _ h => h
   case hyb17 => exact Or.inr ⟨by rfl, rfl⟩
   simp only [Act.put, zsa, zsz, zss];refine wpAnyH_take (i := 18) (oi := ?oib18) (v := undef) ?hib18 (by kernel_rfl) (by kernel_rfl) (by kernel_rfl) ?hqb18 ?hyb18 hHeld ?_
   case hib18 => simp only [zga, zgs, zgz]; rfl
   case hqb18 => exact fun _ _ _ h => h
   case hyb18 => exact Or.inr ⟨by rfl, rfl⟩
   simp only [Act.put, zsa, zsz, zss];refine wpAnyH_take (i := 19) (oi := ?oib19) (v := undef) ?hib19 (by kernel_rfl) (by kernel_rfl) (by kernel_rfl) ?hqb19 ?hyb19 hHeld ?_
   case hib19 => simp only [zga, zgs, zgz]; rfl
   case hqb19 => exact fun _ _ _ h => h
   case hyb19 => exact Or.inr ⟨by rfl, rfl⟩
   simp only [Act.put, zsa, zsz, zss];refine wpAnyH_take (i := 20) (oi := ?oib20) (v := undef) ?hib20 (by kernel_rfl) (by kernel_rfl) (by kernel_rfl) ?hqb20 ?hyb20 hHeld ?_
   case hib20 => simp only [zga, zgs, zgz]; rfl
   case hqb20 => exact fun _ _ _ h => h
   case hyb20 => exact Or.inr ⟨by rfl, rfl⟩
   simp only [Act.put, zsa, zsz, zss];refine wpAnyH_take (i := 21) (oi := ?oib21) (v := undef) ?hib21 (by kernel_rfl) (by kernel_rfl) (by kernel_rfl) ?hqb21 ?hyb21 hHeld ?_
   case hib21 => simp only [zga, zgs, zgz]; rfl
   case hqb21 => exact fun _ _ _ h => h
   case hyb21 => exact Or.inr ⟨by rfl, rfl⟩
   simp only [Act.put, zsa, zsz, zss];refine wpAnyH_take (i := 22) (oi := ?oib22) (v := undef) ?hib22 (by kernel_rfl) (by kernel_rfl) (by kernel_rfl) ?hqb22 ?hyb22 hHeld ?_
   case hib22 => simp only [zga, zgs, zgz]; rfl
   case hqb22 => exact fun _ _ _ h => h
   case hyb22 => exact Or.inr ⟨by rfl, rfl⟩
   simp only [Act.put, zsa, zsz, zss];refine wpAnyH_take (i := 23) (oi := ?oib23) (v := undef) ?hib23 (by kernel_rfl) (by kernel_rfl) (by kernel_rfl) ?hqb23 ?hyb23 hHeld ?_
   case hib23 => simp only [zga, zgs, zgz]; rfl
   case hqb23 => exact fun _ _ _ h => h
   case hyb23 => exact Or.inr ⟨by rfl, rfl⟩
   simp only [Act.put, zsa, zsz, zss];refine wpAnyH_ready (rs := [24]) (by kernel_rfl) (by simp) ?_;refine AllReadyH.cons (o := ?oib24) ?hib24 (fun K hK => ?_) AllReadyH.nil
   case hib24 => simp only [zga, zgs, zgz]; rfl
   go_simp;refine hK.out _ _ hHeld (fun hN => ?_);clear hK K hHeld;have hHeld := hN;clear hN
   try simp only [Act.put, zsa, zsz, zss]
   refine wpAnyH_take (i := 25) (oi := ?oib25) (v := undef) ?hib25 (by kernel_rfl) (by kernel_rfl) (by kernel_rfl) ?hqb25 ?hyb25 hHeld ?_
   case hib25 => simp only [zga, zgs, zgz]; rfl
   case hqb25 => exact fun _ _ _ h => h
   case hyb25 => exact Or.inr ⟨by rfl, rfl⟩
   simp only [Act.put, zsa, zsz, zss];refine wpAnyH_take (i := 26) (oi := ?oib26) (v := ?vvb26) ?hib26 (by kernel_rfl) (by kernel_rfl) (by kernel_rfl) ?hqb26 ?hyb26 hHeld ?_
   case hib26 => simp only [zga, zgs, zgz]; rfl
   case hqb26 => exact fun _ _ _ h => h
   case hyb26 => refine .inl ⟨by rfl, ?_⟩; intro w' hSw; (try dsimp only at hSw); go_simp; try with_reducible rfl
   simp only [Act.put, zsa, zsz, zss];refine wpAnyH_take (i := 27) (oi := ?oib27) (v := ?vvb27) ?hib27 (by kernel_rfl) (by kernel_rfl) (by kernel_rfl) ?hqb27 ?hyb27 hHeld ?_
   case hib27 => simp only [zga, zgs, zgz]; rfl
   case hqb27 => exact fun _ _ _ h => h
   case hyb27 => refine .inl ⟨by rfl, ?_⟩; intro w' hSw; (try dsimp only at hSw); go_simp; try with_reducible rfl
   simp only [Act.put, zsa, zsz, zss];refine wpAnyH_done (by kernel_rfl) ?_ _;have hfin := hHeld.2.2.2.2.2.2;go_wp2;go_ret;exact ⟨by rfl, hfin⟩
  | false =>
   rw [h16] at HLB
   cases xg with
   | true =>
    go_enter func80, ntmps80
    go_wp2_with fail
    refine wp_region_held_drew (S := (fun w' => w'.cell? ⟨w.heap.size, 2, none⟩ = some (.int .i64 xa) ∧ w'.cell? ⟨w.heap.size, 3, none⟩ = some (.int .i64 xb) ∧ w'.cell? ⟨w.heap.size, 6, none⟩ = some (.bool true) ∧ w'.cell? ⟨ib, io + 2, none⟩ = some (.int .i64 a) ∧ w'.cell? ⟨ib, io + 3, none⟩ = some (.int .i64 b) ∧ w'.cell? ⟨ib, io + 6, none⟩ = some (.slice va vn vc) ∧ Below w.heap.size w w')) (by kernel_rfl) (⟨by simp, by simp, by simp, d2, d3, d6, Below.drew (bel_alloc (Below.refl _ _) _)⟩) (fun hHeld => ?_);refine wpAnyH_take (i := 0) (oi := ?oic0) (v := ?vvc0) ?hic0 (by kernel_rfl) (by kernel_rfl) (by kernel_rfl) ?hqc0 ?hyc0 hHeld ?_
    case hic0 => simp only [zga, zgs, zgz]; rfl
    case hqc0 => exact fun _ _ _ h => h
    case hyc0 => refine .inl ⟨by rfl, ?_⟩; intro w' hSw; (try dsimp only at hSw); go_simp; try with_reducible rfl
    simp only [Act.put, zsa, zsz, zss];refine wpAnyH_take (i := 1) (oi := ?oic1) (v := ?vvc1) ?hic1 (by kernel_rfl) (by kernel_rfl) (by kernel_rfl) ?hqc1 ?hyc1 hHeld ?_
    case hic1 => simp only [zga, zgs, zgz]; rfl
    case hqc1 => exact fun _ _ _ h => h
    case hyc1 => refine .inl ⟨by rfl, ?_⟩; intro w' hSw; (try dsimp only at hSw); go_simp; try with_reducible rfl
    simp only [Act.put, zsa, zsz, zss];refine wpAnyH_take (i := 2) (oi := ?oic2) (v := ?vvc2) ?hic2 (by kernel_rfl) (by kernel_rfl) (by kernel_rfl) ?hqc2 ?hyc2 hHeld ?_
    case hic2 => simp only [zga, zgs, zgz]; rfl
    case hqc2 => exact fun _ _ _ h => h
    case hyc2 => refine .inl ⟨by rfl, ?_⟩; intro w' hSw; (try dsimp only at hSw); go_simp; try with_reducible rfl
    simp only [Act.put, zsa, zsz, zss];refine wpAnyH_take (i := 3) (oi := ?oic3) (v := ?vvc3) ?hic3 (by kernel_rfl) (by kernel_rfl) (by kernel_rfl) ?hqc3 ?hyc3 hHeld ?_
    case hic3 => simp only [zga, zgs, zgz]; rfl
    case hqc3 => exact fun _ _ _ h => h
    case hyc3 => refine .inl ⟨by rfl, ?_⟩; intro w' hSw; (try dsimp only at hSw); go_simp; try with_reducible rfl
    simp only [Act.put, zsa, zsz, zss];refine wpAnyH_take (i := 4) (oi := ?oic4) (v := ?vvc4) ?hic4 (by kernel_rfl) (by kernel_rfl) (by kernel_rfl) ?hqc4 ?hyc4 hHeld ?_
    case hic4 => simp only [zga, zgs, zgz]; rfl
    case hqc4 => exact fun _ _ _ h => h
    case hyc4 => refine .inl ⟨by rfl, ?_⟩; intro w' hSw; (try dsimp only at hSw); go_simp; try with_reducible rfl
    simp only [Act.put, zsa, zsz, zss];refine wpAnyH_take (i := 5) (oi := ?oic5) (v := ?vvc5) ?hic5 (by kernel_rfl) (by kernel_rfl) (by kernel_rfl) ?hqc5 ?hyc5 hHeld ?_
    case hic5 => simp only [zga, zgs, zgz]; rfl
    case hqc5 => exact fun _ _ _ h => h
    case hyc5 => refine .inl ⟨by rfl, ?_⟩; intro w' hSw; (try dsimp only at hSw); go_simp; try with_reducible rfl
    simp only [Act.put, zsa, zsz, zss];refine wpAnyH_ready (rs := [6]) (by kernel_rfl) (by simp) ?_;refine AllReadyH.cons (o := ?oic6) ?hic6 (fun K hK => ?_) AllReadyH.nil
    case hic6 => simp only [zga, zgs, zgz]; rfl
    go_simp;refine (HLA.out _).mono ?_;rintro e v6 ⟨rfl, rfl⟩;go_wp2_with fail
    refine hK.out _ _ (hHeld) (fun hN => ?_);clear hK K hHeld;have hHeld := hN;clear hN
    try simp only [Act.put, zsa, zsz, zss]
    refine wpAnyH_take (i := 7) (oi := ?oic7) (v := ?vvc7) ?hic7 (by kernel_rfl) (by kernel_rfl) (by kernel_rfl) ?hqc7 ?hyc7 hHeld ?_
    case hic7 => simp only [zga, zgs, zgz]; rfl
    case hqc7 => exact fun _ _ _ h => h
    case hyc7 => refine .inl ⟨by rfl, ?_⟩; intro w' hSw; (try dsimp only at hSw); go_simp; try with_reducible rfl
    simp only [Act.put, zsa, zsz, zss];refine wpAnyH_take (i := 8) (oi := ?oic8) (v := ?vvc8) ?hic8 (by kernel_rfl) (by kernel_rfl) (by kernel_rfl) ?hqc8 ?hyc8 hHeld ?_
    case hic8 => simp only [zga, zgs, zgz]; rfl
    case hqc8 => exact fun _ _ _ h => h
    case hyc8 => refine .inl ⟨by rfl, ?_⟩; intro w' hSw; (try dsimp only at hSw); go_simp; try with_reducible rfl
    simp only [Act.put, zsa, zsz, zss];refine wpAnyH_take (i := 9) (oi := ?oic9) (v := ?vvc9) ?hic9 (by kernel_rfl) (by kernel_rfl) (by kernel_rfl) ?hqc9 ?hyc9 hHeld ?_
    case hic9 => simp only [zga, zgs, zgz]; rfl
    case hqc9 => exact fun _ _ _ h => h
    case hyc9 => refine .inl ⟨by rfl, ?_⟩; intro w' hSw; (try dsimp only at hSw); go_simp; try with_reducible rfl
    simp only [Act.put, zsa, zsz, zss];refine wpAnyH_take (i := 10) (oi := ?oic10) (v := ?vvc10) ?hic10 (by kernel_rfl) (by kernel_rfl) (by kernel_rfl) ?hqc10 ?hyc10 hHeld ?_
    case hic10 => simp only [zga, zgs, zgz]; rfl
    case hqc10 => exact fun _ _ _ h => h
    case hyc10 => refine .inl ⟨by rfl, ?_⟩; intro w' hSw; (try dsimp only at hSw); go_simp; try with_reducible rfl
    simp only [Act.put, zsa, zsz, zss];refine wpAnyH_take (i := 11) (oi := ?oic11) (v := ?vvc11) ?hic11 (by kernel_rfl) (by kernel_rfl) (by kernel_rfl) ?hqc11 ?hyc11 hHeld ?_
    case hic11 => simp only [zga, zgs, zgz]; rfl
    case hqc11 => exact fun _ _ _ h => h
    case hyc11 => refine .inl ⟨by rfl, ?_⟩; intro w' hSw; (try dsimp only at hSw); go_simp; try with_reducible rfl
    simp only [Act.put, zsa, zsz, zss];refine wpAnyH_take (i := 12) (oi := ?oic12) (v := ?vvc12) ?hic12 (by kernel_rfl) (by kernel_rfl) (by kernel_rfl) ?hqc12 ?hyc12 hHeld ?_
    case hic12 => simp only [zga, zgs, zgz]; rfl
    case hqc12 => exact fun _ _ _ h => h
    case hyc12 => refine .inl ⟨by rfl, ?_⟩; intro w' hSw; (try dsimp only at hSw); go_simp; try with_reducible rfl
    simp only [Act.put, zsa, zsz, zss];refine wpAnyH_take (i := 13) (oi := ?oic13) (v := ?vvc13) ?hic13 (by kernel_rfl) (by kernel_rfl) (by kernel_rfl) ?hqc13 ?hyc13 hHeld ?_
    case hic13 => simp only [zga, zgs, zgz]; rfl
    case hqc13 => exact fun _ _ _ h => h
    case hyc13 => refine .inl ⟨by rfl, ?_⟩; intro w' hSw; (try dsimp only at hSw); go_simp; try with_reducible rfl
    simp only [Act.put, zsa, zsz, zss];refine wpAnyH_ready (rs := [14]) (by kernel_rfl) (by simp) ?_;refine AllReadyH.cons (o := ?oic14) ?hic14 (fun K hK => ?_) AllReadyH.nil
    case hic14 => simp only [zga, zgs, zgz]; rfl
    go_simp;refine (HLB.out _).mono ?_;rintro e v14 ⟨rfl, rfl⟩;go_wp2_with fail
    refine hK.out _ _ (hHeld) (fun hN => ?_);clear hK K hHeld;have hHeld := hN;clear hN
    try simp only [Act.put, zsa, zsz, zss]
    refine wpAnyH_take (i := 15) (oi := ?oic15) (v := ?vvc15) ?hic15 (by kernel_rfl) (by kernel_rfl) (by kernel_rfl) ?hqc15 ?hyc15 hHeld ?_
    case hic15 => simp only [zga, zgs, zgz]; rfl
    case hqc15 => exact fun _ _ _ h => h
    case hyc15 => refine .inl ⟨by rfl, ?_⟩; intro w' hSw; (try dsimp only at hSw); go_simp; try with_reducible rfl
    simp only [Act.put, zsa, zsz, zss];refine wpAnyH_take (i := 16) (oi := ?oic16) (v := ?vvc16) ?hic16 (by kernel_rfl) (by kernel_rfl) (by kernel_rfl) ?hqc16 ?hyc16 hHeld ?_
    case hic16 => simp only [zga, zgs, zgz]; rfl
    case hqc16 => exact fun _ _ _ h => h
    case hyc16 => refine .inl ⟨by rfl, ?_⟩; intro w' hSw; (try dsimp only at hSw); go_simp; try with_reducible rfl
    simp only [Act.put, zsa, zsz, zss];refine wpAnyH_take (i := 17) (oi := ?oic17) (v := ?vvc17) ?hic17 (by kernel_rfl) (by kernel_rfl) (by kernel_rfl) ?hqc17 ?hyc17 hHeld ?_
    case hic17 => simp only [zga, zgs, zgz]; rfl
    case hqc17 => exact fun _ _ _ h => h
    case hyc17 => refine .inl ⟨by rfl, ?_⟩; intro w' hSw; (try dsimp only at hSw); go_simp; try with_reducible rfl
    simp only [Act.put, zsa, zsz, zss];refine wpAnyH_take (i := 18) (oi := ?oic18) (v := ?vvc18) ?hic18 (by kernel_rfl) (by kernel_rfl) (by kernel_rfl) ?hqc18 ?hyc18 hHeld ?_
    case hic18 => simp only [zga, zgs, zgz]; rfl
    case hqc18 => exact fun _ _ _ h => h
    case hyc18 => refine .inl ⟨by rfl, ?_⟩; intro w' hSw; (try dsimp only at hSw); go_simp; try with_reducible rfl
    simp only [Act.put, zsa, zsz, zss];refine wpAnyH_take (i := 19) (oi := ?oic19) (v := ?vvc19) ?hic19 (by kernel_rfl) (by kernel_rfl) (by kernel_rfl) ?hqc19 ?hyc19 hHeld ?_
    case hic19 => simp only [zga, zgs, zgz]; rfl
    case hqc19 => exact fun _ _ _ h => h
    case hyc19 => refine .inl ⟨by rfl, ?_⟩; intro w' hSw; (try dsimp only at hSw); go_simp; try with_reducible rfl
    simp only [Act.put, zsa, zsz, zss];refine wpAnyH_take (i := 20) (oi := ?oic20) (v := ?vvc20) ?hic20 (by kernel_rfl) (by kernel_rfl) (by kernel_rfl) ?hqc20 ?hyc20 hHeld ?_
    case hic20 => simp only [zga, zgs, zgz]; rfl
    case hqc20 => exact fun _ _ _ h => h
    case hyc20 => refine .inl ⟨by rfl, ?_⟩; intro w' hSw; (try dsimp only at hSw); go_simp; try with_reducible rfl
    simp only [Act.put, zsa, zsz, zss];refine wpAnyH_take (i := 21) (oi := ?oic21) (v := ?vvc21) ?hic21 (by kernel_rfl) (by kernel_rfl) (by kernel_rfl) ?hqc21 ?hyc21 hHeld ?_
    case hic21 => simp only [zga, zgs, zgz]; rfl
    case hqc21 => exact fun _ _ _ h => h
    case hyc21 => refine .inl ⟨by rfl, ?_⟩; intro w' hSw; (try dsimp only at hSw); go_simp; try with_reducible rfl
    simp only [Act.put, zsa, zsz, zss];refine wpAnyH_take (i := 22) (oi := ?oic22) (v := ?vvc22) ?hic22 (by kernel_rfl) (by kernel_rfl) (by kernel_rfl) ?hqc22 ?hyc22 hHeld ?_
    case hic22 => simp only [zga, zgs, zgz]; rfl
    case hqc22 => exact fun _ _ _ h => h
    case hyc22 => refine .inl ⟨by rfl, ?_⟩; intro w' hSw; (try dsimp only at hSw); go_simp; try with_reducible rfl
    simp only [Act.put, zsa, zsz, zss];refine wpAnyH_take (i := 23) (oi := ?oic23) (v := ?vvc23) ?hic23 (by kernel_rfl) (by kernel_rfl) (by kernel_rfl) ?hqc23 ?hyc23 hHeld ?_
    case hic23 => simp only [zga, zgs, zgz]; rfl
    case hqc23 => exact fun _ _ _ h => h
    case hyc23 => refine .inl ⟨by rfl, ?_⟩; intro w' hSw; (try dsimp only at hSw); go_simp; try with_reducible rfl
    simp only [Act.put, zsa, zsz, zss];refine wpAnyH_ready (rs := [24]) (by kernel_rfl) (by simp) ?_;refine AllReadyH.cons (o := ?oic24) ?hic24 (fun K hK => ?_) AllReadyH.nil
    case hic24 => simp only [zga, zgs, zgz]; rfl
    go_simp;refine (HCT.out _ hHeld.2.2.2.2.2.2).mono ?_;rintro e v24 ⟨rfl, rfl⟩;go_wp2_with fail
    refine hK.out _ _ (hHeld) (fun hN => ?_);clear hK K hHeld;have hHeld := hN;clear hN
    try simp only [Act.put, zsa, zsz, zss]
    refine wpAnyH_take (i := 25) (oi := ?oic25) (v := ?vvc25) ?hic25 (by kernel_rfl) (by kernel_rfl) (by kernel_rfl) ?hqc25 ?hyc25 hHeld ?_
    case hic25 => simp only [zga, zgs, zgz]; rfl
    case hqc25 => exact fun _ _ _ h => h
    case hyc25 => refine .inl ⟨by rfl, ?_⟩; intro w' hSw; (try dsimp only at hSw); go_simp; try with_reducible rfl
    simp only [Act.put, zsa, zsz, zss];refine wpAnyH_take (i := 26) (oi := ?oic26) (v := ?vvc26) ?hic26 (by kernel_rfl) (by kernel_rfl) (by kernel_rfl) ?hqc26 ?hyc26 hHeld ?_
    case hic26 => simp only [zga, zgs, zgz]; rfl
    case hqc26 => exact fun _ _ _ h => h
    case hyc26 => refine .inl ⟨by rfl, ?_⟩; intro w' hSw; (try dsimp only at hSw); go_simp; try with_reducible rfl
    simp only [Act.put, zsa, zsz, zss];refine wpAnyH_take (i := 27) (oi := ?oic27) (v := ?vvc27) ?hic27 (by kernel_rfl) (by kernel_rfl) (by kernel_rfl) ?hqc27 ?hyc27 hHeld ?_
    case hic27 => simp only [zga, zgs, zgz]; rfl
    case hqc27 => exact fun _ _ _ h => h
    case hyc27 => refine .inl ⟨by rfl, ?_⟩; intro w' hSw; (try dsimp only at hSw); go_simp; try with_reducible rfl
    simp only [Act.put, zsa, zsz, zss];refine wpAnyH_done (by kernel_rfl) ?_ _;have hfin := hHeld.2.2.2.2.2.2;go_wp2;go_ret;exact ⟨by rfl, hfin⟩
   | false =>
    go_enter func80, ntmps80
    go_wp2_with fail
    refine wp_region_held_drew (S := (fun w' => w'.cell? ⟨w.heap.size, 2, none⟩ = some (.int .i64 xa) ∧ w'.cell? ⟨w.heap.size, 3, none⟩ = some (.int .i64 xb) ∧ w'.cell? ⟨w.heap.size, 6, none⟩ = some (.bool false) ∧ w'.cell? ⟨ib, io + 2, none⟩ = some (.int .i64 a) ∧ w'.cell? ⟨ib, io + 3, none⟩ = some (.int .i64 b) ∧ w'.cell? ⟨ib, io + 6, none⟩ = some (.slice va vn vc) ∧ Below w.heap.size w w')) (by kernel_rfl) (⟨by simp, by simp, by simp, d2, d3, d6, Below.drew (bel_alloc (Below.refl _ _) _)⟩) (fun hHeld => ?_);refine wpAnyH_take (i := 0) (oi := ?oid0) (v := ?vvd0) ?hid0 (by kernel_rfl) (by kernel_rfl) (by kernel_rfl) ?hqd0 ?hyd0 hHeld ?_
    case hid0 => simp only [zga, zgs, zgz]; rfl
    case hqd0 => exact fun _ _ _ h => h
    case hyd0 => refine .inl ⟨by rfl, ?_⟩; intro w' hSw; (try dsimp only at hSw); go_simp; try with_reducible rfl
    simp only [Act.put, zsa, zsz, zss];refine wpAnyH_take (i := 1) (oi := ?oid1) (v := ?vvd1) ?hid1 (by kernel_rfl) (by kernel_rfl) (by kernel_rfl) ?hqd1 ?hyd1 hHeld ?_
    case hid1 => simp only [zga, zgs, zgz]; rfl
    case hqd1 => exact fun _ _ _ h => h
    case hyd1 => refine .inl ⟨by rfl, ?_⟩; intro w' hSw; (try dsimp only at hSw); go_simp; try with_reducible rfl
    simp only [Act.put, zsa, zsz, zss];refine wpAnyH_take (i := 2) (oi := ?oid2) (v := ?vvd2) ?hid2 (by kernel_rfl) (by kernel_rfl) (by kernel_rfl) ?hqd2 ?hyd2 hHeld ?_
    case hid2 => simp only [zga, zgs, zgz]; rfl
    case hqd2 => exact fun _ _ _ h => h
    case hyd2 => refine .inl ⟨by rfl, ?_⟩; intro w' hSw; (try dsimp only at hSw); go_simp; try with_reducible rfl
    simp only [Act.put, zsa, zsz, zss];refine wpAnyH_take (i := 3) (oi := ?oid3) (v := ?vvd3) ?hid3 (by kernel_rfl) (by kernel_rfl) (by kernel_rfl) ?hqd3 ?hyd3 hHeld ?_
    case hid3 => simp only [zga, zgs, zgz]; rfl
    case hqd3 => exact fun _ _ _ h => h
    case hyd3 => refine .inl ⟨by rfl, ?_⟩; intro w' hSw; (try dsimp only at hSw); go_simp; try with_reducible rfl
    simp only [Act.put, zsa, zsz, zss];refine wpAnyH_take (i := 4) (oi := ?oid4) (v := ?vvd4) ?hid4 (by kernel_rfl) (by kernel_rfl) (by kernel_rfl) ?hqd4 ?hyd4 hHeld ?_
    case hid4 => simp only [zga, zgs, zgz]; rfl
    case hqd4 => exact fun _ _ _ h => h
    case hyd4 => refine .inl ⟨by rfl, ?_⟩; intro w' hSw; (try dsimp only at hSw); go_simp; try with_reducible rfl
    simp only [Act.put, zsa, zsz, zss];refine wpAnyH_take (i := 5) (oi := ?oid5) (v := ?vvd5) ?hid5 (by kernel_rfl) (by kernel_rfl) (by kernel_rfl) ?hqd5 ?hyd5 hHeld ?_
    case hid5 => simp only [zga, zgs, zgz]; rfl
    case hqd5 => exact fun _ _ _ h => h
    case hyd5 => refine .inl ⟨by rfl, ?_⟩; intro w' hSw; (try dsimp only at hSw); go_simp; try with_reducible rfl
    simp only [Act.put, zsa, zsz, zss];refine wpAnyH_ready (rs := [6]) (by kernel_rfl) (by simp) ?_;refine AllReadyH.cons (o := ?oid6) ?hid6 (fun K hK => ?_) AllReadyH.nil
    case hid6 => simp only [zga, zgs, zgz]; rfl
    go_simp;refine (HLA.out _).mono ?_;rintro e v6 ⟨rfl, rfl⟩;go_wp2_with fail
    refine hK.out _ _ (hHeld) (fun hN => ?_);clear hK K hHeld;have hHeld := hN;clear hN
    try simp only [Act.put, zsa, zsz, zss]
    refine wpAnyH_take (i := 7) (oi := ?oid7) (v := ?vvd7) ?hid7 (by kernel_rfl) (by kernel_rfl) (by kernel_rfl) ?hqd7 ?hyd7 hHeld ?_
    case hid7 => simp only [zga, zgs, zgz]; rfl
    case hqd7 => exact fun _ _ _ h => h
    case hyd7 => refine .inl ⟨by rfl, ?_⟩; intro w' hSw; (try dsimp only at hSw); go_simp; try with_reducible rfl
    simp only [Act.put, zsa, zsz, zss];refine wpAnyH_take (i := 8) (oi := ?oid8) (v := ?vvd8) ?hid8 (by kernel_rfl) (by kernel_rfl) (by kernel_rfl) ?hqd8 ?hyd8 hHeld ?_
    case hid8 => simp only [zga, zgs, zgz]; rfl
    case hqd8 => exact fun _ _ _ h => h
    case hyd8 => refine .inl ⟨by rfl, ?_⟩; intro w' hSw; (try dsimp only at hSw); go_simp; try with_reducible rfl
    simp only [Act.put, zsa, zsz, zss];refine wpAnyH_take (i := 9) (oi := ?oid9) (v := ?vvd9) ?hid9 (by kernel_rfl) (by kernel_rfl) (by kernel_rfl) ?hqd9 ?hyd9 hHeld ?_
    case hid9 => simp only [zga, zgs, zgz]; rfl
    case hqd9 => exact fun _ _ _ h => h
    case hyd9 => refine .inl ⟨by rfl, ?_⟩; intro w' hSw; (try dsimp only at hSw); go_simp; try with_reducible rfl
    simp only [Act.put, zsa, zsz, zss];refine wpAnyH_take (i := 10) (oi := ?oid10) (v := ?vvd10) ?hid10 (by kernel_rfl) (by kernel_rfl) (by kernel_rfl) ?hqd10 ?hyd10 hHeld ?_
    case hid10 => simp only [zga, zgs, zgz]; rfl
    case hqd10 => exact fun _ _ _ h => h
    case hyd10 => refine .inl ⟨by rfl, ?_⟩; intro w' hSw; (try dsimp only at hSw); go_simp; try with_reducible rfl
    simp only [Act.put, zsa, zsz, zss];refine wpAnyH_take (i := 11) (oi := ?oid11) (v := ?vvd11) ?hid11 (by kernel_rfl) (by kernel_rfl) (by kernel_rfl) ?hqd11 ?hyd11 hHeld ?_
    case hid11 => simp only [zga, zgs, zgz]; rfl
    case hqd11 => exact fun _ _ _ h => h
    case hyd11 => refine .inl ⟨by rfl, ?_⟩; intro w' hSw; (try dsimp only at hSw); go_simp; try with_reducible rfl
    simp only [Act.put, zsa, zsz, zss];refine wpAnyH_take (i := 12) (oi := ?oid12) (v := ?vvd12) ?hid12 (by kernel_rfl) (by kernel_rfl) (by kernel_rfl) ?hqd12 ?hyd12 hHeld ?_
    case hid12 => simp only [zga, zgs, zgz]; rfl
    case hqd12 => exact fun _ _ _ h => h
    case hyd12 => refine .inl ⟨by rfl, ?_⟩; intro w' hSw; (try dsimp only at hSw); go_simp; try with_reducible rfl
    simp only [Act.put, zsa, zsz, zss];refine wpAnyH_take (i := 13) (oi := ?oid13) (v := ?vvd13) ?hid13 (by kernel_rfl) (by kernel_rfl) (by kernel_rfl) ?hqd13 ?hyd13 hHeld ?_
    case hid13 => simp only [zga, zgs, zgz]; rfl
    case hqd13 => exact fun _ _ _ h => h
    case hyd13 => refine .inl ⟨by rfl, ?_⟩; intro w' hSw; (try dsimp only at hSw); go_simp; try with_reducible rfl
    simp only [Act.put, zsa, zsz, zss];refine wpAnyH_ready (rs := [14]) (by kernel_rfl) (by simp) ?_;refine AllReadyH.cons (o := ?oid14) ?hid14 (fun K hK => ?_) AllReadyH.nil
    case hid14 => simp only [zga, zgs, zgz]; rfl
    go_simp;refine (HLB.out _).mono ?_;rintro e v14 ⟨rfl, rfl⟩;go_wp2_with fail
    refine hK.out _ _ (hHeld) (fun hN => ?_);clear hK K hHeld;have hHeld := hN;clear hN
    try simp only [Act.put, zsa, zsz, zss]
    refine wpAnyH_take (i := 15) (oi := ?oid15) (v := ?vvd15) ?hid15 (by kernel_rfl) (by kernel_rfl) (by kernel_rfl) ?hqd15 ?hyd15 hHeld ?_
    case hid15 => simp only [zga, zgs, zgz]; rfl
    case hqd15 => exact fun _ _ _ h => h
    case hyd15 => refine .inl ⟨by rfl, ?_⟩; intro w' hSw; (try dsimp only at hSw); go_simp; try with_reducible rfl
    simp only [Act.put, zsa, zsz, zss];refine wpAnyH_take (i := 16) (oi := ?oid16) (v := ?vvd16) ?hid16 (by kernel_rfl) (by kernel_rfl) (by kernel_rfl) ?hqd16 ?hyd16 hHeld ?_
    case hid16 => simp only [zga, zgs, zgz]; rfl
    case hqd16 => exact fun _ _ _ h => h
    case hyd16 => refine .inl ⟨by rfl, ?_⟩; intro w' hSw; (try dsimp only at hSw); go_simp; try with_reducible rfl
    simp only [Act.put, zsa, zsz, zss];refine wpAnyH_take (i := 17) (oi := ?oid17) (v := ?vvd17) ?hid17 (by kernel_rfl) (by kernel_rfl) (by kernel_rfl) ?hqd17 ?hyd17 hHeld ?_
    case hid17 => simp only [zga, zgs, zgz]; rfl
    case hqd17 => exact fun _ _ _ h => h
    case hyd17 => refine .inl ⟨by rfl, ?_⟩; intro w' hSw; (try dsimp only at hSw); go_simp; try with_reducible rfl
    simp only [Act.put, zsa, zsz, zss];refine wpAnyH_take (i := 18) (oi := ?oid18) (v := ?vvd18) ?hid18 (by kernel_rfl) (by kernel_rfl) (by kernel_rfl) ?hqd18 ?hyd18 hHeld ?_
    case hid18 => simp only [zga, zgs, zgz]; rfl
    case hqd18 => exact fun _ _ _ h => h
    case hyd18 => refine .inl ⟨by rfl, ?_⟩; intro w' hSw; (try dsimp only at hSw); go_simp; try with_reducible rfl
    simp only [Act.put, zsa, zsz, zss];refine wpAnyH_take (i := 19) (oi := ?oid19) (v := ?vvd19) ?hid19 (by kernel_rfl) (by kernel_rfl) (by kernel_rfl) ?hqd19 ?hyd19 hHeld ?_
    case hid19 => simp only [zga, zgs, zgz]; rfl
    case hqd19 => exact fun _ _ _ h => h
    case hyd19 => refine .inl ⟨by rfl, ?_⟩; intro w' hSw; (try dsimp only at hSw); go_simp; try with_reducible rfl
    simp only [Act.put, zsa, zsz, zss];refine wpAnyH_take (i := 20) (oi := ?oid20) (v := undef) ?hid20 (by kernel_rfl) (by kernel_rfl) (by kernel_rfl) ?hqd20 ?hyd20 hHeld ?_
    case hid20 => simp only [zga, zgs, zgz]; rfl
    case hqd20 => exact fun _ _ _ h => h
    case hyd20 => exact Or.inr ⟨by rfl, rfl⟩
    simp only [Act.put, zsa, zsz, zss];refine wpAnyH_take (i := 21) (oi := ?oid21) (v := undef) ?hid21 (by kernel_rfl) (by kernel_rfl) (by kernel_rfl) ?hqd21 ?hyd21 hHeld ?_
    case hid21 => simp only [zga, zgs, zgz]; rfl
    case hqd21 => exact fun _ _ _ h => h
    case hyd21 => exact Or.inr ⟨by rfl, rfl⟩
    simp only [Act.put, zsa, zsz, zss];refine wpAnyH_take (i := 22) (oi := ?oid22) (v := undef) ?hid22 (by kernel_rfl) (by kernel_rfl) (by kernel_rfl) ?hqd22 ?hyd22 hHeld ?_
    case hid22 => simp only [zga, zgs, zgz]; rfl
    case hqd22 => exact fun _ _ _ h => h
    case hyd22 => exact Or.inr ⟨by rfl, rfl⟩
    simp only [Act.put, zsa, zsz, zss];refine wpAnyH_take (i := 23) (oi := ?oid23) (v := undef) ?hid23 (by kernel_rfl) (by kernel_rfl) (by kernel_rfl) ?hqd23 ?hyd23 hHeld ?_
    case hid23 => simp only [zga, zgs, zgz]; rfl
    case hqd23 => exact fun _ _ _ h => h
    case hyd23 => exact Or.inr ⟨by rfl, rfl⟩
    simp only [Act.put, zsa, zsz, zss];refine wpAnyH_ready (rs := [24]) (by kernel_rfl) (by simp) ?_;refine AllReadyH.cons (o := ?oid24) ?hid24 (fun K hK => ?_) AllReadyH.nil
    case hid24 => simp only [zga, zgs, zgz]; rfl
    go_simp;refine hK.out _ _ hHeld (fun hN => ?_);clear hK K hHeld;have hHeld := hN;clear hN
    try simp only [Act.put, zsa, zsz, zss]
    refine wpAnyH_take (i := 25) (oi := ?oid25) (v := ?vvd25) ?hid25 (by kernel_rfl) (by kernel_rfl) (by kernel_rfl) ?hqd25 ?hyd25 hHeld ?_
    case hid25 => simp only [zga, zgs, zgz]; rfl
    case hqd25 => exact fun _ _ _ h => h
    case hyd25 => refine .inl ⟨by rfl, ?_⟩; intro w' hSw; (try dsimp only at hSw); go_simp; try with_reducible rfl
    simp only [Act.put, zsa, zsz, zss];refine wpAnyH_take (i := 26) (oi := ?oid26) (v := ?vvd26) ?hid26 (by kernel_rfl) (by kernel_rfl) (by kernel_rfl) ?hqd26 ?hyd26 hHeld ?_
    case hid26 => simp only [zga, zgs, zgz]; rfl
    case hqd26 => exact fun _ _ _ h => h
    case hyd26 => refine .inl ⟨by rfl, ?_⟩; intro w' hSw; (try dsimp only at hSw); go_simp; try with_reducible rfl
    simp only [Act.put, zsa, zsz, zss];refine wpAnyH_take (i := 27) (oi := ?oid27) (v := ?vvd27) ?hid27 (by kernel_rfl) (by kernel_rfl) (by kernel_rfl) ?hqd27 ?hyd27 hHeld ?_
    case hid27 => simp only [zga, zgs, zgz]; rfl
    case hqd27 => exact fun _ _ _ h => h
    case hyd27 => refine .inl ⟨by rfl, ?_⟩; intro w' hSw; (try dsimp only at hSw); go_simp; try with_reducible rfl
    simp only [Act.put, zsa, zsz, zss];refine wpAnyH_done (by kernel_rfl) ?_ _;have hfin := hHeld.2.2.2.2.2.2;go_wp2;go_ret;exact ⟨by rfl, hfin⟩
theorem lacksRegister_any (x : Sp) (ib io : Nat) (a b : Int) (va : Option Addr) (vn vc : Nat) (l : List Int) (w : World) (e2 : w.cell? ⟨ib, io + 2, none⟩ = some (.int .i64 a)) (e3 : w.cell? ⟨ib, io + 3, none⟩ = some (.int .i64 b)) (e6 : w.cell? ⟨ib, io + 6, none⟩ = some (.slice va vn vc)) (hil : IL w (.slice va vn vc) l) :
  Calls prog 80 #[spV x, .pointer (some ⟨ib, io, none⟩)] w (retP (.bool (lackS x a b l)) w) := by
 obtain ⟨nm, xsb, xa, xb, xd, xk, xg, xs, xt⟩ := x;exact lacksRegister_walk nm xsb xa xb xd xk xg xs xt ib io a b va vn vc l w e2 e3 e6 hil
end Go.Proofs.YtfeglcpipcjaeaaGreatDoor
namespace Go.Proofs.YtfeglcpipcjaeaaGreatDoor
open Go.ChangeShapes Go.WideShapes Go.ChangeAt Go.RowKit Go.Proofs.Tryz
set_option linter.unusedSimpArgs false
set_option linter.unusedVariables false
set_option maxRecDepth 100000
set_option maxHeartbeats 4000000

attribute [local go_sem] Oper.semAt_some
def rangesOf : Code → List (Array Tmp × Code × Code)
 | .rangeFunc _ ps a b => [(ps, a, b)]
 | .seq a b => rangesOf a ++ rangesOf b
 | .block _ c => rangesOf c
 | .scope c => rangesOf c
 | .loop c => rangesOf c
 | .cond _ a b => rangesOf a ++ rangesOf b
 | _ => []
noncomputable def tkRanges : List (Array Tmp × Code × Code) := (Tryz.f62.body.map rangesOf).getD []
noncomputable def tkAssign (i : Nat) : Code := ((tkRanges[i]?).map (·.2.1)).getD .skip
noncomputable def tkBody (i : Nat) : Code := ((tkRanges[i]?).map (·.2.2)).getD .skip
theorem gset_other {w : World} {b b' o : Nat} {v : Value} (h : b ≠ b') : (w.setCell ⟨b', o, none⟩ v).heap[b]? = w.heap[b]? := Below.heap_setCell w ⟨b', o, none⟩ v b h
theorem gsize_set (w : World) (p : Addr) (u : Value) : (w.setCell p u).heap.size = w.heap.size := by simp [World.setCell]
theorem put_other {W : World} {l k : Nat} {o : Obj} (h : k ≠ l) : (W.putObj l o).heap[k]? = W.heap[k]? := World.putObj_heap_other h
theorem cell_not_loop {W : World} {b o l : Nat} {r : Loop} {v : Value} (hl : W.heap[l]? = some (.loop r)) (hc : W.cell? ⟨b, o, none⟩ = some v) : b ≠ l := by
 rintro rfl;simp [World.cell?, hl] at hc

theorem tk_round0 (l B0 B1 fb fo d : Nat) (fn : FuncId) (regs y : Int) (z0z z1z z3z z5z z6z z7z z8z z9z z10z z11z z12z z13z z14z z15z z16z z17z z18z z19z z20z z21z z22z z23z z24z z25z z26z z27z z28z z29z z30z z31z z32z z33z z34z z35z z36z z37z z38z z39z z40z z41z z42z z43z z44z z45z z46z z47z z48z z49z z50z z51z z52z z53z z54z z55z z56z z57z z58z z59z z60z z61z z62z z63z z64z z65z z66z z67z z68z z69z z70z z71z z72z z73z : Value) (W : World) (R : Ending → World → Prop)
  (hl : W.heap[l]? = some (.loop (loopRec fn #[z0z, z1z, .pointer (some ⟨B0, 0, none⟩), z3z, .pointer (some ⟨B1, 0, none⟩), z5z, z6z, z7z, z8z, z9z, z10z, z11z, z12z, z13z, z14z, z15z, z16z, z17z, z18z, z19z, z20z, z21z, z22z, z23z, z24z, z25z, z26z, z27z, z28z, z29z, z30z, z31z, z32z, z33z, z34z, z35z, z36z, z37z, z38z, z39z, z40z, z41z, z42z, z43z, z44z, z45z, z46z, z47z, z48z, z49z, z50z, z51z, z52z, z53z, z54z, z55z, z56z, z57z, z58z, z59z, z60z, z61z, z62z, z63z, z64z, z65z, z66z, z67z, z68z, z69z, z70z, z71z, z72z, z73z] #[25] (tkAssign 0) (tkBody 0) d))) (h0 : W.cell? ⟨B0, 0, none⟩ = some (.pointer (some ⟨fb, fo, none⟩))) (h1 : W.cell? ⟨B1, 0, none⟩ = some (.bool false)) (z1 : W.frozen? ⟨B1, 0, none⟩ = false) (k2 : W.cell? ⟨fb, fo + 2, none⟩ = some (.int .i64 regs)) (r0 : -9223372036854775808 < regs) (r1 : regs ≤ 9223372036854775807)
  (HT : Hid (inB regs y = true → ∀ W' : World, (∀ k, k ≠ l → W'.heap[k]? = W.heap[k]?) → W'.heap[l]? = some (.loop (loopRec fn #[z0z, z1z, .pointer (some ⟨B0, 0, none⟩), z3z, .pointer (some ⟨B1, 0, none⟩), z5z, z6z, z7z, z8z, z9z, z10z, z11z, z12z, z13z, z14z, z15z, z16z, z17z, z18z, z19z, z20z, z21z, z22z, z23z, z24z, z25z, z26z, z27z, z28z, z29z, z30z, z31z, z32z, z33z, z34z, z35z, z36z, z37z, z38z, z39z, z40z, z41z, z42z, z43z, z44z, z45z, z46z, z47z, z48z, z49z, z50z, z51z, z52z, z53z, z54z, z55z, z56z, z57z, z58z, z59z, z60z, z61z, z62z, z63z, z64z, z65z, z66z, z67z, z68z, z69z, z70z, z71z, z72z, z73z] #[25] (tkAssign 0) (tkBody 0) d)) → W'.heap.size = W.heap.size → W'.os = W.os → W'.tape = W.tape → W'.output = W.output → R (.returned (.bool true)) W'))
  (HF : Hid (inB regs y = false → ∀ W' : World, (∀ k, k ≠ l → k ≠ B1 → W'.heap[k]? = W.heap[k]?) → W'.cell? ⟨B1, 0, none⟩ = some (.bool false) → W'.heap[l]? = some (.loop { state := .done, pending := some .ret, fn := fn, tmps := #[z0z, z1z, .pointer (some ⟨B0, 0, none⟩), z3z, .pointer (some ⟨B1, 0, none⟩), z5z, z6z, z7z, z8z, z9z, z10z, z11z, z12z, z13z, z14z, z15z, z16z, z17z, z18z, z19z, z20z, z21z, z22z, z23z, z24z, z25z, z26z, z27z, z28z, z29z, z30z, z31z, z32z, z33z, z34z, z35z, z36z, z37z, z38z, z39z, z40z, z41z, z42z, z43z, z44z, z45z, z46z, z47z, z48z, z49z, z50z, z51z, z52z, z53z, z54z, z55z, z56z, z57z, z58z, z59z, z60z, z61z, z62z, z63z, z64z, z65z, z66z, z67z, z68z, z69z, z70z, z71z, z72z, z73z], params := #[25], assign := tkAssign 0, body := tkBody 0, defers := d }) → W'.heap.size = W.heap.size → W'.os = W.os → W'.tape = W.tape → W'.output = W.output → R (.returned (.bool false)) W')) :
  YieldAt Fence.wide 0 prog l #[.int .i64 y] W R := by
 have n0 := cell_not_loop hl h0;have n1 := cell_not_loop hl h1;have n2 := cell_not_loop hl k2;refine yield_round hl rfl rfl trivial ?_;simp only [loopRec]
 conv => arg 4; whnf
 gi_wp2
 refine ⟨(by first | exact hl | rfl), ?_⟩
 conv => arg 4; whnf
 have ll : l < W.heap.size := (zge hl).1;obtain ⟨W2, hW2⟩ : ∃ W2, W.putObj l (.loop { state := .busy, pending := none, fn := fn, tmps := #[z0z, z1z, .pointer (some ⟨B0, 0, none⟩), z3z, .pointer (some ⟨B1, 0, none⟩), z5z, z6z, z7z, z8z, z9z, z10z, z11z, z12z, z13z, z14z, z15z, z16z, z17z, z18z, z19z, z20z, z21z, z22z, z23z, z24z, z25z, z26z, z27z, z28z, z29z, z30z, z31z, z32z, z33z, z34z, z35z, z36z, z37z, z38z, z39z, z40z, z41z, z42z, z43z, z44z, z45z, z46z, z47z, z48z, z49z, z50z, z51z, z52z, z53z, z54z, z55z, z56z, z57z, z58z, z59z, z60z, z61z, z62z, z63z, z64z, z65z, z66z, z67z, z68z, z69z, z70z, z71z, z72z, z73z], params := #[25], assign := tkAssign 0, body := tkBody 0, defers := d }) = W2 := ⟨_, rfl⟩;have HO : Hid (∀ k, k ≠ l → W2.heap[k]? = W.heap[k]?) := fun k hk => by rw [← hW2]; exact put_other hk
 have HL : Hid (W2.heap[l]? = some (.loop { state := .busy, pending := none, fn := fn, tmps := #[z0z, z1z, .pointer (some ⟨B0, 0, none⟩), z3z, .pointer (some ⟨B1, 0, none⟩), z5z, z6z, z7z, z8z, z9z, z10z, z11z, z12z, z13z, z14z, z15z, z16z, z17z, z18z, z19z, z20z, z21z, z22z, z23z, z24z, z25z, z26z, z27z, z28z, z29z, z30z, z31z, z32z, z33z, z34z, z35z, z36z, z37z, z38z, z39z, z40z, z41z, z42z, z43z, z44z, z45z, z46z, z47z, z48z, z49z, z50z, z51z, z52z, z53z, z54z, z55z, z56z, z57z, z58z, z59z, z60z, z61z, z62z, z63z, z64z, z65z, z66z, z67z, z68z, z69z, z70z, z71z, z72z, z73z], params := #[25], assign := tkAssign 0, body := tkBody 0, defers := d })) := by show _ = _; rw [← hW2]; exact World.putObj_heap_same ll
 have HS : Hid (W2.heap.size = W.heap.size ∧ W2.os = W.os ∧ W2.tape = W.tape ∧ W2.output = W.output) := by rw [← hW2]; exact ⟨World.putObj_size .., rfl, rfl, rfl⟩
 rw [hW2];clear hW2 hl;replace h0 : W2.cell? ⟨B0, 0, none⟩ = some (.pointer (some ⟨fb, fo, none⟩)) := (World.cell?_of_block (HO.out B0 n0)).trans h0;replace h1 : W2.cell? ⟨B1, 0, none⟩ = some (.bool false) := (World.cell?_of_block (HO.out B1 n1)).trans h1;replace z1 : W2.frozen? ⟨B1, 0, none⟩ = false := (World.frozen?_of_block (HO.out B1 n1)).trans z1;replace k2 := (World.cell?_of_block (HO.out fb n2)).trans k2;have HX : Hid (∀ m, CallsIn (Fence.wide.inRound l) m prog 78 #[.pointer (some ⟨fb, fo, none⟩), .int .i64 y] W2 fun e w' => e = .returned (.bool (inB regs y)) ∧ w' = W2) := fun m => CallsIn.inRound l (callsIn_wide.2 (hasRegister_any fb fo regs y W2 k2 r0 r1));clear k2 r1 r0
 cases hq : inB regs y with
 | true =>
  rw [hq] at HX
  gi_wp2
  refine ⟨trivial, rfl, (HX.out _).mono ?_⟩;rintro e wr ⟨rfl, hwr⟩;subst hwr
  gi_wp2
  refine ⟨HL.out, HT.out hq _ (fun k hk => (put_other hk).trans (HO.out k hk)) (World.putObj_heap_same (by rw [HS.out.1]; exact ll)) (by rw [World.putObj_size, HS.out.1]) HS.out.2.1 HS.out.2.2.1 HS.out.2.2.2⟩
 | false =>
  rw [hq] at HX
  gi_wp2
  refine ⟨trivial, rfl, (HX.out _).mono ?_⟩;rintro e wr ⟨rfl, hwr⟩;subst hwr
  gi_wp2
  refine ⟨?_, HF.out hq _ (fun k hk hk1 => (put_other hk).trans ((gset_other hk1).trans (HO.out k hk))) ?_ (World.putObj_heap_same (by rw [gsize_set, HS.out.1]; exact ll)) (by rw [World.putObj_size, gsize_set, HS.out.1]) HS.out.2.1 HS.out.2.2.1 HS.out.2.2.2⟩
  ·rw [gset_other (Ne.symm n1)]; exact HL.out
  ·rw [World.cell?_of_block (put_other n1)]; go_simp

theorem tk_round1 (l B0 B1 fb fo d : Nat) (fn : FuncId) (n cap : Nat) (ca : Option Addr) (y : Int) (z0z z1z z3z z5z z6z z7z z8z z9z z10z z11z z12z z13z z14z z15z z16z z17z z18z z19z z20z z21z z22z z23z z24z z25z z26z z27z z28z z29z z30z z31z z32z z33z z34z z35z z36z z37z z38z z39z z40z z41z z42z z43z z44z z45z z46z z47z z48z z49z z50z z51z z52z z53z z54z z55z z56z z57z z58z z59z z60z z61z z62z z63z z64z z65z z66z z67z z68z z69z z70z z71z z72z z73z : Value) (W : World) (R : Ending → World → Prop)
  (hl : W.heap[l]? = some (.loop (loopRec fn #[z0z, z1z, .pointer (some ⟨B0, 0, none⟩), z3z, .pointer (some ⟨B1, 0, none⟩), z5z, z6z, z7z, z8z, z9z, z10z, z11z, z12z, z13z, z14z, z15z, z16z, z17z, z18z, z19z, z20z, z21z, z22z, z23z, z24z, z25z, z26z, z27z, z28z, z29z, z30z, z31z, z32z, z33z, z34z, z35z, z36z, z37z, z38z, z39z, z40z, z41z, z42z, z43z, z44z, z45z, z46z, z47z, z48z, z49z, z50z, z51z, z52z, z53z, z54z, z55z, z56z, z57z, z58z, z59z, z60z, z61z, z62z, z63z, z64z, z65z, z66z, z67z, z68z, z69z, z70z, z71z, z72z, z73z] #[34] (tkAssign 1) (tkBody 1) d))) (h0 : W.cell? ⟨B0, 0, none⟩ = some (.pointer (some ⟨fb, fo, none⟩))) (h1 : W.cell? ⟨B1, 0, none⟩ = some (.bool false)) (z1 : W.frozen? ⟨B1, 0, none⟩ = false) (k2 : W.cell? ⟨fb, fo + 5, none⟩ = some (.slice ca n cap)) (r1 : (n : Int) ≤ 9223372036854775807)
  (HT : Hid (inB (n : Int) y = true → ∀ W' : World, (∀ k, k ≠ l → W'.heap[k]? = W.heap[k]?) → W'.heap[l]? = some (.loop (loopRec fn #[z0z, z1z, .pointer (some ⟨B0, 0, none⟩), z3z, .pointer (some ⟨B1, 0, none⟩), z5z, z6z, z7z, z8z, z9z, z10z, z11z, z12z, z13z, z14z, z15z, z16z, z17z, z18z, z19z, z20z, z21z, z22z, z23z, z24z, z25z, z26z, z27z, z28z, z29z, z30z, z31z, z32z, z33z, z34z, z35z, z36z, z37z, z38z, z39z, z40z, z41z, z42z, z43z, z44z, z45z, z46z, z47z, z48z, z49z, z50z, z51z, z52z, z53z, z54z, z55z, z56z, z57z, z58z, z59z, z60z, z61z, z62z, z63z, z64z, z65z, z66z, z67z, z68z, z69z, z70z, z71z, z72z, z73z] #[34] (tkAssign 1) (tkBody 1) d)) → W'.heap.size = W.heap.size → W'.os = W.os → W'.tape = W.tape → W'.output = W.output → R (.returned (.bool true)) W'))
  (HF : Hid (inB (n : Int) y = false → ∀ W' : World, (∀ k, k ≠ l → k ≠ B1 → W'.heap[k]? = W.heap[k]?) → W'.cell? ⟨B1, 0, none⟩ = some (.bool false) → W'.heap[l]? = some (.loop { state := .done, pending := some .ret, fn := fn, tmps := #[z0z, z1z, .pointer (some ⟨B0, 0, none⟩), z3z, .pointer (some ⟨B1, 0, none⟩), z5z, z6z, z7z, z8z, z9z, z10z, z11z, z12z, z13z, z14z, z15z, z16z, z17z, z18z, z19z, z20z, z21z, z22z, z23z, z24z, z25z, z26z, z27z, z28z, z29z, z30z, z31z, z32z, z33z, z34z, z35z, z36z, z37z, z38z, z39z, z40z, z41z, z42z, z43z, z44z, z45z, z46z, z47z, z48z, z49z, z50z, z51z, z52z, z53z, z54z, z55z, z56z, z57z, z58z, z59z, z60z, z61z, z62z, z63z, z64z, z65z, z66z, z67z, z68z, z69z, z70z, z71z, z72z, z73z], params := #[34], assign := tkAssign 1, body := tkBody 1, defers := d }) → W'.heap.size = W.heap.size → W'.os = W.os → W'.tape = W.tape → W'.output = W.output → R (.returned (.bool false)) W')) :
  YieldAt Fence.wide 0 prog l #[.int .i64 y] W R := by
 have n0 := cell_not_loop hl h0;have n1 := cell_not_loop hl h1;have n2 := cell_not_loop hl k2;refine yield_round hl rfl rfl trivial ?_;simp only [loopRec]
 conv => arg 4; whnf
 gi_wp2
 refine ⟨(by first | exact hl | rfl), ?_⟩
 conv => arg 4; whnf
 have ll : l < W.heap.size := (zge hl).1;obtain ⟨W2, hW2⟩ : ∃ W2, W.putObj l (.loop { state := .busy, pending := none, fn := fn, tmps := #[z0z, z1z, .pointer (some ⟨B0, 0, none⟩), z3z, .pointer (some ⟨B1, 0, none⟩), z5z, z6z, z7z, z8z, z9z, z10z, z11z, z12z, z13z, z14z, z15z, z16z, z17z, z18z, z19z, z20z, z21z, z22z, z23z, z24z, z25z, z26z, z27z, z28z, z29z, z30z, z31z, z32z, z33z, z34z, z35z, z36z, z37z, z38z, z39z, z40z, z41z, z42z, z43z, z44z, z45z, z46z, z47z, z48z, z49z, z50z, z51z, z52z, z53z, z54z, z55z, z56z, z57z, z58z, z59z, z60z, z61z, z62z, z63z, z64z, z65z, z66z, z67z, z68z, z69z, z70z, z71z, z72z, z73z], params := #[34], assign := tkAssign 1, body := tkBody 1, defers := d }) = W2 := ⟨_, rfl⟩;have HO : Hid (∀ k, k ≠ l → W2.heap[k]? = W.heap[k]?) := fun k hk => by rw [← hW2]; exact put_other hk
 have HL : Hid (W2.heap[l]? = some (.loop { state := .busy, pending := none, fn := fn, tmps := #[z0z, z1z, .pointer (some ⟨B0, 0, none⟩), z3z, .pointer (some ⟨B1, 0, none⟩), z5z, z6z, z7z, z8z, z9z, z10z, z11z, z12z, z13z, z14z, z15z, z16z, z17z, z18z, z19z, z20z, z21z, z22z, z23z, z24z, z25z, z26z, z27z, z28z, z29z, z30z, z31z, z32z, z33z, z34z, z35z, z36z, z37z, z38z, z39z, z40z, z41z, z42z, z43z, z44z, z45z, z46z, z47z, z48z, z49z, z50z, z51z, z52z, z53z, z54z, z55z, z56z, z57z, z58z, z59z, z60z, z61z, z62z, z63z, z64z, z65z, z66z, z67z, z68z, z69z, z70z, z71z, z72z, z73z], params := #[34], assign := tkAssign 1, body := tkBody 1, defers := d })) := by show _ = _; rw [← hW2]; exact World.putObj_heap_same ll
 have HS : Hid (W2.heap.size = W.heap.size ∧ W2.os = W.os ∧ W2.tape = W.tape ∧ W2.output = W.output) := by rw [← hW2]; exact ⟨World.putObj_size .., rfl, rfl, rfl⟩
 rw [hW2];clear hW2 hl;replace h0 : W2.cell? ⟨B0, 0, none⟩ = some (.pointer (some ⟨fb, fo, none⟩)) := (World.cell?_of_block (HO.out B0 n0)).trans h0;replace h1 : W2.cell? ⟨B1, 0, none⟩ = some (.bool false) := (World.cell?_of_block (HO.out B1 n1)).trans h1;replace z1 : W2.frozen? ⟨B1, 0, none⟩ = false := (World.frozen?_of_block (HO.out B1 n1)).trans z1;replace k2 := (World.cell?_of_block (HO.out fb n2)).trans k2;have HX : Hid (∀ m, CallsIn (Fence.wide.inRound l) m prog 60 #[.pointer (some ⟨fb, fo, none⟩), .int .i64 y] W2 fun e w' => e = .returned (.bool (inB (n : Int) y)) ∧ w' = W2) := fun m => CallsIn.inRound l (callsIn_wide.2 (hasNode_any fb fo n cap ca y W2 k2 r1));clear k2 r1 
 cases hq : inB (n : Int) y with
 | true =>
  rw [hq] at HX
  gi_wp2
  refine ⟨trivial, rfl, (HX.out _).mono ?_⟩;rintro e wr ⟨rfl, hwr⟩;subst hwr
  gi_wp2
  refine ⟨HL.out, HT.out hq _ (fun k hk => (put_other hk).trans (HO.out k hk)) (World.putObj_heap_same (by rw [HS.out.1]; exact ll)) (by rw [World.putObj_size, HS.out.1]) HS.out.2.1 HS.out.2.2.1 HS.out.2.2.2⟩
 | false =>
  rw [hq] at HX
  gi_wp2
  refine ⟨trivial, rfl, (HX.out _).mono ?_⟩;rintro e wr ⟨rfl, hwr⟩;subst hwr
  gi_wp2
  refine ⟨?_, HF.out hq _ (fun k hk hk1 => (put_other hk).trans ((gset_other hk1).trans (HO.out k hk))) ?_ (World.putObj_heap_same (by rw [gsize_set, HS.out.1]; exact ll)) (by rw [World.putObj_size, gsize_set, HS.out.1]) HS.out.2.1 HS.out.2.2.1 HS.out.2.2.2⟩
  ·rw [gset_other (Ne.symm n1)]; exact HL.out
  ·rw [World.cell?_of_block (put_other n1)]; go_simp

end Go.Proofs.YtfeglcpipcjaeaaGreatDoor
namespace Go.Proofs.YtfeglcpipcjaeaaGreatDoor
open Go.ChangeShapes Go.WideShapes Go.ChangeAt Go.RowKit Go.Proofs.Tryz
set_option linter.unusedSimpArgs false
set_option linter.unusedVariables false
set_option maxRecDepth 100000
set_option maxHeartbeats 8000000

theorem gchain2 (w : World) (r : Loop) : (loopW w r).heap.size = w.heap.size + 2 ∧ (∀ k, k < w.heap.size → (loopW w r).heap[k]? = w.heap[k]?) ∧ (loopW w r).heap[w.heap.size]? = some (.deferred (some [])) ∧ (loopW w r).heap[w.heap.size + 1]? = some (.loop r) := by
 refine ⟨by simp [loopW], fun k hk => ?_, ?_, ?_⟩
 ·rw [loopW, Below.heap_alloc _ _ k (by simp; omega), Below.heap_alloc _ _ k hk]
 ·rw [loopW, Below.heap_alloc _ _ _ (by simp)]
  exact World.alloc_heap_new w _
 ·have := World.alloc_heap_new (w.alloc (.deferred (some []))) (.loop r)
  rw [World.size_alloc] at this;exact this
theorem gwp_named {P : Program} {c : Code} {Q : Exit → Act → World → Prop} {a : Act} {w0 : World} (Fct : World → Prop) (h : Fct w0) (k : ∀ W, Fct W → Code.wp P c Q a W) : Code.wp P c Q a w0 := k w0 h
theorem gq_named {Q : Exit → Act → World → Prop} {a : Act} {w0 : World} (Fct : World → Prop) (h : Fct w0) (k : ∀ W, Fct W → Q .normal a W) : Q .normal a w0 := k w0 h
theorem bel_put {H l : Nat} {W : World} {o : Obj} (h : H ≤ l) : Below H W (W.putObj l o) :=
 { os := rfl, tape := rfl, output := rfl, size := by rw [World.putObj_size]; exact Nat.le_refl _, block := fun k hk => World.putObj_heap_other (by omega) }
structure TJ (W0 : World) (r : Loop) (W : World) : Prop where
 bel : Below W0.heap.size W0 W
 dfr : W.heap[W0.heap.size]? = some (.deferred (some []))
 lp : W.heap[W0.heap.size + 1]? = some (.loop r)
theorem TJ.enter (W0 : World) (r : Loop) : TJ W0 r (loopW W0 r) := by
 obtain ⟨h1, h2, h3, h4⟩ := gchain2 W0 r;exact ⟨⟨rfl, rfl, rfl, by omega, h2⟩, h3, h4⟩
structure TK (w : World) (fb fo B2 : Nat) (x : Sp) (W : World) : Prop where
 bel : Below w.heap.size w W
 b0 : W.cell? ⟨w.heap.size, 0, none⟩ = some (.pointer (some ⟨fb, fo, none⟩))
 b1 : W.cell? ⟨w.heap.size + 1, 0, none⟩ = some (.bool false)
 z1 : W.frozen? ⟨w.heap.size + 1, 0, none⟩ = false
 s1 : W.cell? ⟨B2, 1, none⟩ = some (.int .i64 x.sub)
 s4 : W.cell? ⟨B2, 4, none⟩ = some (.int .i64 x.d)
 n2 : w.heap.size + 2 ≤ B2
theorem TK.keep {w W W' : World} {fb fo B2 : Nat} {x : Sp} (h : TK w fb fo B2 x W) (hb : Below W.heap.size W W') : TK w fb fo B2 x W' :=
 ⟨h.bel.trans (hb.mono h.bel.size), keep_cell hb h.b0, keep_cell hb h.b1, keep_frozen hb h.b1 h.z1, keep_cell hb h.s1, keep_cell hb h.s4, h.n2⟩
noncomputable def tkR12 : Code := ((Tryz.f62.body.bind (regionN 12)).getD .skip)

theorem tk_r12a (ib io fb fo B0 B1 B2 : Nat) (xd xs op sub d k regs frame : Int) (z0z z3z z6z z7z z8z z9z z10z z11z z12z z13z z14z z15z z16z z17z z18z z19z z20z z21z z22z z23z z24z z25z z26z z27z z28z z29z z30z z31z z32z z33z z34z z35z z36z z37z z38z z39z z40z z41z z42z z43z z44z z45z z46z z47z z48z z49z z50z z51z z52z z53z z54z z55z z56z z57z z58z z59z z60z z61z z62z z63z z64z z65z z66z z67z z68z z69z z70z z71z z72z z73z : Value) (DF : List Deferred) (K : Act → World → Prop) (Q0 : Exit → Act → World → Prop) (w1 : World)
  (hQ0 : ∀ c (a : Act) (dd : Option Tmp) v x, Q0 (.panic c) (a.put dd v) x → Q0 (.panic c) a x)
  (a0 : w1.cell? ⟨B0, 0, none⟩ = some (.pointer (some ⟨fb, fo, none⟩))) (a1 : w1.cell? ⟨B2, 4, none⟩ = some (.int .i64 xd)) (a2 : w1.cell? ⟨B2, 1, none⟩ = some (.int .i64 xs)) (a3 : w1.cell? ⟨ib, io, none⟩ = some (.int .i64 op)) (a4 : w1.cell? ⟨ib, io + 1, none⟩ = some (.int .i64 sub)) (a5 : w1.cell? ⟨ib, io + 4, none⟩ = some (.int .i64 d)) (a6 : w1.cell? ⟨ib, io + 5, none⟩ = some (.int .i64 k)) (a7 : w1.cell? ⟨fb, fo + 3, none⟩ = some (.int .i64 frame)) (a8 : w1.cell? ⟨fb, fo + 2, none⟩ = some (.int .i64 regs)) (b1 : w1.cell? ⟨B1, 0, none⟩ = some (.bool false)) (z1 : w1.frozen? ⟨B1, 0, none⟩ = false)
  (m0 : B0 ≠ B1) (m2 : B2 ≠ B1) (mi : ib ≠ B1) (mf : fb ≠ B1) (r0 : -9223372036854775808 < regs) (r1 : regs ≤ 9223372036854775807) (ht : targetB xd d regs = false)
  (HK : Hid (∀ y39 y40 y41 y42 y43 y44 y45 y46 y47 y48 y49 y50 y51 y52 y53 y54 y55 y56 y57 y58 y59 y60 y61 y62 y63 y64 y65 y66 y67 y68 y69 y70 y71 y72 y73, K ⟨#[z0z, .pointer (some ⟨ib, io, none⟩), .pointer (some ⟨B0, 0, none⟩), z3z, .pointer (some ⟨B1, 0, none⟩), .pointer (some ⟨B2, 0, none⟩), z6z, z7z, z8z, z9z, z10z, z11z, z12z, z13z, z14z, z15z, z16z, z17z, z18z, z19z, z20z, z21z, z22z, z23z, z24z, z25z, z26z, z27z, z28z, z29z, z30z, z31z, z32z, z33z, z34z, z35z, z36z, z37z, z38z, y39, y40, y41, y42, y43, y44, y45, y46, y47, y48, y49, y50, y51, y52, y53, y54, y55, y56, y57, y58, y59, y60, y61, y62, y63, y64, y65, y66, y67, y68, y69, y70, y71, y72, y73], DF⟩ (w1.setCell ⟨B1, 0, none⟩ (.bool false)).drew)) :
  Code.wp prog tkR12 (Exit.then K Q0) ⟨#[z0z, .pointer (some ⟨ib, io, none⟩), .pointer (some ⟨B0, 0, none⟩), z3z, .pointer (some ⟨B1, 0, none⟩), .pointer (some ⟨B2, 0, none⟩), z6z, z7z, z8z, z9z, z10z, z11z, z12z, z13z, z14z, z15z, z16z, z17z, z18z, z19z, z20z, z21z, z22z, z23z, z24z, z25z, z26z, z27z, z28z, z29z, z30z, z31z, z32z, z33z, z34z, z35z, z36z, z37z, z38z, z39z, z40z, z41z, z42z, z43z, z44z, z45z, z46z, z47z, z48z, z49z, z50z, z51z, z52z, z53z, z54z, z55z, z56z, z57z, z58z, z59z, z60z, z61z, z62z, z63z, z64z, z65z, z66z, z67z, z68z, z69z, z70z, z71z, z72z, z73z], DF⟩ w1 := by
 conv => arg 2; whnf
 have HT1 : Hid (∀ W : World, W.cell? ⟨fb, fo + 2, none⟩ = some (.int .i64 regs) → Calls prog 81 #[.pointer (some ⟨fb, fo, none⟩), .int .i64 xd, .int .i64 d] W fun e w' => e = .returned (.bool (targetB xd d regs)) ∧ w' = W) := fun W h => hasTarget_any fb fo regs xd d W h r0 r1;have HM1 : Hid (∀ W, Calls prog 82 #[.int .i64 xs, .int .i64 sub] W fun e w' => e = .returned (.bool (mayB xs sub)) ∧ w' = W) := fun W => mayBe_any _ _ _;have HW1 : Hid (∀ W, Calls prog 83 #[.int .i64 k, .int .i64 frame] W fun e w' => e = .returned (.bool (withinB k frame)) ∧ w' = W) := fun W => within64_any _ _ _;rw [ht] at HT1;refine wp_region_held_drew (S := (fun w' => w'.cell? ⟨B0, 0, none⟩ = some (.pointer (some ⟨fb, fo, none⟩)) ∧ w'.cell? ⟨B2, 4, none⟩ = some (.int .i64 xd) ∧ w'.cell? ⟨B2, 1, none⟩ = some (.int .i64 xs) ∧ w'.cell? ⟨ib, io, none⟩ = some (.int .i64 op) ∧ w'.cell? ⟨ib, io + 1, none⟩ = some (.int .i64 sub) ∧ w'.cell? ⟨ib, io + 4, none⟩ = some (.int .i64 d) ∧ w'.cell? ⟨ib, io + 5, none⟩ = some (.int .i64 k) ∧ w'.cell? ⟨fb, fo + 3, none⟩ = some (.int .i64 frame) ∧ w'.cell? ⟨fb, fo + 2, none⟩ = some (.int .i64 regs))) (by kernel_rfl) (⟨a0, a1, a2, a3, a4, a5, a6, a7, a8⟩) (fun hHeld => ?_);refine wpAnyH_take (i := 0) (oi := ?oia0) (v := ?vva0) ?hia0 (by kernel_rfl) (by kernel_rfl) (by kernel_rfl) ?hqa0 ?hya0 hHeld ?_
 case hia0 => simp only [zga, zgs, zgz]; rfl
 case hqa0 => exact fun _ _ _ h => hQ0 _ _ _ _ _ h
 case hya0 => refine .inl ⟨by rfl, ?_⟩; intro w' hSw; (try dsimp only at hSw); go_simp; try with_reducible rfl
 simp only [Act.put, zsa, zsz, zss];refine wpAnyH_take (i := 1) (oi := ?oia1) (v := ?vva1) ?hia1 (by kernel_rfl) (by kernel_rfl) (by kernel_rfl) ?hqa1 ?hya1 hHeld ?_
 case hia1 => simp only [zga, zgs, zgz]; rfl
 case hqa1 => exact fun _ _ _ h => hQ0 _ _ _ _ _ h
 case hya1 => refine .inl ⟨by rfl, ?_⟩; intro w' hSw; (try dsimp only at hSw); go_simp; try with_reducible rfl
 simp only [Act.put, zsa, zsz, zss];refine wpAnyH_take (i := 2) (oi := ?oia2) (v := ?vva2) ?hia2 (by kernel_rfl) (by kernel_rfl) (by kernel_rfl) ?hqa2 ?hya2 hHeld ?_
 case hia2 => simp only [zga, zgs, zgz]; rfl
 case hqa2 => exact fun _ _ _ h => hQ0 _ _ _ _ _ h
 case hya2 => refine .inl ⟨by rfl, ?_⟩; intro w' hSw; (try dsimp only at hSw); go_simp; try with_reducible rfl
 simp only [Act.put, zsa, zsz, zss];refine wpAnyH_take (i := 3) (oi := ?oia3) (v := ?vva3) ?hia3 (by kernel_rfl) (by kernel_rfl) (by kernel_rfl) ?hqa3 ?hya3 hHeld ?_
 case hia3 => simp only [zga, zgs, zgz]; rfl
 case hqa3 => exact fun _ _ _ h => hQ0 _ _ _ _ _ h
 case hya3 => refine .inl ⟨by rfl, ?_⟩; intro w' hSw; (try dsimp only at hSw); go_simp; try with_reducible rfl
 simp only [Act.put, zsa, zsz, zss];refine wpAnyH_take (i := 4) (oi := ?oia4) (v := ?vva4) ?hia4 (by kernel_rfl) (by kernel_rfl) (by kernel_rfl) ?hqa4 ?hya4 hHeld ?_
 case hia4 => simp only [zga, zgs, zgz]; rfl
 case hqa4 => exact fun _ _ _ h => hQ0 _ _ _ _ _ h
 case hya4 => refine .inl ⟨by rfl, ?_⟩; intro w' hSw; (try dsimp only at hSw); go_simp; try with_reducible rfl
 simp only [Act.put, zsa, zsz, zss];refine wpAnyH_take (i := 5) (oi := ?oia5) (v := ?vva5) ?hia5 (by kernel_rfl) (by kernel_rfl) (by kernel_rfl) ?hqa5 ?hya5 hHeld ?_
 case hia5 => simp only [zga, zgs, zgz]; rfl
 case hqa5 => exact fun _ _ _ h => hQ0 _ _ _ _ _ h
 case hya5 => refine .inl ⟨by rfl, ?_⟩; intro w' hSw; (try dsimp only at hSw); go_simp; try with_reducible rfl
 simp only [Act.put, zsa, zsz, zss];refine wpAnyH_take (i := 6) (oi := ?oia6) (v := ?vva6) ?hia6 (by kernel_rfl) (by kernel_rfl) (by kernel_rfl) ?hqa6 ?hya6 hHeld ?_
 case hia6 => simp only [zga, zgs, zgz]; rfl
 case hqa6 => exact fun _ _ _ h => hQ0 _ _ _ _ _ h
 case hya6 => refine .inl ⟨by rfl, ?_⟩; intro w' hSw; (try dsimp only at hSw); go_simp; try with_reducible rfl
 simp only [Act.put, zsa, zsz, zss];refine wpAnyH_ready (rs := [7]) (by kernel_rfl) (by simp) ?_;refine AllReadyH.cons (o := ?oia7) ?hia7 (fun K hK => ?_) AllReadyH.nil
 case hia7 => simp only [zga, zgs, zgz]; rfl
 go_simp;refine (HT1.out _ hHeld.2.2.2.2.2.2.2.2).mono ?_;rintro e v7 ⟨rfl, rfl⟩;go_wp2_with fail
 refine hK.out _ _ (hHeld) (fun hN => ?_);clear hK K hHeld;have hHeld := hN;clear hN
 try simp only [Act.put, zsa, zsz, zss]
 refine wpAnyH_take (i := 8) (oi := ?oia8) (v := ?vva8) ?hia8 (by kernel_rfl) (by kernel_rfl) (by kernel_rfl) ?hqa8 ?hya8 hHeld ?_
 case hia8 => simp only [zga, zgs, zgz]; rfl
 case hqa8 => exact fun _ _ _ h => hQ0 _ _ _ _ _ h
 case hya8 => refine .inl ⟨by rfl, ?_⟩; intro w' hSw; (try dsimp only at hSw); go_simp; try with_reducible rfl
 simp only [Act.put, zsa, zsz, zss];refine wpAnyH_take (i := 9) (oi := ?oia9) (v := undef) ?hia9 (by kernel_rfl) (by kernel_rfl) (by kernel_rfl) ?hqa9 ?hya9 hHeld ?_
 case hia9 => simp only [zga, zgs, zgz]; rfl
 case hqa9 => exact fun _ _ _ h => hQ0 _ _ _ _ _ h
 case hya9 => exact Or.inr ⟨by rfl, rfl⟩
 simp only [Act.put, zsa, zsz, zss];refine wpAnyH_take (i := 10) (oi := ?oia10) (v := undef) ?hia10 (by kernel_rfl) (by kernel_rfl) (by kernel_rfl) ?hqa10 ?hya10 hHeld ?_
 case hia10 => simp only [zga, zgs, zgz]; rfl
 case hqa10 => exact fun _ _ _ h => hQ0 _ _ _ _ _ h
 case hya10 => exact Or.inr ⟨by rfl, rfl⟩
 simp only [Act.put, zsa, zsz, zss];refine wpAnyH_take (i := 11) (oi := ?oia11) (v := undef) ?hia11 (by kernel_rfl) (by kernel_rfl) (by kernel_rfl) ?hqa11 ?hya11 hHeld ?_
 case hia11 => simp only [zga, zgs, zgz]; rfl
 case hqa11 => exact fun _ _ _ h => hQ0 _ _ _ _ _ h
 case hya11 => exact Or.inr ⟨by rfl, rfl⟩
 simp only [Act.put, zsa, zsz, zss];refine wpAnyH_take (i := 12) (oi := ?oia12) (v := undef) ?hia12 (by kernel_rfl) (by kernel_rfl) (by kernel_rfl) ?hqa12 ?hya12 hHeld ?_
 case hia12 => simp only [zga, zgs, zgz]; rfl
 case hqa12 => exact fun _ _ _ h => hQ0 _ _ _ _ _ h
 case hya12 => exact Or.inr ⟨by rfl, rfl⟩
 simp only [Act.put, zsa, zsz, zss];refine wpAnyH_take (i := 13) (oi := ?oia13) (v := undef) ?hia13 (by kernel_rfl) (by kernel_rfl) (by kernel_rfl) ?hqa13 ?hya13 hHeld ?_
 case hia13 => simp only [zga, zgs, zgz]; rfl
 case hqa13 => exact fun _ _ _ h => hQ0 _ _ _ _ _ h
 case hya13 => exact Or.inr ⟨by rfl, rfl⟩
 simp only [Act.put, zsa, zsz, zss];refine wpAnyH_take (i := 14) (oi := ?oia14) (v := undef) ?hia14 (by kernel_rfl) (by kernel_rfl) (by kernel_rfl) ?hqa14 ?hya14 hHeld ?_
 case hia14 => simp only [zga, zgs, zgz]; rfl
 case hqa14 => exact fun _ _ _ h => hQ0 _ _ _ _ _ h
 case hya14 => exact Or.inr ⟨by rfl, rfl⟩
 simp only [Act.put, zsa, zsz, zss];refine wpAnyH_ready (rs := [15]) (by kernel_rfl) (by simp) ?_;refine AllReadyH.cons (o := ?oia15) ?hia15 (fun K hK => ?_) AllReadyH.nil
 case hia15 => simp only [zga, zgs, zgz]; rfl
 go_simp;refine hK.out _ _ hHeld (fun hN => ?_);clear hK K hHeld;have hHeld := hN;clear hN
 try simp only [Act.put, zsa, zsz, zss]
 refine wpAnyH_take (i := 16) (oi := ?oia16) (v := ?vva16) ?hia16 (by kernel_rfl) (by kernel_rfl) (by kernel_rfl) ?hqa16 ?hya16 hHeld ?_
 case hia16 => simp only [zga, zgs, zgz]; rfl
 case hqa16 => exact fun _ _ _ h => hQ0 _ _ _ _ _ h
 case hya16 => refine .inl ⟨by rfl, ?_⟩; intro w' hSw; (try dsimp only at hSw); go_simp; try with_reducible rfl
 simp only [Act.put, zsa, zsz, zss];refine wpAnyH_take (i := 17) (oi := ?oia17) (v := ?vva17) ?hia17 (by kernel_rfl) (by kernel_rfl) (by kernel_rfl) ?hqa17 ?hya17 hHeld ?_
 case hia17 => simp only [zga, zgs, zgz]; rfl
 case hqa17 => exact fun _ _ _ h => hQ0 _ _ _ _ _ h
 case hya17 => refine .inl ⟨by rfl, ?_⟩; intro w' hSw; (try dsimp only at hSw); go_simp; try with_reducible rfl
 simp only [Act.put, zsa, zsz, zss];refine wpAnyH_take (i := 18) (oi := ?oia18) (v := undef) ?hia18 (by kernel_rfl) (by kernel_rfl) (by kernel_rfl) ?hqa18 ?hya18 hHeld ?_
 case hia18 => simp only [zga, zgs, zgz]; rfl
 case hqa18 => exact fun _ _ _ h => hQ0 _ _ _ _ _ h
 case hya18 => exact Or.inr ⟨by rfl, rfl⟩
 simp only [Act.put, zsa, zsz, zss];refine wpAnyH_take (i := 19) (oi := ?oia19) (v := undef) ?hia19 (by kernel_rfl) (by kernel_rfl) (by kernel_rfl) ?hqa19 ?hya19 hHeld ?_
 case hia19 => simp only [zga, zgs, zgz]; rfl
 case hqa19 => exact fun _ _ _ h => hQ0 _ _ _ _ _ h
 case hya19 => exact Or.inr ⟨by rfl, rfl⟩
 simp only [Act.put, zsa, zsz, zss];refine wpAnyH_take (i := 20) (oi := ?oia20) (v := undef) ?hia20 (by kernel_rfl) (by kernel_rfl) (by kernel_rfl) ?hqa20 ?hya20 hHeld ?_
 case hia20 => simp only [zga, zgs, zgz]; rfl
 case hqa20 => exact fun _ _ _ h => hQ0 _ _ _ _ _ h
 case hya20 => exact Or.inr ⟨by rfl, rfl⟩
 simp only [Act.put, zsa, zsz, zss];refine wpAnyH_take (i := 21) (oi := ?oia21) (v := undef) ?hia21 (by kernel_rfl) (by kernel_rfl) (by kernel_rfl) ?hqa21 ?hya21 hHeld ?_
 case hia21 => simp only [zga, zgs, zgz]; rfl
 case hqa21 => exact fun _ _ _ h => hQ0 _ _ _ _ _ h
 case hya21 => exact Or.inr ⟨by rfl, rfl⟩
 simp only [Act.put, zsa, zsz, zss];refine wpAnyH_take (i := 22) (oi := ?oia22) (v := undef) ?hia22 (by kernel_rfl) (by kernel_rfl) (by kernel_rfl) ?hqa22 ?hya22 hHeld ?_
 case hia22 => simp only [zga, zgs, zgz]; rfl
 case hqa22 => exact fun _ _ _ h => hQ0 _ _ _ _ _ h
 case hya22 => exact Or.inr ⟨by rfl, rfl⟩
 simp only [Act.put, zsa, zsz, zss];refine wpAnyH_take (i := 23) (oi := ?oia23) (v := undef) ?hia23 (by kernel_rfl) (by kernel_rfl) (by kernel_rfl) ?hqa23 ?hya23 hHeld ?_
 case hia23 => simp only [zga, zgs, zgz]; rfl
 case hqa23 => exact fun _ _ _ h => hQ0 _ _ _ _ _ h
 case hya23 => exact Or.inr ⟨by rfl, rfl⟩
 simp only [Act.put, zsa, zsz, zss];refine wpAnyH_take (i := 24) (oi := ?oia24) (v := undef) ?hia24 (by kernel_rfl) (by kernel_rfl) (by kernel_rfl) ?hqa24 ?hya24 hHeld ?_
 case hia24 => simp only [zga, zgs, zgz]; rfl
 case hqa24 => exact fun _ _ _ h => hQ0 _ _ _ _ _ h
 case hya24 => exact Or.inr ⟨by rfl, rfl⟩
 simp only [Act.put, zsa, zsz, zss];refine wpAnyH_take (i := 25) (oi := ?oia25) (v := undef) ?hia25 (by kernel_rfl) (by kernel_rfl) (by kernel_rfl) ?hqa25 ?hya25 hHeld ?_
 case hia25 => simp only [zga, zgs, zgz]; rfl
 case hqa25 => exact fun _ _ _ h => hQ0 _ _ _ _ _ h
 case hya25 => exact Or.inr ⟨by rfl, rfl⟩
 simp only [Act.put, zsa, zsz, zss];refine wpAnyH_take (i := 26) (oi := ?oia26) (v := undef) ?hia26 (by kernel_rfl) (by kernel_rfl) (by kernel_rfl) ?hqa26 ?hya26 hHeld ?_
 case hia26 => simp only [zga, zgs, zgz]; rfl
 case hqa26 => exact fun _ _ _ h => hQ0 _ _ _ _ _ h
 case hya26 => exact Or.inr ⟨by rfl, rfl⟩
 simp only [Act.put, zsa, zsz, zss];refine wpAnyH_take (i := 27) (oi := ?oia27) (v := undef) ?hia27 (by kernel_rfl) (by kernel_rfl) (by kernel_rfl) ?hqa27 ?hya27 hHeld ?_
 case hia27 => simp only [zga, zgs, zgz]; rfl
 case hqa27 => exact fun _ _ _ h => hQ0 _ _ _ _ _ h
 case hya27 => exact Or.inr ⟨by rfl, rfl⟩
 simp only [Act.put, zsa, zsz, zss];refine wpAnyH_take (i := 28) (oi := ?oia28) (v := undef) ?hia28 (by kernel_rfl) (by kernel_rfl) (by kernel_rfl) ?hqa28 ?hya28 hHeld ?_
 case hia28 => simp only [zga, zgs, zgz]; rfl
 case hqa28 => exact fun _ _ _ h => hQ0 _ _ _ _ _ h
 case hya28 => exact Or.inr ⟨by rfl, rfl⟩
 simp only [Act.put, zsa, zsz, zss];refine wpAnyH_take (i := 29) (oi := ?oia29) (v := undef) ?hia29 (by kernel_rfl) (by kernel_rfl) (by kernel_rfl) ?hqa29 ?hya29 hHeld ?_
 case hia29 => simp only [zga, zgs, zgz]; rfl
 case hqa29 => exact fun _ _ _ h => hQ0 _ _ _ _ _ h
 case hya29 => exact Or.inr ⟨by rfl, rfl⟩
 simp only [Act.put, zsa, zsz, zss];refine wpAnyH_take (i := 30) (oi := ?oia30) (v := undef) ?hia30 (by kernel_rfl) (by kernel_rfl) (by kernel_rfl) ?hqa30 ?hya30 hHeld ?_
 case hia30 => simp only [zga, zgs, zgz]; rfl
 case hqa30 => exact fun _ _ _ h => hQ0 _ _ _ _ _ h
 case hya30 => exact Or.inr ⟨by rfl, rfl⟩
 simp only [Act.put, zsa, zsz, zss];refine wpAnyH_take (i := 31) (oi := ?oia31) (v := undef) ?hia31 (by kernel_rfl) (by kernel_rfl) (by kernel_rfl) ?hqa31 ?hya31 hHeld ?_
 case hia31 => simp only [zga, zgs, zgz]; rfl
 case hqa31 => exact fun _ _ _ h => hQ0 _ _ _ _ _ h
 case hya31 => exact Or.inr ⟨by rfl, rfl⟩
 simp only [Act.put, zsa, zsz, zss];refine wpAnyH_ready (rs := [32]) (by kernel_rfl) (by simp) ?_;refine AllReadyH.cons (o := ?oia32) ?hia32 (fun K hK => ?_) AllReadyH.nil
 case hia32 => simp only [zga, zgs, zgz]; rfl
 go_simp;refine hK.out _ _ hHeld (fun hN => ?_);clear hK K hHeld;have hHeld := hN;clear hN
 try simp only [Act.put, zsa, zsz, zss]
 refine wpAnyH_take (i := 33) (oi := ?oia33) (v := undef) ?hia33 (by kernel_rfl) (by kernel_rfl) (by kernel_rfl) ?hqa33 ?hya33 hHeld ?_
 case hia33 => simp only [zga, zgs, zgz]; rfl
 case hqa33 => exact fun _ _ _ h => hQ0 _ _ _ _ _ h
 case hya33 => exact Or.inr ⟨by rfl, rfl⟩
 simp only [Act.put, zsa, zsz, zss];refine wpAnyH_take (i := 34) (oi := ?oia34) (v := ?vva34) ?hia34 (by kernel_rfl) (by kernel_rfl) (by kernel_rfl) ?hqa34 ?hya34 hHeld ?_
 case hia34 => simp only [zga, zgs, zgz]; rfl
 case hqa34 => exact fun _ _ _ h => hQ0 _ _ _ _ _ h
 case hya34 => refine .inl ⟨by rfl, ?_⟩; intro w' hSw; (try dsimp only at hSw); go_simp; try with_reducible rfl
 simp only [Act.put, zsa, zsz, zss];refine wpAnyH_ready (rs := [35]) (by kernel_rfl) (by simp) ?_;refine AllReadyH.cons (o := ?oia35) ?hia35 (fun K hK => ?_) AllReadyH.nil
 case hia35 => simp only [zga, zgs, zgz]; rfl
 go_simp;refine hK.out _ _ (⟨keep_set hHeld.1 (by simp; omega), keep_set hHeld.2.1 (by simp; omega), keep_set hHeld.2.2.1 (by simp; omega), keep_set hHeld.2.2.2.1 (by simp; omega), keep_set hHeld.2.2.2.2.1 (by simp; omega), keep_set hHeld.2.2.2.2.2.1 (by simp; omega), keep_set hHeld.2.2.2.2.2.2.1 (by simp; omega), keep_set hHeld.2.2.2.2.2.2.2.1 (by simp; omega), keep_set hHeld.2.2.2.2.2.2.2.2 (by simp; omega)⟩) (fun hN => ?_);clear hK K hHeld;have hHeld := hN;clear hN
 try simp only [Act.put, zsa, zsz, zss]
 refine wpAnyH_done (by kernel_rfl) ?_ _;exact HK.out _ _ _ _ _ _ _ _ _ _ _ _ _ _ _ _ _ _ _ _ _ _ _ _ _ _ _ _ _ _ _ _ _ _ _ 

theorem tk_r12b (ib io fb fo B0 B1 B2 : Nat) (xd xs op sub d k regs frame : Int) (z0z z3z z6z z7z z8z z9z z10z z11z z12z z13z z14z z15z z16z z17z z18z z19z z20z z21z z22z z23z z24z z25z z26z z27z z28z z29z z30z z31z z32z z33z z34z z35z z36z z37z z38z z39z z40z z41z z42z z43z z44z z45z z46z z47z z48z z49z z50z z51z z52z z53z z54z z55z z56z z57z z58z z59z z60z z61z z62z z63z z64z z65z z66z z67z z68z z69z z70z z71z z72z z73z : Value) (DF : List Deferred) (K : Act → World → Prop) (Q0 : Exit → Act → World → Prop) (w1 : World)
  (hQ0 : ∀ c (a : Act) (dd : Option Tmp) v x, Q0 (.panic c) (a.put dd v) x → Q0 (.panic c) a x)
  (a0 : w1.cell? ⟨B0, 0, none⟩ = some (.pointer (some ⟨fb, fo, none⟩))) (a1 : w1.cell? ⟨B2, 4, none⟩ = some (.int .i64 xd)) (a2 : w1.cell? ⟨B2, 1, none⟩ = some (.int .i64 xs)) (a3 : w1.cell? ⟨ib, io, none⟩ = some (.int .i64 op)) (a4 : w1.cell? ⟨ib, io + 1, none⟩ = some (.int .i64 sub)) (a5 : w1.cell? ⟨ib, io + 4, none⟩ = some (.int .i64 d)) (a6 : w1.cell? ⟨ib, io + 5, none⟩ = some (.int .i64 k)) (a7 : w1.cell? ⟨fb, fo + 3, none⟩ = some (.int .i64 frame)) (a8 : w1.cell? ⟨fb, fo + 2, none⟩ = some (.int .i64 regs)) (b1 : w1.cell? ⟨B1, 0, none⟩ = some (.bool false)) (z1 : w1.frozen? ⟨B1, 0, none⟩ = false)
  (m0 : B0 ≠ B1) (m2 : B2 ≠ B1) (mi : ib ≠ B1) (mf : fb ≠ B1) (r0 : -9223372036854775808 < regs) (r1 : regs ≤ 9223372036854775807) (ht : targetB xd d regs = true) (hm : mayB xs sub = false)
  (HK : Hid (∀ y39 y40 y41 y42 y43 y44 y45 y46 y47 y48 y49 y50 y51 y52 y53 y54 y55 y56 y57 y58 y59 y60 y61 y62 y63 y64 y65 y66 y67 y68 y69 y70 y71 y72 y73, K ⟨#[z0z, .pointer (some ⟨ib, io, none⟩), .pointer (some ⟨B0, 0, none⟩), z3z, .pointer (some ⟨B1, 0, none⟩), .pointer (some ⟨B2, 0, none⟩), z6z, z7z, z8z, z9z, z10z, z11z, z12z, z13z, z14z, z15z, z16z, z17z, z18z, z19z, z20z, z21z, z22z, z23z, z24z, z25z, z26z, z27z, z28z, z29z, z30z, z31z, z32z, z33z, z34z, z35z, z36z, z37z, z38z, y39, y40, y41, y42, y43, y44, y45, y46, y47, y48, y49, y50, y51, y52, y53, y54, y55, y56, y57, y58, y59, y60, y61, y62, y63, y64, y65, y66, y67, y68, y69, y70, y71, y72, y73], DF⟩ (w1.setCell ⟨B1, 0, none⟩ (.bool false)).drew)) :
  Code.wp prog tkR12 (Exit.then K Q0) ⟨#[z0z, .pointer (some ⟨ib, io, none⟩), .pointer (some ⟨B0, 0, none⟩), z3z, .pointer (some ⟨B1, 0, none⟩), .pointer (some ⟨B2, 0, none⟩), z6z, z7z, z8z, z9z, z10z, z11z, z12z, z13z, z14z, z15z, z16z, z17z, z18z, z19z, z20z, z21z, z22z, z23z, z24z, z25z, z26z, z27z, z28z, z29z, z30z, z31z, z32z, z33z, z34z, z35z, z36z, z37z, z38z, z39z, z40z, z41z, z42z, z43z, z44z, z45z, z46z, z47z, z48z, z49z, z50z, z51z, z52z, z53z, z54z, z55z, z56z, z57z, z58z, z59z, z60z, z61z, z62z, z63z, z64z, z65z, z66z, z67z, z68z, z69z, z70z, z71z, z72z, z73z], DF⟩ w1 := by
 conv => arg 2; whnf
 have HT1 : Hid (∀ W : World, W.cell? ⟨fb, fo + 2, none⟩ = some (.int .i64 regs) → Calls prog 81 #[.pointer (some ⟨fb, fo, none⟩), .int .i64 xd, .int .i64 d] W fun e w' => e = .returned (.bool (targetB xd d regs)) ∧ w' = W) := fun W h => hasTarget_any fb fo regs xd d W h r0 r1;have HM1 : Hid (∀ W, Calls prog 82 #[.int .i64 xs, .int .i64 sub] W fun e w' => e = .returned (.bool (mayB xs sub)) ∧ w' = W) := fun W => mayBe_any _ _ _;have HW1 : Hid (∀ W, Calls prog 83 #[.int .i64 k, .int .i64 frame] W fun e w' => e = .returned (.bool (withinB k frame)) ∧ w' = W) := fun W => within64_any _ _ _;rw [ht] at HT1;rw [hm] at HM1;refine wp_region_held_drew (S := (fun w' => w'.cell? ⟨B0, 0, none⟩ = some (.pointer (some ⟨fb, fo, none⟩)) ∧ w'.cell? ⟨B2, 4, none⟩ = some (.int .i64 xd) ∧ w'.cell? ⟨B2, 1, none⟩ = some (.int .i64 xs) ∧ w'.cell? ⟨ib, io, none⟩ = some (.int .i64 op) ∧ w'.cell? ⟨ib, io + 1, none⟩ = some (.int .i64 sub) ∧ w'.cell? ⟨ib, io + 4, none⟩ = some (.int .i64 d) ∧ w'.cell? ⟨ib, io + 5, none⟩ = some (.int .i64 k) ∧ w'.cell? ⟨fb, fo + 3, none⟩ = some (.int .i64 frame) ∧ w'.cell? ⟨fb, fo + 2, none⟩ = some (.int .i64 regs))) (by kernel_rfl) (⟨a0, a1, a2, a3, a4, a5, a6, a7, a8⟩) (fun hHeld => ?_);refine wpAnyH_take (i := 0) (oi := ?oib0) (v := ?vvb0) ?hib0 (by kernel_rfl) (by kernel_rfl) (by kernel_rfl) ?hqb0 ?hyb0 hHeld ?_
 case hib0 => simp only [zga, zgs, zgz]; rfl
 case hqb0 => exact fun _ _ _ h => hQ0 _ _ _ _ _ h
 case hyb0 => refine .inl ⟨by rfl, ?_⟩; intro w' hSw; (try dsimp only at hSw); go_simp; try with_reducible rfl
 simp only [Act.put, zsa, zsz, zss];refine wpAnyH_take (i := 1) (oi := ?oib1) (v := ?vvb1) ?hib1 (by kernel_rfl) (by kernel_rfl) (by kernel_rfl) ?hqb1 ?hyb1 hHeld ?_
 case hib1 => simp only [zga, zgs, zgz]; rfl
 case hqb1 => exact fun _ _ _ h => hQ0 _ _ _ _ _ h
 case hyb1 => refine .inl ⟨by rfl, ?_⟩; intro w' hSw; (try dsimp only at hSw); go_simp; try with_reducible rfl
 simp only [Act.put, zsa, zsz, zss];refine wpAnyH_take (i := 2) (oi := ?oib2) (v := ?vvb2) ?hib2 (by kernel_rfl) (by kernel_rfl) (by kernel_rfl) ?hqb2 ?hyb2 hHeld ?_
 case hib2 => simp only [zga, zgs, zgz]; rfl
 case hqb2 => exact fun _ _ _ h => hQ0 _ _ _ _ _ h
 case hyb2 => refine .inl ⟨by rfl, ?_⟩; intro w' hSw; (try dsimp only at hSw); go_simp; try with_reducible rfl
 simp only [Act.put, zsa, zsz, zss];refine wpAnyH_take (i := 3) (oi := ?oib3) (v := ?vvb3) ?hib3 (by kernel_rfl) (by kernel_rfl) (by kernel_rfl) ?hqb3 ?hyb3 hHeld ?_
 case hib3 => simp only [zga, zgs, zgz]; rfl
 case hqb3 => exact fun _ _ _ h => hQ0 _ _ _ _ _ h
 case hyb3 => refine .inl ⟨by rfl, ?_⟩; intro w' hSw; (try dsimp only at hSw); go_simp; try with_reducible rfl
 simp only [Act.put, zsa, zsz, zss];refine wpAnyH_take (i := 4) (oi := ?oib4) (v := ?vvb4) ?hib4 (by kernel_rfl) (by kernel_rfl) (by kernel_rfl) ?hqb4 ?hyb4 hHeld ?_
 case hib4 => simp only [zga, zgs, zgz]; rfl
 case hqb4 => exact fun _ _ _ h => hQ0 _ _ _ _ _ h
 case hyb4 => refine .inl ⟨by rfl, ?_⟩; intro w' hSw; (try dsimp only at hSw); go_simp; try with_reducible rfl
 simp only [Act.put, zsa, zsz, zss];refine wpAnyH_take (i := 5) (oi := ?oib5) (v := ?vvb5) ?hib5 (by kernel_rfl) (by kernel_rfl) (by kernel_rfl) ?hqb5 ?hyb5 hHeld ?_
 case hib5 => simp only [zga, zgs, zgz]; rfl
 case hqb5 => exact fun _ _ _ h => hQ0 _ _ _ _ _ h
 case hyb5 => refine .inl ⟨by rfl, ?_⟩; intro w' hSw; (try dsimp only at hSw); go_simp; try with_reducible rfl
 simp only [Act.put, zsa, zsz, zss];refine wpAnyH_take (i := 6) (oi := ?oib6) (v := ?vvb6) ?hib6 (by kernel_rfl) (by kernel_rfl) (by kernel_rfl) ?hqb6 ?hyb6 hHeld ?_
 case hib6 => simp only [zga, zgs, zgz]; rfl
 case hqb6 => exact fun _ _ _ h => hQ0 _ _ _ _ _ h
 case hyb6 => refine .inl ⟨by rfl, ?_⟩; intro w' hSw; (try dsimp only at hSw); go_simp; try with_reducible rfl
 simp only [Act.put, zsa, zsz, zss];refine wpAnyH_ready (rs := [7]) (by kernel_rfl) (by simp) ?_;refine AllReadyH.cons (o := ?oib7) ?hib7 (fun K hK => ?_) AllReadyH.nil
 case hib7 => simp only [zga, zgs, zgz]; rfl
 go_simp;refine (HT1.out _ hHeld.2.2.2.2.2.2.2.2).mono ?_;rintro e v7 ⟨rfl, rfl⟩;go_wp2_with fail
 refine hK.out _ _ (hHeld) (fun hN => ?_);clear hK K hHeld;have hHeld := hN;clear hN
 try simp only [Act.put, zsa, zsz, zss]
 refine wpAnyH_take (i := 8) (oi := ?oib8) (v := ?vvb8) ?hib8 (by kernel_rfl) (by kernel_rfl) (by kernel_rfl) ?hqb8 ?hyb8 hHeld ?_
 case hib8 => simp only [zga, zgs, zgz]; rfl
 case hqb8 => exact fun _ _ _ h => hQ0 _ _ _ _ _ h
 case hyb8 => refine .inl ⟨by rfl, ?_⟩; intro w' hSw; (try dsimp only at hSw); go_simp; try with_reducible rfl
 simp only [Act.put, zsa, zsz, zss];refine wpAnyH_take (i := 9) (oi := ?oib9) (v := ?vvb9) ?hib9 (by kernel_rfl) (by kernel_rfl) (by kernel_rfl) ?hqb9 ?hyb9 hHeld ?_
 case hib9 => simp only [zga, zgs, zgz]; rfl
 case hqb9 => exact fun _ _ _ h => hQ0 _ _ _ _ _ h
 case hyb9 => refine .inl ⟨by rfl, ?_⟩; intro w' hSw; (try dsimp only at hSw); go_simp; try with_reducible rfl
 simp only [Act.put, zsa, zsz, zss];refine wpAnyH_take (i := 10) (oi := ?oib10) (v := ?vvb10) ?hib10 (by kernel_rfl) (by kernel_rfl) (by kernel_rfl) ?hqb10 ?hyb10 hHeld ?_
 case hib10 => simp only [zga, zgs, zgz]; rfl
 case hqb10 => exact fun _ _ _ h => hQ0 _ _ _ _ _ h
 case hyb10 => refine .inl ⟨by rfl, ?_⟩; intro w' hSw; (try dsimp only at hSw); go_simp; try with_reducible rfl
 simp only [Act.put, zsa, zsz, zss];refine wpAnyH_take (i := 11) (oi := ?oib11) (v := ?vvb11) ?hib11 (by kernel_rfl) (by kernel_rfl) (by kernel_rfl) ?hqb11 ?hyb11 hHeld ?_
 case hib11 => simp only [zga, zgs, zgz]; rfl
 case hqb11 => exact fun _ _ _ h => hQ0 _ _ _ _ _ h
 case hyb11 => refine .inl ⟨by rfl, ?_⟩; intro w' hSw; (try dsimp only at hSw); go_simp; try with_reducible rfl
 simp only [Act.put, zsa, zsz, zss];refine wpAnyH_take (i := 12) (oi := ?oib12) (v := ?vvb12) ?hib12 (by kernel_rfl) (by kernel_rfl) (by kernel_rfl) ?hqb12 ?hyb12 hHeld ?_
 case hib12 => simp only [zga, zgs, zgz]; rfl
 case hqb12 => exact fun _ _ _ h => hQ0 _ _ _ _ _ h
 case hyb12 => refine .inl ⟨by rfl, ?_⟩; intro w' hSw; (try dsimp only at hSw); go_simp; try with_reducible rfl
 simp only [Act.put, zsa, zsz, zss];refine wpAnyH_take (i := 13) (oi := ?oib13) (v := ?vvb13) ?hib13 (by kernel_rfl) (by kernel_rfl) (by kernel_rfl) ?hqb13 ?hyb13 hHeld ?_
 case hib13 => simp only [zga, zgs, zgz]; rfl
 case hqb13 => exact fun _ _ _ h => hQ0 _ _ _ _ _ h
 case hyb13 => refine .inl ⟨by rfl, ?_⟩; intro w' hSw; (try dsimp only at hSw); go_simp; try with_reducible rfl
 simp only [Act.put, zsa, zsz, zss];refine wpAnyH_take (i := 14) (oi := ?oib14) (v := ?vvb14) ?hib14 (by kernel_rfl) (by kernel_rfl) (by kernel_rfl) ?hqb14 ?hyb14 hHeld ?_
 case hib14 => simp only [zga, zgs, zgz]; rfl
 case hqb14 => exact fun _ _ _ h => hQ0 _ _ _ _ _ h
 case hyb14 => refine .inl ⟨by rfl, ?_⟩; intro w' hSw; (try dsimp only at hSw); go_simp; try with_reducible rfl
 simp only [Act.put, zsa, zsz, zss];refine wpAnyH_ready (rs := [15]) (by kernel_rfl) (by simp) ?_;refine AllReadyH.cons (o := ?oib15) ?hib15 (fun K hK => ?_) AllReadyH.nil
 case hib15 => simp only [zga, zgs, zgz]; rfl
 go_simp;refine (HM1.out _).mono ?_;rintro e v15 ⟨rfl, rfl⟩;go_wp2_with fail
 refine hK.out _ _ (hHeld) (fun hN => ?_);clear hK K hHeld;have hHeld := hN;clear hN
 try simp only [Act.put, zsa, zsz, zss]
 refine wpAnyH_take (i := 16) (oi := ?oib16) (v := ?vvb16) ?hib16 (by kernel_rfl) (by kernel_rfl) (by kernel_rfl) ?hqb16 ?hyb16 hHeld ?_
 case hib16 => simp only [zga, zgs, zgz]; rfl
 case hqb16 => exact fun _ _ _ h => hQ0 _ _ _ _ _ h
 case hyb16 => refine .inl ⟨by rfl, ?_⟩; intro w' hSw; (try dsimp only at hSw); go_simp; try with_reducible rfl
 simp only [Act.put, zsa, zsz, zss];refine wpAnyH_take (i := 17) (oi := ?oib17) (v := ?vvb17) ?hib17 (by kernel_rfl) (by kernel_rfl) (by kernel_rfl) ?hqb17 ?hyb17 hHeld ?_
 case hib17 => simp only [zga, zgs, zgz]; rfl
 case hqb17 => exact fun _ _ _ h => hQ0 _ _ _ _ _ h
 case hyb17 => refine .inl ⟨by rfl, ?_⟩; intro w' hSw; (try dsimp only at hSw); go_simp; try with_reducible rfl
 simp only [Act.put, zsa, zsz, zss];refine wpAnyH_take (i := 18) (oi := ?oib18) (v := undef) ?hib18 (by kernel_rfl) (by kernel_rfl) (by kernel_rfl) ?hqb18 ?hyb18 hHeld ?_
 case hib18 => simp only [zga, zgs, zgz]; rfl
 case hqb18 => exact fun _ _ _ h => hQ0 _ _ _ _ _ h
 case hyb18 => exact Or.inr ⟨by rfl, rfl⟩
 simp only [Act.put, zsa, zsz, zss];refine wpAnyH_take (i := 19) (oi := ?oib19) (v := undef) ?hib19 (by kernel_rfl) (by kernel_rfl) (by kernel_rfl) ?hqb19 ?hyb19 hHeld ?_
 case hib19 => simp only [zga, zgs, zgz]; rfl
 case hqb19 => exact fun _ _ _ h => hQ0 _ _ _ _ _ h
 case hyb19 => exact Or.inr ⟨by rfl, rfl⟩
 simp only [Act.put, zsa, zsz, zss];refine wpAnyH_take (i := 20) (oi := ?oib20) (v := undef) ?hib20 (by kernel_rfl) (by kernel_rfl) (by kernel_rfl) ?hqb20 ?hyb20 hHeld ?_
 case hib20 => simp only [zga, zgs, zgz]; rfl
 case hqb20 => exact fun _ _ _ h => hQ0 _ _ _ _ _ h
 case hyb20 => exact Or.inr ⟨by rfl, rfl⟩
 simp only [Act.put, zsa, zsz, zss];refine wpAnyH_take (i := 21) (oi := ?oib21) (v := undef) ?hib21 (by kernel_rfl) (by kernel_rfl) (by kernel_rfl) ?hqb21 ?hyb21 hHeld ?_
 case hib21 => simp only [zga, zgs, zgz]; rfl
 case hqb21 => exact fun _ _ _ h => hQ0 _ _ _ _ _ h
 case hyb21 => exact Or.inr ⟨by rfl, rfl⟩
 simp only [Act.put, zsa, zsz, zss];refine wpAnyH_take (i := 22) (oi := ?oib22) (v := undef) ?hib22 (by kernel_rfl) (by kernel_rfl) (by kernel_rfl) ?hqb22 ?hyb22 hHeld ?_
 case hib22 => simp only [zga, zgs, zgz]; rfl
 case hqb22 => exact fun _ _ _ h => hQ0 _ _ _ _ _ h
 case hyb22 => exact Or.inr ⟨by rfl, rfl⟩
 simp only [Act.put, zsa, zsz, zss];refine wpAnyH_take (i := 23) (oi := ?oib23) (v := undef) ?hib23 (by kernel_rfl) (by kernel_rfl) (by kernel_rfl) ?hqb23 ?hyb23 hHeld ?_
 case hib23 => simp only [zga, zgs, zgz]; rfl
 case hqb23 => exact fun _ _ _ h => hQ0 _ _ _ _ _ h
 case hyb23 => exact Or.inr ⟨by rfl, rfl⟩
 simp only [Act.put, zsa, zsz, zss];refine wpAnyH_take (i := 24) (oi := ?oib24) (v := undef) ?hib24 (by kernel_rfl) (by kernel_rfl) (by kernel_rfl) ?hqb24 ?hyb24 hHeld ?_
 case hib24 => simp only [zga, zgs, zgz]; rfl
 case hqb24 => exact fun _ _ _ h => hQ0 _ _ _ _ _ h
 case hyb24 => exact Or.inr ⟨by rfl, rfl⟩
 simp only [Act.put, zsa, zsz, zss];refine wpAnyH_take (i := 25) (oi := ?oib25) (v := undef) ?hib25 (by kernel_rfl) (by kernel_rfl) (by kernel_rfl) ?hqb25 ?hyb25 hHeld ?_
 case hib25 => simp only [zga, zgs, zgz]; rfl
 case hqb25 => exact fun _ _ _ h => hQ0 _ _ _ _ _ h
 case hyb25 => exact Or.inr ⟨by rfl, rfl⟩
 simp only [Act.put, zsa, zsz, zss];refine wpAnyH_take (i := 26) (oi := ?oib26) (v := undef) ?hib26 (by kernel_rfl) (by kernel_rfl) (by kernel_rfl) ?hqb26 ?hyb26 hHeld ?_
 case hib26 => simp only [zga, zgs, zgz]; rfl
 case hqb26 => exact fun _ _ _ h => hQ0 _ _ _ _ _ h
 case hyb26 => exact Or.inr ⟨by rfl, rfl⟩
 simp only [Act.put, zsa, zsz, zss];refine wpAnyH_take (i := 27) (oi := ?oib27) (v := undef) ?hib27 (by kernel_rfl) (by kernel_rfl) (by kernel_rfl) ?hqb27 ?hyb27 hHeld ?_
 case hib27 => simp only [zga, zgs, zgz]; rfl
 case hqb27 => exact fun _ _ _ h => hQ0 _ _ _ _ _ h
 case hyb27 => exact Or.inr ⟨by rfl, rfl⟩
 simp only [Act.put, zsa, zsz, zss];refine wpAnyH_take (i := 28) (oi := ?oib28) (v := undef) ?hib28 (by kernel_rfl) (by kernel_rfl) (by kernel_rfl) ?hqb28 ?hyb28 hHeld ?_
 case hib28 => simp only [zga, zgs, zgz]; rfl
 case hqb28 => exact fun _ _ _ h => hQ0 _ _ _ _ _ h
 case hyb28 => exact Or.inr ⟨by rfl, rfl⟩
 simp only [Act.put, zsa, zsz, zss];refine wpAnyH_take (i := 29) (oi := ?oib29) (v := undef) ?hib29 (by kernel_rfl) (by kernel_rfl) (by kernel_rfl) ?hqb29 ?hyb29 hHeld ?_
 case hib29 => simp only [zga, zgs, zgz]; rfl
 case hqb29 => exact fun _ _ _ h => hQ0 _ _ _ _ _ h
 case hyb29 => exact Or.inr ⟨by rfl, rfl⟩
 simp only [Act.put, zsa, zsz, zss];refine wpAnyH_take (i := 30) (oi := ?oib30) (v := undef) ?hib30 (by kernel_rfl) (by kernel_rfl) (by kernel_rfl) ?hqb30 ?hyb30 hHeld ?_
 case hib30 => simp only [zga, zgs, zgz]; rfl
 case hqb30 => exact fun _ _ _ h => hQ0 _ _ _ _ _ h
 case hyb30 => exact Or.inr ⟨by rfl, rfl⟩
 simp only [Act.put, zsa, zsz, zss];refine wpAnyH_take (i := 31) (oi := ?oib31) (v := undef) ?hib31 (by kernel_rfl) (by kernel_rfl) (by kernel_rfl) ?hqb31 ?hyb31 hHeld ?_
 case hib31 => simp only [zga, zgs, zgz]; rfl
 case hqb31 => exact fun _ _ _ h => hQ0 _ _ _ _ _ h
 case hyb31 => exact Or.inr ⟨by rfl, rfl⟩
 simp only [Act.put, zsa, zsz, zss];refine wpAnyH_ready (rs := [32]) (by kernel_rfl) (by simp) ?_;refine AllReadyH.cons (o := ?oib32) ?hib32 (fun K hK => ?_) AllReadyH.nil
 case hib32 => simp only [zga, zgs, zgz]; rfl
 go_simp;refine hK.out _ _ hHeld (fun hN => ?_);clear hK K hHeld;have hHeld := hN;clear hN
 try simp only [Act.put, zsa, zsz, zss]
 refine wpAnyH_take (i := 33) (oi := ?oib33) (v := undef) ?hib33 (by kernel_rfl) (by kernel_rfl) (by kernel_rfl) ?hqb33 ?hyb33 hHeld ?_
 case hib33 => simp only [zga, zgs, zgz]; rfl
 case hqb33 => exact fun _ _ _ h => hQ0 _ _ _ _ _ h
 case hyb33 => exact Or.inr ⟨by rfl, rfl⟩
 simp only [Act.put, zsa, zsz, zss];refine wpAnyH_take (i := 34) (oi := ?oib34) (v := ?vvb34) ?hib34 (by kernel_rfl) (by kernel_rfl) (by kernel_rfl) ?hqb34 ?hyb34 hHeld ?_
 case hib34 => simp only [zga, zgs, zgz]; rfl
 case hqb34 => exact fun _ _ _ h => hQ0 _ _ _ _ _ h
 case hyb34 => refine .inl ⟨by rfl, ?_⟩; intro w' hSw; (try dsimp only at hSw); go_simp; try with_reducible rfl
 simp only [Act.put, zsa, zsz, zss];refine wpAnyH_ready (rs := [35]) (by kernel_rfl) (by simp) ?_;refine AllReadyH.cons (o := ?oib35) ?hib35 (fun K hK => ?_) AllReadyH.nil
 case hib35 => simp only [zga, zgs, zgz]; rfl
 go_simp;refine hK.out _ _ (⟨keep_set hHeld.1 (by simp; omega), keep_set hHeld.2.1 (by simp; omega), keep_set hHeld.2.2.1 (by simp; omega), keep_set hHeld.2.2.2.1 (by simp; omega), keep_set hHeld.2.2.2.2.1 (by simp; omega), keep_set hHeld.2.2.2.2.2.1 (by simp; omega), keep_set hHeld.2.2.2.2.2.2.1 (by simp; omega), keep_set hHeld.2.2.2.2.2.2.2.1 (by simp; omega), keep_set hHeld.2.2.2.2.2.2.2.2 (by simp; omega)⟩) (fun hN => ?_);clear hK K hHeld;have hHeld := hN;clear hN
 try simp only [Act.put, zsa, zsz, zss]
 refine wpAnyH_done (by kernel_rfl) ?_ _;exact HK.out _ _ _ _ _ _ _ _ _ _ _ _ _ _ _ _ _ _ _ _ _ _ _ _ _ _ _ _ _ _ _ _ _ _ _ 

theorem tk_r12c (ib io fb fo B0 B1 B2 : Nat) (xd xs op sub d k regs frame : Int) (z0z z3z z6z z7z z8z z9z z10z z11z z12z z13z z14z z15z z16z z17z z18z z19z z20z z21z z22z z23z z24z z25z z26z z27z z28z z29z z30z z31z z32z z33z z34z z35z z36z z37z z38z z39z z40z z41z z42z z43z z44z z45z z46z z47z z48z z49z z50z z51z z52z z53z z54z z55z z56z z57z z58z z59z z60z z61z z62z z63z z64z z65z z66z z67z z68z z69z z70z z71z z72z z73z : Value) (DF : List Deferred) (K : Act → World → Prop) (Q0 : Exit → Act → World → Prop) (w1 : World)
  (hQ0 : ∀ c (a : Act) (dd : Option Tmp) v x, Q0 (.panic c) (a.put dd v) x → Q0 (.panic c) a x)
  (a0 : w1.cell? ⟨B0, 0, none⟩ = some (.pointer (some ⟨fb, fo, none⟩))) (a1 : w1.cell? ⟨B2, 4, none⟩ = some (.int .i64 xd)) (a2 : w1.cell? ⟨B2, 1, none⟩ = some (.int .i64 xs)) (a3 : w1.cell? ⟨ib, io, none⟩ = some (.int .i64 op)) (a4 : w1.cell? ⟨ib, io + 1, none⟩ = some (.int .i64 sub)) (a5 : w1.cell? ⟨ib, io + 4, none⟩ = some (.int .i64 d)) (a6 : w1.cell? ⟨ib, io + 5, none⟩ = some (.int .i64 k)) (a7 : w1.cell? ⟨fb, fo + 3, none⟩ = some (.int .i64 frame)) (a8 : w1.cell? ⟨fb, fo + 2, none⟩ = some (.int .i64 regs)) (b1 : w1.cell? ⟨B1, 0, none⟩ = some (.bool false)) (z1 : w1.frozen? ⟨B1, 0, none⟩ = false)
  (m0 : B0 ≠ B1) (m2 : B2 ≠ B1) (mi : ib ≠ B1) (mf : fb ≠ B1) (r0 : -9223372036854775808 < regs) (r1 : regs ≤ 9223372036854775807) (ht : targetB xd d regs = true) (hm : mayB xs sub = true) (qo : (op != 9) = true)
  (HK : Hid (∀ y39 y40 y41 y42 y43 y44 y45 y46 y47 y48 y49 y50 y51 y52 y53 y54 y55 y56 y57 y58 y59 y60 y61 y62 y63 y64 y65 y66 y67 y68 y69 y70 y71 y72 y73, K ⟨#[z0z, .pointer (some ⟨ib, io, none⟩), .pointer (some ⟨B0, 0, none⟩), z3z, .pointer (some ⟨B1, 0, none⟩), .pointer (some ⟨B2, 0, none⟩), z6z, z7z, z8z, z9z, z10z, z11z, z12z, z13z, z14z, z15z, z16z, z17z, z18z, z19z, z20z, z21z, z22z, z23z, z24z, z25z, z26z, z27z, z28z, z29z, z30z, z31z, z32z, z33z, z34z, z35z, z36z, z37z, z38z, y39, y40, y41, y42, y43, y44, y45, y46, y47, y48, y49, y50, y51, y52, y53, y54, y55, y56, y57, y58, y59, y60, y61, y62, y63, y64, y65, y66, y67, y68, y69, y70, y71, y72, y73], DF⟩ (w1.setCell ⟨B1, 0, none⟩ (.bool true)).drew)) :
  Code.wp prog tkR12 (Exit.then K Q0) ⟨#[z0z, .pointer (some ⟨ib, io, none⟩), .pointer (some ⟨B0, 0, none⟩), z3z, .pointer (some ⟨B1, 0, none⟩), .pointer (some ⟨B2, 0, none⟩), z6z, z7z, z8z, z9z, z10z, z11z, z12z, z13z, z14z, z15z, z16z, z17z, z18z, z19z, z20z, z21z, z22z, z23z, z24z, z25z, z26z, z27z, z28z, z29z, z30z, z31z, z32z, z33z, z34z, z35z, z36z, z37z, z38z, z39z, z40z, z41z, z42z, z43z, z44z, z45z, z46z, z47z, z48z, z49z, z50z, z51z, z52z, z53z, z54z, z55z, z56z, z57z, z58z, z59z, z60z, z61z, z62z, z63z, z64z, z65z, z66z, z67z, z68z, z69z, z70z, z71z, z72z, z73z], DF⟩ w1 := by
 conv => arg 2; whnf
 have HT1 : Hid (∀ W : World, W.cell? ⟨fb, fo + 2, none⟩ = some (.int .i64 regs) → Calls prog 81 #[.pointer (some ⟨fb, fo, none⟩), .int .i64 xd, .int .i64 d] W fun e w' => e = .returned (.bool (targetB xd d regs)) ∧ w' = W) := fun W h => hasTarget_any fb fo regs xd d W h r0 r1;have HM1 : Hid (∀ W, Calls prog 82 #[.int .i64 xs, .int .i64 sub] W fun e w' => e = .returned (.bool (mayB xs sub)) ∧ w' = W) := fun W => mayBe_any _ _ _;have HW1 : Hid (∀ W, Calls prog 83 #[.int .i64 k, .int .i64 frame] W fun e w' => e = .returned (.bool (withinB k frame)) ∧ w' = W) := fun W => within64_any _ _ _;rw [ht] at HT1;rw [hm] at HM1;refine wp_region_held_drew (S := (fun w' => w'.cell? ⟨B0, 0, none⟩ = some (.pointer (some ⟨fb, fo, none⟩)) ∧ w'.cell? ⟨B2, 4, none⟩ = some (.int .i64 xd) ∧ w'.cell? ⟨B2, 1, none⟩ = some (.int .i64 xs) ∧ w'.cell? ⟨ib, io, none⟩ = some (.int .i64 op) ∧ w'.cell? ⟨ib, io + 1, none⟩ = some (.int .i64 sub) ∧ w'.cell? ⟨ib, io + 4, none⟩ = some (.int .i64 d) ∧ w'.cell? ⟨ib, io + 5, none⟩ = some (.int .i64 k) ∧ w'.cell? ⟨fb, fo + 3, none⟩ = some (.int .i64 frame) ∧ w'.cell? ⟨fb, fo + 2, none⟩ = some (.int .i64 regs))) (by kernel_rfl) (⟨a0, a1, a2, a3, a4, a5, a6, a7, a8⟩) (fun hHeld => ?_);refine wpAnyH_take (i := 0) (oi := ?oic0) (v := ?vvc0) ?hic0 (by kernel_rfl) (by kernel_rfl) (by kernel_rfl) ?hqc0 ?hyc0 hHeld ?_
 case hic0 => simp only [zga, zgs, zgz]; rfl
 case hqc0 => exact fun _ _ _ h => hQ0 _ _ _ _ _ h
 case hyc0 => refine .inl ⟨by rfl, ?_⟩; intro w' hSw; (try dsimp only at hSw); go_simp; try with_reducible rfl
 simp only [Act.put, zsa, zsz, zss];refine wpAnyH_take (i := 1) (oi := ?oic1) (v := ?vvc1) ?hic1 (by kernel_rfl) (by kernel_rfl) (by kernel_rfl) ?hqc1 ?hyc1 hHeld ?_
 case hic1 => simp only [zga, zgs, zgz]; rfl
 case hqc1 => exact fun _ _ _ h => hQ0 _ _ _ _ _ h
 case hyc1 => refine .inl ⟨by rfl, ?_⟩; intro w' hSw; (try dsimp only at hSw); go_simp; try with_reducible rfl
 simp only [Act.put, zsa, zsz, zss];refine wpAnyH_take (i := 2) (oi := ?oic2) (v := ?vvc2) ?hic2 (by kernel_rfl) (by kernel_rfl) (by kernel_rfl) ?hqc2 ?hyc2 hHeld ?_
 case hic2 => simp only [zga, zgs, zgz]; rfl
 case hqc2 => exact fun _ _ _ h => hQ0 _ _ _ _ _ h
 case hyc2 => refine .inl ⟨by rfl, ?_⟩; intro w' hSw; (try dsimp only at hSw); go_simp; try with_reducible rfl
 simp only [Act.put, zsa, zsz, zss];refine wpAnyH_take (i := 3) (oi := ?oic3) (v := ?vvc3) ?hic3 (by kernel_rfl) (by kernel_rfl) (by kernel_rfl) ?hqc3 ?hyc3 hHeld ?_
 case hic3 => simp only [zga, zgs, zgz]; rfl
 case hqc3 => exact fun _ _ _ h => hQ0 _ _ _ _ _ h
 case hyc3 => refine .inl ⟨by rfl, ?_⟩; intro w' hSw; (try dsimp only at hSw); go_simp; try with_reducible rfl
 simp only [Act.put, zsa, zsz, zss];refine wpAnyH_take (i := 4) (oi := ?oic4) (v := ?vvc4) ?hic4 (by kernel_rfl) (by kernel_rfl) (by kernel_rfl) ?hqc4 ?hyc4 hHeld ?_
 case hic4 => simp only [zga, zgs, zgz]; rfl
 case hqc4 => exact fun _ _ _ h => hQ0 _ _ _ _ _ h
 case hyc4 => refine .inl ⟨by rfl, ?_⟩; intro w' hSw; (try dsimp only at hSw); go_simp; try with_reducible rfl
 simp only [Act.put, zsa, zsz, zss];refine wpAnyH_take (i := 5) (oi := ?oic5) (v := ?vvc5) ?hic5 (by kernel_rfl) (by kernel_rfl) (by kernel_rfl) ?hqc5 ?hyc5 hHeld ?_
 case hic5 => simp only [zga, zgs, zgz]; rfl
 case hqc5 => exact fun _ _ _ h => hQ0 _ _ _ _ _ h
 case hyc5 => refine .inl ⟨by rfl, ?_⟩; intro w' hSw; (try dsimp only at hSw); go_simp; try with_reducible rfl
 simp only [Act.put, zsa, zsz, zss];refine wpAnyH_take (i := 6) (oi := ?oic6) (v := ?vvc6) ?hic6 (by kernel_rfl) (by kernel_rfl) (by kernel_rfl) ?hqc6 ?hyc6 hHeld ?_
 case hic6 => simp only [zga, zgs, zgz]; rfl
 case hqc6 => exact fun _ _ _ h => hQ0 _ _ _ _ _ h
 case hyc6 => refine .inl ⟨by rfl, ?_⟩; intro w' hSw; (try dsimp only at hSw); go_simp; try with_reducible rfl
 simp only [Act.put, zsa, zsz, zss];refine wpAnyH_ready (rs := [7]) (by kernel_rfl) (by simp) ?_;refine AllReadyH.cons (o := ?oic7) ?hic7 (fun K hK => ?_) AllReadyH.nil
 case hic7 => simp only [zga, zgs, zgz]; rfl
 go_simp;refine (HT1.out _ hHeld.2.2.2.2.2.2.2.2).mono ?_;rintro e v7 ⟨rfl, rfl⟩;go_wp2_with fail
 refine hK.out _ _ (hHeld) (fun hN => ?_);clear hK K hHeld;have hHeld := hN;clear hN
 try simp only [Act.put, zsa, zsz, zss]
 refine wpAnyH_take (i := 8) (oi := ?oic8) (v := ?vvc8) ?hic8 (by kernel_rfl) (by kernel_rfl) (by kernel_rfl) ?hqc8 ?hyc8 hHeld ?_
 case hic8 => simp only [zga, zgs, zgz]; rfl
 case hqc8 => exact fun _ _ _ h => hQ0 _ _ _ _ _ h
 case hyc8 => refine .inl ⟨by rfl, ?_⟩; intro w' hSw; (try dsimp only at hSw); go_simp; try with_reducible rfl
 simp only [Act.put, zsa, zsz, zss];refine wpAnyH_take (i := 9) (oi := ?oic9) (v := ?vvc9) ?hic9 (by kernel_rfl) (by kernel_rfl) (by kernel_rfl) ?hqc9 ?hyc9 hHeld ?_
 case hic9 => simp only [zga, zgs, zgz]; rfl
 case hqc9 => exact fun _ _ _ h => hQ0 _ _ _ _ _ h
 case hyc9 => refine .inl ⟨by rfl, ?_⟩; intro w' hSw; (try dsimp only at hSw); go_simp; try with_reducible rfl
 simp only [Act.put, zsa, zsz, zss];refine wpAnyH_take (i := 10) (oi := ?oic10) (v := ?vvc10) ?hic10 (by kernel_rfl) (by kernel_rfl) (by kernel_rfl) ?hqc10 ?hyc10 hHeld ?_
 case hic10 => simp only [zga, zgs, zgz]; rfl
 case hqc10 => exact fun _ _ _ h => hQ0 _ _ _ _ _ h
 case hyc10 => refine .inl ⟨by rfl, ?_⟩; intro w' hSw; (try dsimp only at hSw); go_simp; try with_reducible rfl
 simp only [Act.put, zsa, zsz, zss];refine wpAnyH_take (i := 11) (oi := ?oic11) (v := ?vvc11) ?hic11 (by kernel_rfl) (by kernel_rfl) (by kernel_rfl) ?hqc11 ?hyc11 hHeld ?_
 case hic11 => simp only [zga, zgs, zgz]; rfl
 case hqc11 => exact fun _ _ _ h => hQ0 _ _ _ _ _ h
 case hyc11 => refine .inl ⟨by rfl, ?_⟩; intro w' hSw; (try dsimp only at hSw); go_simp; try with_reducible rfl
 simp only [Act.put, zsa, zsz, zss];refine wpAnyH_take (i := 12) (oi := ?oic12) (v := ?vvc12) ?hic12 (by kernel_rfl) (by kernel_rfl) (by kernel_rfl) ?hqc12 ?hyc12 hHeld ?_
 case hic12 => simp only [zga, zgs, zgz]; rfl
 case hqc12 => exact fun _ _ _ h => hQ0 _ _ _ _ _ h
 case hyc12 => refine .inl ⟨by rfl, ?_⟩; intro w' hSw; (try dsimp only at hSw); go_simp; try with_reducible rfl
 simp only [Act.put, zsa, zsz, zss];refine wpAnyH_take (i := 13) (oi := ?oic13) (v := ?vvc13) ?hic13 (by kernel_rfl) (by kernel_rfl) (by kernel_rfl) ?hqc13 ?hyc13 hHeld ?_
 case hic13 => simp only [zga, zgs, zgz]; rfl
 case hqc13 => exact fun _ _ _ h => hQ0 _ _ _ _ _ h
 case hyc13 => refine .inl ⟨by rfl, ?_⟩; intro w' hSw; (try dsimp only at hSw); go_simp; try with_reducible rfl
 simp only [Act.put, zsa, zsz, zss];refine wpAnyH_take (i := 14) (oi := ?oic14) (v := ?vvc14) ?hic14 (by kernel_rfl) (by kernel_rfl) (by kernel_rfl) ?hqc14 ?hyc14 hHeld ?_
 case hic14 => simp only [zga, zgs, zgz]; rfl
 case hqc14 => exact fun _ _ _ h => hQ0 _ _ _ _ _ h
 case hyc14 => refine .inl ⟨by rfl, ?_⟩; intro w' hSw; (try dsimp only at hSw); go_simp; try with_reducible rfl
 simp only [Act.put, zsa, zsz, zss];refine wpAnyH_ready (rs := [15]) (by kernel_rfl) (by simp) ?_;refine AllReadyH.cons (o := ?oic15) ?hic15 (fun K hK => ?_) AllReadyH.nil
 case hic15 => simp only [zga, zgs, zgz]; rfl
 go_simp;refine (HM1.out _).mono ?_;rintro e v15 ⟨rfl, rfl⟩;go_wp2_with fail
 refine hK.out _ _ (hHeld) (fun hN => ?_);clear hK K hHeld;have hHeld := hN;clear hN
 try simp only [Act.put, zsa, zsz, zss]
 refine wpAnyH_take (i := 16) (oi := ?oic16) (v := ?vvc16) ?hic16 (by kernel_rfl) (by kernel_rfl) (by kernel_rfl) ?hqc16 ?hyc16 hHeld ?_
 case hic16 => simp only [zga, zgs, zgz]; rfl
 case hqc16 => exact fun _ _ _ h => hQ0 _ _ _ _ _ h
 case hyc16 => refine .inl ⟨by rfl, ?_⟩; intro w' hSw; (try dsimp only at hSw); go_simp; try with_reducible rfl
 simp only [Act.put, zsa, zsz, zss];refine wpAnyH_take (i := 17) (oi := ?oic17) (v := ?vvc17) ?hic17 (by kernel_rfl) (by kernel_rfl) (by kernel_rfl) ?hqc17 ?hyc17 hHeld ?_
 case hic17 => simp only [zga, zgs, zgz]; rfl
 case hqc17 => exact fun _ _ _ h => hQ0 _ _ _ _ _ h
 case hyc17 => refine .inl ⟨by rfl, ?_⟩; intro w' hSw; (try dsimp only at hSw); go_simp; try with_reducible rfl
 simp only [Act.put, zsa, zsz, zss];refine wpAnyH_take (i := 18) (oi := ?oic18) (v := ?vvc18) ?hic18 (by kernel_rfl) (by kernel_rfl) (by kernel_rfl) ?hqc18 ?hyc18 hHeld ?_
 case hic18 => simp only [zga, zgs, zgz]; rfl
 case hqc18 => exact fun _ _ _ h => hQ0 _ _ _ _ _ h
 case hyc18 => refine .inl ⟨by rfl, ?_⟩; intro w' hSw; (try dsimp only at hSw); go_simp; try with_reducible rfl
 simp only [Act.put, zsa, zsz, zss];refine wpAnyH_take (i := 19) (oi := ?oic19) (v := ?vvc19) ?hic19 (by kernel_rfl) (by kernel_rfl) (by kernel_rfl) ?hqc19 ?hyc19 hHeld ?_
 case hic19 => simp only [zga, zgs, zgz]; rfl
 case hqc19 => exact fun _ _ _ h => hQ0 _ _ _ _ _ h
 case hyc19 => refine .inl ⟨by rfl, ?_⟩; intro w' hSw; (try dsimp only at hSw); go_simp; try with_reducible rfl
 simp only [Act.put, zsa, zsz, zss];refine wpAnyH_take (i := 20) (oi := ?oic20) (v := ?vvc20) ?hic20 (by kernel_rfl) (by kernel_rfl) (by kernel_rfl) ?hqc20 ?hyc20 hHeld ?_
 case hic20 => simp only [zga, zgs, zgz]; rfl
 case hqc20 => exact fun _ _ _ h => hQ0 _ _ _ _ _ h
 case hyc20 => refine .inl ⟨by rfl, ?_⟩; intro w' hSw; (try dsimp only at hSw); go_simp; try with_reducible rfl
 simp only [Act.put, zsa, zsz, zss];refine wpAnyH_take (i := 21) (oi := ?oic21) (v := ?vvc21) ?hic21 (by kernel_rfl) (by kernel_rfl) (by kernel_rfl) ?hqc21 ?hyc21 hHeld ?_
 case hic21 => simp only [zga, zgs, zgz]; rfl
 case hqc21 => exact fun _ _ _ h => hQ0 _ _ _ _ _ h
 case hyc21 => refine .inl ⟨by rfl, ?_⟩; intro w' hSw; (try dsimp only at hSw); go_simp; try with_reducible rfl
 simp only [Act.put, zsa, zsz, zss];refine wpAnyH_take (i := 22) (oi := ?oic22) (v := ?vvc22) ?hic22 (by kernel_rfl) (by kernel_rfl) (by kernel_rfl) ?hqc22 ?hyc22 hHeld ?_
 case hic22 => simp only [zga, zgs, zgz]; rfl
 case hqc22 => exact fun _ _ _ h => hQ0 _ _ _ _ _ h
 case hyc22 => refine .inl ⟨by rfl, ?_⟩; intro w' hSw; (try dsimp only at hSw); go_simp; try with_reducible rfl
 simp only [Act.put, zsa, zsz, zss];refine wpAnyH_take (i := 23) (oi := ?oic23) (v := ?vvc23) ?hic23 (by kernel_rfl) (by kernel_rfl) (by kernel_rfl) ?hqc23 ?hyc23 hHeld ?_
 case hic23 => simp only [zga, zgs, zgz]; rfl
 case hqc23 => exact fun _ _ _ h => hQ0 _ _ _ _ _ h
 case hyc23 => refine .inl ⟨by rfl, ?_⟩; intro w' hSw; (try dsimp only at hSw); go_simp; try with_reducible rfl
 simp only [Act.put, zsa, zsz, zss];refine wpAnyH_take (i := 24) (oi := ?oic24) (v := undef) ?hic24 (by kernel_rfl) (by kernel_rfl) (by kernel_rfl) ?hqc24 ?hyc24 hHeld ?_
 case hic24 => simp only [zga, zgs, zgz]; rfl
 case hqc24 => exact fun _ _ _ h => hQ0 _ _ _ _ _ h
 case hyc24 => exact Or.inr ⟨by rfl, rfl⟩
 simp only [Act.put, zsa, zsz, zss];refine wpAnyH_take (i := 25) (oi := ?oic25) (v := undef) ?hic25 (by kernel_rfl) (by kernel_rfl) (by kernel_rfl) ?hqc25 ?hyc25 hHeld ?_
 case hic25 => simp only [zga, zgs, zgz]; rfl
 case hqc25 => exact fun _ _ _ h => hQ0 _ _ _ _ _ h
 case hyc25 => exact Or.inr ⟨by rfl, rfl⟩
 simp only [Act.put, zsa, zsz, zss];refine wpAnyH_take (i := 26) (oi := ?oic26) (v := undef) ?hic26 (by kernel_rfl) (by kernel_rfl) (by kernel_rfl) ?hqc26 ?hyc26 hHeld ?_
 case hic26 => simp only [zga, zgs, zgz]; rfl
 case hqc26 => exact fun _ _ _ h => hQ0 _ _ _ _ _ h
 case hyc26 => exact Or.inr ⟨by rfl, rfl⟩
 simp only [Act.put, zsa, zsz, zss];refine wpAnyH_take (i := 27) (oi := ?oic27) (v := undef) ?hic27 (by kernel_rfl) (by kernel_rfl) (by kernel_rfl) ?hqc27 ?hyc27 hHeld ?_
 case hic27 => simp only [zga, zgs, zgz]; rfl
 case hqc27 => exact fun _ _ _ h => hQ0 _ _ _ _ _ h
 case hyc27 => exact Or.inr ⟨by rfl, rfl⟩
 simp only [Act.put, zsa, zsz, zss];refine wpAnyH_take (i := 28) (oi := ?oic28) (v := undef) ?hic28 (by kernel_rfl) (by kernel_rfl) (by kernel_rfl) ?hqc28 ?hyc28 hHeld ?_
 case hic28 => simp only [zga, zgs, zgz]; rfl
 case hqc28 => exact fun _ _ _ h => hQ0 _ _ _ _ _ h
 case hyc28 => exact Or.inr ⟨by rfl, rfl⟩
 simp only [Act.put, zsa, zsz, zss];refine wpAnyH_take (i := 29) (oi := ?oic29) (v := undef) ?hic29 (by kernel_rfl) (by kernel_rfl) (by kernel_rfl) ?hqc29 ?hyc29 hHeld ?_
 case hic29 => simp only [zga, zgs, zgz]; rfl
 case hqc29 => exact fun _ _ _ h => hQ0 _ _ _ _ _ h
 case hyc29 => exact Or.inr ⟨by rfl, rfl⟩
 simp only [Act.put, zsa, zsz, zss];refine wpAnyH_take (i := 30) (oi := ?oic30) (v := undef) ?hic30 (by kernel_rfl) (by kernel_rfl) (by kernel_rfl) ?hqc30 ?hyc30 hHeld ?_
 case hic30 => simp only [zga, zgs, zgz]; rfl
 case hqc30 => exact fun _ _ _ h => hQ0 _ _ _ _ _ h
 case hyc30 => exact Or.inr ⟨by rfl, rfl⟩
 simp only [Act.put, zsa, zsz, zss];refine wpAnyH_take (i := 31) (oi := ?oic31) (v := undef) ?hic31 (by kernel_rfl) (by kernel_rfl) (by kernel_rfl) ?hqc31 ?hyc31 hHeld ?_
 case hic31 => simp only [zga, zgs, zgz]; rfl
 case hqc31 => exact fun _ _ _ h => hQ0 _ _ _ _ _ h
 case hyc31 => exact Or.inr ⟨by rfl, rfl⟩
 simp only [Act.put, zsa, zsz, zss];refine wpAnyH_ready (rs := [32]) (by kernel_rfl) (by simp) ?_;refine AllReadyH.cons (o := ?oic32) ?hic32 (fun K hK => ?_) AllReadyH.nil
 case hic32 => simp only [zga, zgs, zgz]; rfl
 go_simp;refine hK.out _ _ hHeld (fun hN => ?_);clear hK K hHeld;have hHeld := hN;clear hN
 try simp only [Act.put, zsa, zsz, zss]
 refine wpAnyH_take (i := 33) (oi := ?oic33) (v := ?vvc33) ?hic33 (by kernel_rfl) (by kernel_rfl) (by kernel_rfl) ?hqc33 ?hyc33 hHeld ?_
 case hic33 => simp only [zga, zgs, zgz]; rfl
 case hqc33 => exact fun _ _ _ h => hQ0 _ _ _ _ _ h
 case hyc33 => refine .inl ⟨by rfl, ?_⟩; intro w' hSw; (try dsimp only at hSw); go_simp; try with_reducible rfl
 simp only [Act.put, zsa, zsz, zss];refine wpAnyH_take (i := 34) (oi := ?oic34) (v := ?vvc34) ?hic34 (by kernel_rfl) (by kernel_rfl) (by kernel_rfl) ?hqc34 ?hyc34 hHeld ?_
 case hic34 => simp only [zga, zgs, zgz]; rfl
 case hqc34 => exact fun _ _ _ h => hQ0 _ _ _ _ _ h
 case hyc34 => refine .inl ⟨by rfl, ?_⟩; intro w' hSw; (try dsimp only at hSw); go_simp; try with_reducible rfl
 simp only [Act.put, zsa, zsz, zss];refine wpAnyH_ready (rs := [35]) (by kernel_rfl) (by simp) ?_;refine AllReadyH.cons (o := ?oic35) ?hic35 (fun K hK => ?_) AllReadyH.nil
 case hic35 => simp only [zga, zgs, zgz]; rfl
 go_simp;refine hK.out _ _ (⟨keep_set hHeld.1 (by simp; omega), keep_set hHeld.2.1 (by simp; omega), keep_set hHeld.2.2.1 (by simp; omega), keep_set hHeld.2.2.2.1 (by simp; omega), keep_set hHeld.2.2.2.2.1 (by simp; omega), keep_set hHeld.2.2.2.2.2.1 (by simp; omega), keep_set hHeld.2.2.2.2.2.2.1 (by simp; omega), keep_set hHeld.2.2.2.2.2.2.2.1 (by simp; omega), keep_set hHeld.2.2.2.2.2.2.2.2 (by simp; omega)⟩) (fun hN => ?_);clear hK K hHeld;have hHeld := hN;clear hN
 try simp only [Act.put, zsa, zsz, zss]
 refine wpAnyH_done (by kernel_rfl) ?_ _;exact HK.out _ _ _ _ _ _ _ _ _ _ _ _ _ _ _ _ _ _ _ _ _ _ _ _ _ _ _ _ _ _ _ _ _ _ _ 

theorem tk_r12d (ib io fb fo B0 B1 B2 : Nat) (xd xs op sub d k regs frame : Int) (z0z z3z z6z z7z z8z z9z z10z z11z z12z z13z z14z z15z z16z z17z z18z z19z z20z z21z z22z z23z z24z z25z z26z z27z z28z z29z z30z z31z z32z z33z z34z z35z z36z z37z z38z z39z z40z z41z z42z z43z z44z z45z z46z z47z z48z z49z z50z z51z z52z z53z z54z z55z z56z z57z z58z z59z z60z z61z z62z z63z z64z z65z z66z z67z z68z z69z z70z z71z z72z z73z : Value) (DF : List Deferred) (K : Act → World → Prop) (Q0 : Exit → Act → World → Prop) (w1 : World)
  (hQ0 : ∀ c (a : Act) (dd : Option Tmp) v x, Q0 (.panic c) (a.put dd v) x → Q0 (.panic c) a x)
  (a0 : w1.cell? ⟨B0, 0, none⟩ = some (.pointer (some ⟨fb, fo, none⟩))) (a1 : w1.cell? ⟨B2, 4, none⟩ = some (.int .i64 xd)) (a2 : w1.cell? ⟨B2, 1, none⟩ = some (.int .i64 xs)) (a3 : w1.cell? ⟨ib, io, none⟩ = some (.int .i64 op)) (a4 : w1.cell? ⟨ib, io + 1, none⟩ = some (.int .i64 sub)) (a5 : w1.cell? ⟨ib, io + 4, none⟩ = some (.int .i64 d)) (a6 : w1.cell? ⟨ib, io + 5, none⟩ = some (.int .i64 k)) (a7 : w1.cell? ⟨fb, fo + 3, none⟩ = some (.int .i64 frame)) (a8 : w1.cell? ⟨fb, fo + 2, none⟩ = some (.int .i64 regs)) (b1 : w1.cell? ⟨B1, 0, none⟩ = some (.bool false)) (z1 : w1.frozen? ⟨B1, 0, none⟩ = false)
  (m0 : B0 ≠ B1) (m2 : B2 ≠ B1) (mi : ib ≠ B1) (mf : fb ≠ B1) (r0 : -9223372036854775808 < regs) (r1 : regs ≤ 9223372036854775807) (ht : targetB xd d regs = true) (hm : mayB xs sub = true) (qo : (op != 9) = false)
  (HK : Hid (∀ y39 y40 y41 y42 y43 y44 y45 y46 y47 y48 y49 y50 y51 y52 y53 y54 y55 y56 y57 y58 y59 y60 y61 y62 y63 y64 y65 y66 y67 y68 y69 y70 y71 y72 y73, K ⟨#[z0z, .pointer (some ⟨ib, io, none⟩), .pointer (some ⟨B0, 0, none⟩), z3z, .pointer (some ⟨B1, 0, none⟩), .pointer (some ⟨B2, 0, none⟩), z6z, z7z, z8z, z9z, z10z, z11z, z12z, z13z, z14z, z15z, z16z, z17z, z18z, z19z, z20z, z21z, z22z, z23z, z24z, z25z, z26z, z27z, z28z, z29z, z30z, z31z, z32z, z33z, z34z, z35z, z36z, z37z, z38z, y39, y40, y41, y42, y43, y44, y45, y46, y47, y48, y49, y50, y51, y52, y53, y54, y55, y56, y57, y58, y59, y60, y61, y62, y63, y64, y65, y66, y67, y68, y69, y70, y71, y72, y73], DF⟩ (w1.setCell ⟨B1, 0, none⟩ (.bool (withinB k frame))).drew)) :
  Code.wp prog tkR12 (Exit.then K Q0) ⟨#[z0z, .pointer (some ⟨ib, io, none⟩), .pointer (some ⟨B0, 0, none⟩), z3z, .pointer (some ⟨B1, 0, none⟩), .pointer (some ⟨B2, 0, none⟩), z6z, z7z, z8z, z9z, z10z, z11z, z12z, z13z, z14z, z15z, z16z, z17z, z18z, z19z, z20z, z21z, z22z, z23z, z24z, z25z, z26z, z27z, z28z, z29z, z30z, z31z, z32z, z33z, z34z, z35z, z36z, z37z, z38z, z39z, z40z, z41z, z42z, z43z, z44z, z45z, z46z, z47z, z48z, z49z, z50z, z51z, z52z, z53z, z54z, z55z, z56z, z57z, z58z, z59z, z60z, z61z, z62z, z63z, z64z, z65z, z66z, z67z, z68z, z69z, z70z, z71z, z72z, z73z], DF⟩ w1 := by
 conv => arg 2; whnf
 have HT1 : Hid (∀ W : World, W.cell? ⟨fb, fo + 2, none⟩ = some (.int .i64 regs) → Calls prog 81 #[.pointer (some ⟨fb, fo, none⟩), .int .i64 xd, .int .i64 d] W fun e w' => e = .returned (.bool (targetB xd d regs)) ∧ w' = W) := fun W h => hasTarget_any fb fo regs xd d W h r0 r1;have HM1 : Hid (∀ W, Calls prog 82 #[.int .i64 xs, .int .i64 sub] W fun e w' => e = .returned (.bool (mayB xs sub)) ∧ w' = W) := fun W => mayBe_any _ _ _;have HW1 : Hid (∀ W, Calls prog 83 #[.int .i64 k, .int .i64 frame] W fun e w' => e = .returned (.bool (withinB k frame)) ∧ w' = W) := fun W => within64_any _ _ _;rw [ht] at HT1;rw [hm] at HM1;refine wp_region_held_drew (S := (fun w' => w'.cell? ⟨B0, 0, none⟩ = some (.pointer (some ⟨fb, fo, none⟩)) ∧ w'.cell? ⟨B2, 4, none⟩ = some (.int .i64 xd) ∧ w'.cell? ⟨B2, 1, none⟩ = some (.int .i64 xs) ∧ w'.cell? ⟨ib, io, none⟩ = some (.int .i64 op) ∧ w'.cell? ⟨ib, io + 1, none⟩ = some (.int .i64 sub) ∧ w'.cell? ⟨ib, io + 4, none⟩ = some (.int .i64 d) ∧ w'.cell? ⟨ib, io + 5, none⟩ = some (.int .i64 k) ∧ w'.cell? ⟨fb, fo + 3, none⟩ = some (.int .i64 frame) ∧ w'.cell? ⟨fb, fo + 2, none⟩ = some (.int .i64 regs))) (by kernel_rfl) (⟨a0, a1, a2, a3, a4, a5, a6, a7, a8⟩) (fun hHeld => ?_);refine wpAnyH_take (i := 0) (oi := ?oid0) (v := ?vvd0) ?hid0 (by kernel_rfl) (by kernel_rfl) (by kernel_rfl) ?hqd0 ?hyd0 hHeld ?_
 case hid0 => simp only [zga, zgs, zgz]; rfl
 case hqd0 => exact fun _ _ _ h => hQ0 _ _ _ _ _ h
 case hyd0 => refine .inl ⟨by rfl, ?_⟩; intro w' hSw; (try dsimp only at hSw); go_simp; try with_reducible rfl
 simp only [Act.put, zsa, zsz, zss];refine wpAnyH_take (i := 1) (oi := ?oid1) (v := ?vvd1) ?hid1 (by kernel_rfl) (by kernel_rfl) (by kernel_rfl) ?hqd1 ?hyd1 hHeld ?_
 case hid1 => simp only [zga, zgs, zgz]; rfl
 case hqd1 => exact fun _ _ _ h => hQ0 _ _ _ _ _ h
 case hyd1 => refine .inl ⟨by rfl, ?_⟩; intro w' hSw; (try dsimp only at hSw); go_simp; try with_reducible rfl
 simp only [Act.put, zsa, zsz, zss];refine wpAnyH_take (i := 2) (oi := ?oid2) (v := ?vvd2) ?hid2 (by kernel_rfl) (by kernel_rfl) (by kernel_rfl) ?hqd2 ?hyd2 hHeld ?_
 case hid2 => simp only [zga, zgs, zgz]; rfl
 case hqd2 => exact fun _ _ _ h => hQ0 _ _ _ _ _ h
 case hyd2 => refine .inl ⟨by rfl, ?_⟩; intro w' hSw; (try dsimp only at hSw); go_simp; try with_reducible rfl
 simp only [Act.put, zsa, zsz, zss];refine wpAnyH_take (i := 3) (oi := ?oid3) (v := ?vvd3) ?hid3 (by kernel_rfl) (by kernel_rfl) (by kernel_rfl) ?hqd3 ?hyd3 hHeld ?_
 case hid3 => simp only [zga, zgs, zgz]; rfl
 case hqd3 => exact fun _ _ _ h => hQ0 _ _ _ _ _ h
 case hyd3 => refine .inl ⟨by rfl, ?_⟩; intro w' hSw; (try dsimp only at hSw); go_simp; try with_reducible rfl
 simp only [Act.put, zsa, zsz, zss];refine wpAnyH_take (i := 4) (oi := ?oid4) (v := ?vvd4) ?hid4 (by kernel_rfl) (by kernel_rfl) (by kernel_rfl) ?hqd4 ?hyd4 hHeld ?_
 case hid4 => simp only [zga, zgs, zgz]; rfl
 case hqd4 => exact fun _ _ _ h => hQ0 _ _ _ _ _ h
 case hyd4 => refine .inl ⟨by rfl, ?_⟩; intro w' hSw; (try dsimp only at hSw); go_simp; try with_reducible rfl
 simp only [Act.put, zsa, zsz, zss];refine wpAnyH_take (i := 5) (oi := ?oid5) (v := ?vvd5) ?hid5 (by kernel_rfl) (by kernel_rfl) (by kernel_rfl) ?hqd5 ?hyd5 hHeld ?_
 case hid5 => simp only [zga, zgs, zgz]; rfl
 case hqd5 => exact fun _ _ _ h => hQ0 _ _ _ _ _ h
 case hyd5 => refine .inl ⟨by rfl, ?_⟩; intro w' hSw; (try dsimp only at hSw); go_simp; try with_reducible rfl
 simp only [Act.put, zsa, zsz, zss];refine wpAnyH_take (i := 6) (oi := ?oid6) (v := ?vvd6) ?hid6 (by kernel_rfl) (by kernel_rfl) (by kernel_rfl) ?hqd6 ?hyd6 hHeld ?_
 case hid6 => simp only [zga, zgs, zgz]; rfl
 case hqd6 => exact fun _ _ _ h => hQ0 _ _ _ _ _ h
 case hyd6 => refine .inl ⟨by rfl, ?_⟩; intro w' hSw; (try dsimp only at hSw); go_simp; try with_reducible rfl
 simp only [Act.put, zsa, zsz, zss];refine wpAnyH_ready (rs := [7]) (by kernel_rfl) (by simp) ?_;refine AllReadyH.cons (o := ?oid7) ?hid7 (fun K hK => ?_) AllReadyH.nil
 case hid7 => simp only [zga, zgs, zgz]; rfl
 go_simp;refine (HT1.out _ hHeld.2.2.2.2.2.2.2.2).mono ?_;rintro e v7 ⟨rfl, rfl⟩;go_wp2_with fail
 refine hK.out _ _ (hHeld) (fun hN => ?_);clear hK K hHeld;have hHeld := hN;clear hN
 try simp only [Act.put, zsa, zsz, zss]
 refine wpAnyH_take (i := 8) (oi := ?oid8) (v := ?vvd8) ?hid8 (by kernel_rfl) (by kernel_rfl) (by kernel_rfl) ?hqd8 ?hyd8 hHeld ?_
 case hid8 => simp only [zga, zgs, zgz]; rfl
 case hqd8 => exact fun _ _ _ h => hQ0 _ _ _ _ _ h
 case hyd8 => refine .inl ⟨by rfl, ?_⟩; intro w' hSw; (try dsimp only at hSw); go_simp; try with_reducible rfl
 simp only [Act.put, zsa, zsz, zss];refine wpAnyH_take (i := 9) (oi := ?oid9) (v := ?vvd9) ?hid9 (by kernel_rfl) (by kernel_rfl) (by kernel_rfl) ?hqd9 ?hyd9 hHeld ?_
 case hid9 => simp only [zga, zgs, zgz]; rfl
 case hqd9 => exact fun _ _ _ h => hQ0 _ _ _ _ _ h
 case hyd9 => refine .inl ⟨by rfl, ?_⟩; intro w' hSw; (try dsimp only at hSw); go_simp; try with_reducible rfl
 simp only [Act.put, zsa, zsz, zss];refine wpAnyH_take (i := 10) (oi := ?oid10) (v := ?vvd10) ?hid10 (by kernel_rfl) (by kernel_rfl) (by kernel_rfl) ?hqd10 ?hyd10 hHeld ?_
 case hid10 => simp only [zga, zgs, zgz]; rfl
 case hqd10 => exact fun _ _ _ h => hQ0 _ _ _ _ _ h
 case hyd10 => refine .inl ⟨by rfl, ?_⟩; intro w' hSw; (try dsimp only at hSw); go_simp; try with_reducible rfl
 simp only [Act.put, zsa, zsz, zss];refine wpAnyH_take (i := 11) (oi := ?oid11) (v := ?vvd11) ?hid11 (by kernel_rfl) (by kernel_rfl) (by kernel_rfl) ?hqd11 ?hyd11 hHeld ?_
 case hid11 => simp only [zga, zgs, zgz]; rfl
 case hqd11 => exact fun _ _ _ h => hQ0 _ _ _ _ _ h
 case hyd11 => refine .inl ⟨by rfl, ?_⟩; intro w' hSw; (try dsimp only at hSw); go_simp; try with_reducible rfl
 simp only [Act.put, zsa, zsz, zss];refine wpAnyH_take (i := 12) (oi := ?oid12) (v := ?vvd12) ?hid12 (by kernel_rfl) (by kernel_rfl) (by kernel_rfl) ?hqd12 ?hyd12 hHeld ?_
 case hid12 => simp only [zga, zgs, zgz]; rfl
 case hqd12 => exact fun _ _ _ h => hQ0 _ _ _ _ _ h
 case hyd12 => refine .inl ⟨by rfl, ?_⟩; intro w' hSw; (try dsimp only at hSw); go_simp; try with_reducible rfl
 simp only [Act.put, zsa, zsz, zss];refine wpAnyH_take (i := 13) (oi := ?oid13) (v := ?vvd13) ?hid13 (by kernel_rfl) (by kernel_rfl) (by kernel_rfl) ?hqd13 ?hyd13 hHeld ?_
 case hid13 => simp only [zga, zgs, zgz]; rfl
 case hqd13 => exact fun _ _ _ h => hQ0 _ _ _ _ _ h
 case hyd13 => refine .inl ⟨by rfl, ?_⟩; intro w' hSw; (try dsimp only at hSw); go_simp; try with_reducible rfl
 simp only [Act.put, zsa, zsz, zss];refine wpAnyH_take (i := 14) (oi := ?oid14) (v := ?vvd14) ?hid14 (by kernel_rfl) (by kernel_rfl) (by kernel_rfl) ?hqd14 ?hyd14 hHeld ?_
 case hid14 => simp only [zga, zgs, zgz]; rfl
 case hqd14 => exact fun _ _ _ h => hQ0 _ _ _ _ _ h
 case hyd14 => refine .inl ⟨by rfl, ?_⟩; intro w' hSw; (try dsimp only at hSw); go_simp; try with_reducible rfl
 simp only [Act.put, zsa, zsz, zss];refine wpAnyH_ready (rs := [15]) (by kernel_rfl) (by simp) ?_;refine AllReadyH.cons (o := ?oid15) ?hid15 (fun K hK => ?_) AllReadyH.nil
 case hid15 => simp only [zga, zgs, zgz]; rfl
 go_simp;refine (HM1.out _).mono ?_;rintro e v15 ⟨rfl, rfl⟩;go_wp2_with fail
 refine hK.out _ _ (hHeld) (fun hN => ?_);clear hK K hHeld;have hHeld := hN;clear hN
 try simp only [Act.put, zsa, zsz, zss]
 refine wpAnyH_take (i := 16) (oi := ?oid16) (v := ?vvd16) ?hid16 (by kernel_rfl) (by kernel_rfl) (by kernel_rfl) ?hqd16 ?hyd16 hHeld ?_
 case hid16 => simp only [zga, zgs, zgz]; rfl
 case hqd16 => exact fun _ _ _ h => hQ0 _ _ _ _ _ h
 case hyd16 => refine .inl ⟨by rfl, ?_⟩; intro w' hSw; (try dsimp only at hSw); go_simp; try with_reducible rfl
 simp only [Act.put, zsa, zsz, zss];refine wpAnyH_take (i := 17) (oi := ?oid17) (v := ?vvd17) ?hid17 (by kernel_rfl) (by kernel_rfl) (by kernel_rfl) ?hqd17 ?hyd17 hHeld ?_
 case hid17 => simp only [zga, zgs, zgz]; rfl
 case hqd17 => exact fun _ _ _ h => hQ0 _ _ _ _ _ h
 case hyd17 => refine .inl ⟨by rfl, ?_⟩; intro w' hSw; (try dsimp only at hSw); go_simp; try with_reducible rfl
 simp only [Act.put, zsa, zsz, zss];refine wpAnyH_take (i := 18) (oi := ?oid18) (v := ?vvd18) ?hid18 (by kernel_rfl) (by kernel_rfl) (by kernel_rfl) ?hqd18 ?hyd18 hHeld ?_
 case hid18 => simp only [zga, zgs, zgz]; rfl
 case hqd18 => exact fun _ _ _ h => hQ0 _ _ _ _ _ h
 case hyd18 => refine .inl ⟨by rfl, ?_⟩; intro w' hSw; (try dsimp only at hSw); go_simp; try with_reducible rfl
 simp only [Act.put, zsa, zsz, zss];refine wpAnyH_take (i := 19) (oi := ?oid19) (v := ?vvd19) ?hid19 (by kernel_rfl) (by kernel_rfl) (by kernel_rfl) ?hqd19 ?hyd19 hHeld ?_
 case hid19 => simp only [zga, zgs, zgz]; rfl
 case hqd19 => exact fun _ _ _ h => hQ0 _ _ _ _ _ h
 case hyd19 => refine .inl ⟨by rfl, ?_⟩; intro w' hSw; (try dsimp only at hSw); go_simp; try with_reducible rfl
 simp only [Act.put, zsa, zsz, zss];refine wpAnyH_take (i := 20) (oi := ?oid20) (v := ?vvd20) ?hid20 (by kernel_rfl) (by kernel_rfl) (by kernel_rfl) ?hqd20 ?hyd20 hHeld ?_
 case hid20 => simp only [zga, zgs, zgz]; rfl
 case hqd20 => exact fun _ _ _ h => hQ0 _ _ _ _ _ h
 case hyd20 => refine .inl ⟨by rfl, ?_⟩; intro w' hSw; (try dsimp only at hSw); go_simp; try with_reducible rfl
 simp only [Act.put, zsa, zsz, zss];refine wpAnyH_take (i := 21) (oi := ?oid21) (v := ?vvd21) ?hid21 (by kernel_rfl) (by kernel_rfl) (by kernel_rfl) ?hqd21 ?hyd21 hHeld ?_
 case hid21 => simp only [zga, zgs, zgz]; rfl
 case hqd21 => exact fun _ _ _ h => hQ0 _ _ _ _ _ h
 case hyd21 => refine .inl ⟨by rfl, ?_⟩; intro w' hSw; (try dsimp only at hSw); go_simp; try with_reducible rfl
 simp only [Act.put, zsa, zsz, zss];refine wpAnyH_take (i := 22) (oi := ?oid22) (v := ?vvd22) ?hid22 (by kernel_rfl) (by kernel_rfl) (by kernel_rfl) ?hqd22 ?hyd22 hHeld ?_
 case hid22 => simp only [zga, zgs, zgz]; rfl
 case hqd22 => exact fun _ _ _ h => hQ0 _ _ _ _ _ h
 case hyd22 => refine .inl ⟨by rfl, ?_⟩; intro w' hSw; (try dsimp only at hSw); go_simp; try with_reducible rfl
 simp only [Act.put, zsa, zsz, zss];refine wpAnyH_take (i := 23) (oi := ?oid23) (v := ?vvd23) ?hid23 (by kernel_rfl) (by kernel_rfl) (by kernel_rfl) ?hqd23 ?hyd23 hHeld ?_
 case hid23 => simp only [zga, zgs, zgz]; rfl
 case hqd23 => exact fun _ _ _ h => hQ0 _ _ _ _ _ h
 case hyd23 => refine .inl ⟨by rfl, ?_⟩; intro w' hSw; (try dsimp only at hSw); go_simp; try with_reducible rfl
 simp only [Act.put, zsa, zsz, zss];refine wpAnyH_take (i := 24) (oi := ?oid24) (v := ?vvd24) ?hid24 (by kernel_rfl) (by kernel_rfl) (by kernel_rfl) ?hqd24 ?hyd24 hHeld ?_
 case hid24 => simp only [zga, zgs, zgz]; rfl
 case hqd24 => exact fun _ _ _ h => hQ0 _ _ _ _ _ h
 case hyd24 => refine .inl ⟨by rfl, ?_⟩; intro w' hSw; (try dsimp only at hSw); go_simp; try with_reducible rfl
 simp only [Act.put, zsa, zsz, zss];refine wpAnyH_take (i := 25) (oi := ?oid25) (v := ?vvd25) ?hid25 (by kernel_rfl) (by kernel_rfl) (by kernel_rfl) ?hqd25 ?hyd25 hHeld ?_
 case hid25 => simp only [zga, zgs, zgz]; rfl
 case hqd25 => exact fun _ _ _ h => hQ0 _ _ _ _ _ h
 case hyd25 => refine .inl ⟨by rfl, ?_⟩; intro w' hSw; (try dsimp only at hSw); go_simp; try with_reducible rfl
 simp only [Act.put, zsa, zsz, zss];refine wpAnyH_take (i := 26) (oi := ?oid26) (v := ?vvd26) ?hid26 (by kernel_rfl) (by kernel_rfl) (by kernel_rfl) ?hqd26 ?hyd26 hHeld ?_
 case hid26 => simp only [zga, zgs, zgz]; rfl
 case hqd26 => exact fun _ _ _ h => hQ0 _ _ _ _ _ h
 case hyd26 => refine .inl ⟨by rfl, ?_⟩; intro w' hSw; (try dsimp only at hSw); go_simp; try with_reducible rfl
 simp only [Act.put, zsa, zsz, zss];refine wpAnyH_take (i := 27) (oi := ?oid27) (v := ?vvd27) ?hid27 (by kernel_rfl) (by kernel_rfl) (by kernel_rfl) ?hqd27 ?hyd27 hHeld ?_
 case hid27 => simp only [zga, zgs, zgz]; rfl
 case hqd27 => exact fun _ _ _ h => hQ0 _ _ _ _ _ h
 case hyd27 => refine .inl ⟨by rfl, ?_⟩; intro w' hSw; (try dsimp only at hSw); go_simp; try with_reducible rfl
 simp only [Act.put, zsa, zsz, zss];refine wpAnyH_take (i := 28) (oi := ?oid28) (v := ?vvd28) ?hid28 (by kernel_rfl) (by kernel_rfl) (by kernel_rfl) ?hqd28 ?hyd28 hHeld ?_
 case hid28 => simp only [zga, zgs, zgz]; rfl
 case hqd28 => exact fun _ _ _ h => hQ0 _ _ _ _ _ h
 case hyd28 => refine .inl ⟨by rfl, ?_⟩; intro w' hSw; (try dsimp only at hSw); go_simp; try with_reducible rfl
 simp only [Act.put, zsa, zsz, zss];refine wpAnyH_take (i := 29) (oi := ?oid29) (v := ?vvd29) ?hid29 (by kernel_rfl) (by kernel_rfl) (by kernel_rfl) ?hqd29 ?hyd29 hHeld ?_
 case hid29 => simp only [zga, zgs, zgz]; rfl
 case hqd29 => exact fun _ _ _ h => hQ0 _ _ _ _ _ h
 case hyd29 => refine .inl ⟨by rfl, ?_⟩; intro w' hSw; (try dsimp only at hSw); go_simp; try with_reducible rfl
 simp only [Act.put, zsa, zsz, zss];refine wpAnyH_take (i := 30) (oi := ?oid30) (v := ?vvd30) ?hid30 (by kernel_rfl) (by kernel_rfl) (by kernel_rfl) ?hqd30 ?hyd30 hHeld ?_
 case hid30 => simp only [zga, zgs, zgz]; rfl
 case hqd30 => exact fun _ _ _ h => hQ0 _ _ _ _ _ h
 case hyd30 => refine .inl ⟨by rfl, ?_⟩; intro w' hSw; (try dsimp only at hSw); go_simp; try with_reducible rfl
 simp only [Act.put, zsa, zsz, zss];refine wpAnyH_take (i := 31) (oi := ?oid31) (v := ?vvd31) ?hid31 (by kernel_rfl) (by kernel_rfl) (by kernel_rfl) ?hqd31 ?hyd31 hHeld ?_
 case hid31 => simp only [zga, zgs, zgz]; rfl
 case hqd31 => exact fun _ _ _ h => hQ0 _ _ _ _ _ h
 case hyd31 => refine .inl ⟨by rfl, ?_⟩; intro w' hSw; (try dsimp only at hSw); go_simp; try with_reducible rfl
 simp only [Act.put, zsa, zsz, zss];refine wpAnyH_ready (rs := [32]) (by kernel_rfl) (by simp) ?_;refine AllReadyH.cons (o := ?oid32) ?hid32 (fun K hK => ?_) AllReadyH.nil
 case hid32 => simp only [zga, zgs, zgz]; rfl
 go_simp;refine (HW1.out _).mono ?_;rintro e v32 ⟨rfl, rfl⟩;go_wp2_with fail
 refine hK.out _ _ (hHeld) (fun hN => ?_);clear hK K hHeld;have hHeld := hN;clear hN
 try simp only [Act.put, zsa, zsz, zss]
 refine wpAnyH_take (i := 33) (oi := ?oid33) (v := ?vvd33) ?hid33 (by kernel_rfl) (by kernel_rfl) (by kernel_rfl) ?hqd33 ?hyd33 hHeld ?_
 case hid33 => simp only [zga, zgs, zgz]; rfl
 case hqd33 => exact fun _ _ _ h => hQ0 _ _ _ _ _ h
 case hyd33 => refine .inl ⟨by rfl, ?_⟩; intro w' hSw; (try dsimp only at hSw); go_simp; try with_reducible rfl
 simp only [Act.put, zsa, zsz, zss];refine wpAnyH_take (i := 34) (oi := ?oid34) (v := ?vvd34) ?hid34 (by kernel_rfl) (by kernel_rfl) (by kernel_rfl) ?hqd34 ?hyd34 hHeld ?_
 case hid34 => simp only [zga, zgs, zgz]; rfl
 case hqd34 => exact fun _ _ _ h => hQ0 _ _ _ _ _ h
 case hyd34 => refine .inl ⟨by rfl, ?_⟩; intro w' hSw; (try dsimp only at hSw); go_simp; try with_reducible rfl
 simp only [Act.put, zsa, zsz, zss];refine wpAnyH_ready (rs := [35]) (by kernel_rfl) (by simp) ?_;refine AllReadyH.cons (o := ?oid35) ?hid35 (fun K hK => ?_) AllReadyH.nil
 case hid35 => simp only [zga, zgs, zgz]; rfl
 go_simp;refine hK.out _ _ (⟨keep_set hHeld.1 (by simp; omega), keep_set hHeld.2.1 (by simp; omega), keep_set hHeld.2.2.1 (by simp; omega), keep_set hHeld.2.2.2.1 (by simp; omega), keep_set hHeld.2.2.2.2.1 (by simp; omega), keep_set hHeld.2.2.2.2.2.1 (by simp; omega), keep_set hHeld.2.2.2.2.2.2.1 (by simp; omega), keep_set hHeld.2.2.2.2.2.2.2.1 (by simp; omega), keep_set hHeld.2.2.2.2.2.2.2.2 (by simp; omega)⟩) (fun hN => ?_);clear hK K hHeld;have hHeld := hN;clear hN
 try simp only [Act.put, zsa, zsz, zss]
 refine wpAnyH_done (by kernel_rfl) ?_ _;exact HK.out _ _ _ _ _ _ _ _ _ _ _ _ _ _ _ _ _ _ _ _ _ _ _ _ _ _ _ _ _ _ _ _ _ _ _ 

theorem tk_r12 (ib io fb fo B0 B1 B2 : Nat) (xd xs op sub d k regs frame : Int) (z0z z3z z6z z7z z8z z9z z10z z11z z12z z13z z14z z15z z16z z17z z18z z19z z20z z21z z22z z23z z24z z25z z26z z27z z28z z29z z30z z31z z32z z33z z34z z35z z36z z37z z38z z39z z40z z41z z42z z43z z44z z45z z46z z47z z48z z49z z50z z51z z52z z53z z54z z55z z56z z57z z58z z59z z60z z61z z62z z63z z64z z65z z66z z67z z68z z69z z70z z71z z72z z73z : Value) (DF : List Deferred) (K : Act → World → Prop) (Q0 : Exit → Act → World → Prop) (w1 : World)
  (hQ0 : ∀ c (a : Act) (dd : Option Tmp) v x, Q0 (.panic c) (a.put dd v) x → Q0 (.panic c) a x)
  (a0 : w1.cell? ⟨B0, 0, none⟩ = some (.pointer (some ⟨fb, fo, none⟩))) (a1 : w1.cell? ⟨B2, 4, none⟩ = some (.int .i64 xd)) (a2 : w1.cell? ⟨B2, 1, none⟩ = some (.int .i64 xs)) (a3 : w1.cell? ⟨ib, io, none⟩ = some (.int .i64 op)) (a4 : w1.cell? ⟨ib, io + 1, none⟩ = some (.int .i64 sub)) (a5 : w1.cell? ⟨ib, io + 4, none⟩ = some (.int .i64 d)) (a6 : w1.cell? ⟨ib, io + 5, none⟩ = some (.int .i64 k)) (a7 : w1.cell? ⟨fb, fo + 3, none⟩ = some (.int .i64 frame)) (a8 : w1.cell? ⟨fb, fo + 2, none⟩ = some (.int .i64 regs)) (b1 : w1.cell? ⟨B1, 0, none⟩ = some (.bool false)) (z1 : w1.frozen? ⟨B1, 0, none⟩ = false)
  (m0 : B0 ≠ B1) (m2 : B2 ≠ B1) (mi : ib ≠ B1) (mf : fb ≠ B1) (r0 : -9223372036854775808 < regs) (r1 : regs ≤ 9223372036854775807) (r : Bool) (hr : r = (targetB xd d regs && mayB xs sub && (op != 9 || withinB k frame)))
  (HK : Hid (∀ y39 y40 y41 y42 y43 y44 y45 y46 y47 y48 y49 y50 y51 y52 y53 y54 y55 y56 y57 y58 y59 y60 y61 y62 y63 y64 y65 y66 y67 y68 y69 y70 y71 y72 y73, K ⟨#[z0z, .pointer (some ⟨ib, io, none⟩), .pointer (some ⟨B0, 0, none⟩), z3z, .pointer (some ⟨B1, 0, none⟩), .pointer (some ⟨B2, 0, none⟩), z6z, z7z, z8z, z9z, z10z, z11z, z12z, z13z, z14z, z15z, z16z, z17z, z18z, z19z, z20z, z21z, z22z, z23z, z24z, z25z, z26z, z27z, z28z, z29z, z30z, z31z, z32z, z33z, z34z, z35z, z36z, z37z, z38z, y39, y40, y41, y42, y43, y44, y45, y46, y47, y48, y49, y50, y51, y52, y53, y54, y55, y56, y57, y58, y59, y60, y61, y62, y63, y64, y65, y66, y67, y68, y69, y70, y71, y72, y73], DF⟩ (w1.setCell ⟨B1, 0, none⟩ (.bool r)).drew)) :
  Code.wp prog tkR12 (Exit.then K Q0) ⟨#[z0z, .pointer (some ⟨ib, io, none⟩), .pointer (some ⟨B0, 0, none⟩), z3z, .pointer (some ⟨B1, 0, none⟩), .pointer (some ⟨B2, 0, none⟩), z6z, z7z, z8z, z9z, z10z, z11z, z12z, z13z, z14z, z15z, z16z, z17z, z18z, z19z, z20z, z21z, z22z, z23z, z24z, z25z, z26z, z27z, z28z, z29z, z30z, z31z, z32z, z33z, z34z, z35z, z36z, z37z, z38z, z39z, z40z, z41z, z42z, z43z, z44z, z45z, z46z, z47z, z48z, z49z, z50z, z51z, z52z, z53z, z54z, z55z, z56z, z57z, z58z, z59z, z60z, z61z, z62z, z63z, z64z, z65z, z66z, z67z, z68z, z69z, z70z, z71z, z72z, z73z], DF⟩ w1 := by
 cases ht : targetB xd d regs with
 | false =>
  have e : r = false := by rw [hr, ht]; rfl
  subst e;exact tk_r12a ib io fb fo B0 B1 B2 xd xs op sub d k regs frame z0z z3z z6z z7z z8z z9z z10z z11z z12z z13z z14z z15z z16z z17z z18z z19z z20z z21z z22z z23z z24z z25z z26z z27z z28z z29z z30z z31z z32z z33z z34z z35z z36z z37z z38z z39z z40z z41z z42z z43z z44z z45z z46z z47z z48z z49z z50z z51z z52z z53z z54z z55z z56z z57z z58z z59z z60z z61z z62z z63z z64z z65z z66z z67z z68z z69z z70z z71z z72z z73z DF K Q0 w1 hQ0 a0 a1 a2 a3 a4 a5 a6 a7 a8 b1 z1 m0 m2 mi mf r0 r1 ht HK
 | true =>
  cases hm : mayB xs sub with
  | false =>
   have e : r = false := by rw [hr, ht, hm]; rfl
   subst e;exact tk_r12b ib io fb fo B0 B1 B2 xd xs op sub d k regs frame z0z z3z z6z z7z z8z z9z z10z z11z z12z z13z z14z z15z z16z z17z z18z z19z z20z z21z z22z z23z z24z z25z z26z z27z z28z z29z z30z z31z z32z z33z z34z z35z z36z z37z z38z z39z z40z z41z z42z z43z z44z z45z z46z z47z z48z z49z z50z z51z z52z z53z z54z z55z z56z z57z z58z z59z z60z z61z z62z z63z z64z z65z z66z z67z z68z z69z z70z z71z z72z z73z DF K Q0 w1 hQ0 a0 a1 a2 a3 a4 a5 a6 a7 a8 b1 z1 m0 m2 mi mf r0 r1 ht hm HK
  | true =>
   cases qo : (op != 9) with
   | true =>
    have e : r = true := by rw [hr, ht, hm, qo]; rfl
    subst e;exact tk_r12c ib io fb fo B0 B1 B2 xd xs op sub d k regs frame z0z z3z z6z z7z z8z z9z z10z z11z z12z z13z z14z z15z z16z z17z z18z z19z z20z z21z z22z z23z z24z z25z z26z z27z z28z z29z z30z z31z z32z z33z z34z z35z z36z z37z z38z z39z z40z z41z z42z z43z z44z z45z z46z z47z z48z z49z z50z z51z z52z z53z z54z z55z z56z z57z z58z z59z z60z z61z z62z z63z z64z z65z z66z z67z z68z z69z z70z z71z z72z z73z DF K Q0 w1 hQ0 a0 a1 a2 a3 a4 a5 a6 a7 a8 b1 z1 m0 m2 mi mf r0 r1 ht hm qo HK
   | false =>
    have e : r = withinB k frame := by rw [hr, ht, hm, qo]; rfl
    subst e;exact tk_r12d ib io fb fo B0 B1 B2 xd xs op sub d k regs frame z0z z3z z6z z7z z8z z9z z10z z11z z12z z13z z14z z15z z16z z17z z18z z19z z20z z21z z22z z23z z24z z25z z26z z27z z28z z29z z30z z31z z32z z33z z34z z35z z36z z37z z38z z39z z40z z41z z42z z43z z44z z45z z46z z47z z48z z49z z50z z51z z52z z53z z54z z55z z56z z57z z58z z59z z60z z61z z62z z63z z64z z65z z66z z67z z68z z69z z70z z71z z72z z73z DF K Q0 w1 hQ0 a0 a1 a2 a3 a4 a5 a6 a7 a8 b1 z1 m0 m2 mi mf r0 r1 ht hm qo HK

end Go.Proofs.YtfeglcpipcjaeaaGreatDoor
namespace Go.Proofs.YtfeglcpipcjaeaaGreatDoor
open Go.ChangeShapes Go.WideShapes Go.ChangeAt Go.RowKit Go.Proofs.Tryz
set_option linter.unusedSimpArgs false
set_option linter.unusedVariables false

structure TX (w W0 : World) (B1 : Nat) (r : Loop) (W : World) : Prop where
 bel : Below w.heap.size w W
 res : W.cell? ⟨B1, 0, none⟩ = some (.bool false)
 rest : ∀ k, k < W0.heap.size → k ≠ B1 → W.heap[k]? = W0.heap[k]?
 dfr : W.heap[W0.heap.size]? = some (.deferred (some []))
 lp : W.heap[W0.heap.size + 1]? = some (.loop { r with state := .done, pending := some .ret })
theorem all_snoc {f : Int → Bool} {pre : List Int} {y : Int} (h : pre.all f = true) (hy : f y = true) : (pre ++ [y]).all f = true := by
 rw [List.all_append, h]; simp [hy]
theorem all_mid {f : Int → Bool} {l pre rest : List Int} {y : Int} (e : l = pre ++ y :: rest) (hy : f y = false) : l.all f = false := by
 rw [e, List.all_append]; simp [hy]
theorem tk_run0 (w W0 : World) (r : Loop) (B1 sb ib : Nat) (x : Sp) (a b : Int) (v : Value) (l : List Int) (bnd : Int) (hus : UsBox W0 sb ib x a b v l)
  (HRD : ∀ y W, TJ W0 r W → YieldAt Fence.wide 0 prog (W0.heap.size + 1) #[.int .i64 y] W (yieldEnd (fun W' => TJ W0 r W' ∧ inB bnd y = true) (fun W' => TX w W0 B1 r W' ∧ inB bnd y = false))) :
  Calls prog 84 #[.func (.yield (W0.heap.size + 1)) #[] #[], .pointer (some ⟨sb, 0, none⟩), .pointer (some ⟨ib, 0, none⟩)] (loopW W0 r) fun e W => e = .returned (.tuple #[]) ∧ ((TJ W0 r W ∧ (usP x a b l).all (inB bnd) = true) ∨ (TX w W0 B1 r W ∧ (usP x a b l).all (inB bnd) = false)) := by
 obtain ⟨h0, h1, h2, h3, h4, h5⟩ := hus;obtain ⟨va, vc, vb, vo, rfl, hl, _, _⟩ := h5.parts;refine uses1_any (W0.heap.size + 1) sb ib x a b va l.length vc l (loopW W0 r) (fun pre W => TJ W0 r W ∧ pre.all (inB bnd) = true) (fun W => TX w W0 B1 r W ∧ (usP x a b l).all (inB bnd) = false) rfl hl ⟨TJ.enter W0 r, rfl⟩ (fun pre W hJ => UsBox.keep ⟨h0, h1, h2, h3, h4, h5⟩ hJ.1.bel) ?_;intro pre y rest W e hJ;obtain ⟨fn, tm, asg, bo, hy, hR⟩ := HRD y W hJ.1;refine ⟨fn, tm, asg, bo, hy, hR.mono ?_⟩;rintro e2 W' ⟨bb, rfl, ht, hf⟩;exact ⟨bb, rfl, fun hb => ⟨(ht hb).1, all_snoc hJ.2 (ht hb).2⟩, fun hb => ⟨(hf hb).1, all_mid e (hf hb).2⟩⟩
theorem tk_run1 (w W0 : World) (r : Loop) (B1 ib : Nat) (op s t bnd : Int) (hsu : SuBox W0 ib op s t)
  (HRD : ∀ y W, TJ W0 r W → YieldAt Fence.wide 0 prog (W0.heap.size + 1) #[.int .i64 y] W (yieldEnd (fun W' => TJ W0 r W' ∧ inB bnd y = true) (fun W' => TX w W0 B1 r W' ∧ inB bnd y = false))) :
  Calls prog 70 #[.func (.yield (W0.heap.size + 1)) #[] #[], .pointer (some ⟨ib, 0, none⟩)] (loopW W0 r) fun e W => e = .returned (.tuple #[]) ∧ ((TJ W0 r W ∧ (succsF op s t).all (inB bnd) = true) ∨ (TX w W0 B1 r W ∧ (succsF op s t).all (inB bnd) = false)) := by
 refine succs1_any (W0.heap.size + 1) ib op s t (loopW W0 r) (fun pre W => TJ W0 r W ∧ pre.all (inB bnd) = true) (fun W => TX w W0 B1 r W ∧ (succsF op s t).all (inB bnd) = false) ⟨TJ.enter W0 r, rfl⟩ (fun pre W hJ => hsu.keep hJ.1.bel) ?_;intro pre y rest W e hJ;obtain ⟨fn, tm, asg, bo, hy, hR⟩ := HRD y W hJ.1;refine ⟨fn, tm, asg, bo, hy, hR.mono ?_⟩;rintro e2 W' ⟨bb, rfl, ht, hf⟩;exact ⟨bb, rfl, fun hb => ⟨(ht hb).1, all_snoc hJ.2 (ht hb).2⟩, fun hb => ⟨(hf hb).1, all_mid e (hf hb).2⟩⟩
theorem TJ.again {W0 W W' : World} {r : Loop} (h : TJ W0 r W) (h1 : ∀ k, k ≠ W0.heap.size + 1 → W'.heap[k]? = W.heap[k]?) (h2 : W'.heap[W0.heap.size + 1]? = some (.loop r)) (h3 : W'.heap.size = W.heap.size) (h4 : W'.os = W.os) (h5 : W'.tape = W.tape) (h6 : W'.output = W.output) : TJ W0 r W' :=
 ⟨⟨h4.trans h.bel.os, h5.trans h.bel.tape, h6.trans h.bel.output, by rw [h3]; exact h.bel.size, fun k hk => (h1 k (by omega)).trans (h.bel.block k hk)⟩, (h1 _ (by omega)).trans h.dfr, h2⟩
theorem TJ.leave {w W0 W W' : World} {r : Loop} {B1 : Nat} (h : TJ W0 r W) (hw : Below w.heap.size w W0) (hB : w.heap.size ≤ B1) (hB2 : B1 < W0.heap.size) (h1 : ∀ k, k ≠ W0.heap.size + 1 → k ≠ B1 → W'.heap[k]? = W.heap[k]?) (hc : W'.cell? ⟨B1, 0, none⟩ = some (.bool false)) (h2 : W'.heap[W0.heap.size + 1]? = some (.loop { r with state := .done, pending := some .ret })) (h3 : W'.heap.size = W.heap.size) (h4 : W'.os = W.os) (h5 : W'.tape = W.tape) (h6 : W'.output = W.output) : TX w W0 B1 r W' :=
 ⟨⟨h4.trans (h.bel.os.trans hw.os), h5.trans (h.bel.tape.trans hw.tape), h6.trans (h.bel.output.trans hw.output), by rw [h3]; exact Nat.le_trans hw.size h.bel.size, fun k hk => (h1 k (by have := hw.size; omega) (by omega)).trans ((h.bel.block k (by have := hw.size; omega)).trans (hw.block k hk))⟩, hc, fun k hk hk1 => (h1 k (by omega) hk1).trans (h.bel.block k hk), (h1 _ (by omega) (by omega)).trans h.dfr, h2⟩
end Go.Proofs.YtfeglcpipcjaeaaGreatDoor
namespace Go.Proofs.YtfeglcpipcjaeaaGreatDoor
open Go.ChangeShapes Go.WideShapes Go.ChangeAt Go.RowKit
set_option linter.unusedSimpArgs false
set_option linter.unusedVariables false

def glackS (x : Sp) (a b : Int) (l : List Int) : Bool := lackB x.a a || lackB x.b b || (x.args && l.contains (-1))
def gnameB (x : Sp) : Bool := x.name.data.toList.isEmpty
def glastB (x : Sp) (op sub d k regs frame : Int) : Bool := targetB x.d d regs && mayB x.sub sub && (op != 9 || withinB k frame)
def takesF (regs frame n : Int) (i : Ins) : Bool :=
 !gnameB (shOf i.op) && (!glackS (shOf i.op) i.a i.b i.args && ((usP (shOf i.op) i.a i.b (if (shOf i.op).args = true then i.args else [])).all (inB regs) && ((succsF i.op i.s i.t).all (inB n) && glastB (shOf i.op) i.op i.sub i.d i.k regs frame)))
theorem filter_none {l : List Int} (h : l.contains (-1) = false) : l.filter (· != -1) = l := by
 rw [List.filter_eq_self];intro x hx
 have : x ≠ -1 := fun e => by
  subst e;rw [← List.contains_iff_mem, h] at hx
  cases hx
 simpa using this
theorem inB_neg {m : Int} : inB m (-1) = false := by simp [inB]
theorem all_neg {m : Int} {l : List Int} (h : l.contains (-1) = true) : l.all (inB m) = false := by
 rw [List.contains_iff_mem] at h;exact List.all_eq_false.2 ⟨-1, h, by simp [inB_neg]⟩
theorem takes_right (regs frame n : Int) (i : Ins) (h0 : 0 ≤ regs) : takesF regs frame n i = rightF regs frame n i := by
 obtain ⟨op, sub, a, b, d, k, args, s, t⟩ := i
 by_cases h10 : op = 10
 ·subst h10
  cases hc : args.contains (-1) with
  | true =>
   have e1 : takesF regs frame n ⟨10, sub, a, b, d, k, args, s, t⟩ = false := by
    have : (glackS (shOf 10) a b args) = true := by
     show (lackB 0 a || lackB 0 b || (true && args.contains (-1))) = true
     rw [hc];simp
    rw [takesF];simp only [this, Bool.not_true, Bool.false_and, Bool.and_false]
   have e2 : rightF regs frame n ⟨10, sub, a, b, d, k, args, s, t⟩ = false := by
    rw [rightF, rightL]
    have : (usesF 10 a b args).all (inB regs) = false := by
     have hu : usesF 10 a b args = args := by simp [usesF, useA, useB]
     rw [hu];exact all_neg hc
    simp only [this, Bool.false_and, Bool.and_false]
   rw [e1, e2]
  | false =>
   have hf := filter_none hc
   have hu : usP (shOf 10) a b (if (shOf 10).args = true then args else []) = args := by
    show (if readB 0 a = true then [a] else []) ++ ((if readB 0 b = true then [b] else []) ++ args.filter (· != -1)) = args
    rw [hf];simp [readB]
   have hl : glackS (shOf 10) a b args = false := by
    show (lackB 0 a || lackB 0 b || (true && args.contains (-1))) = false
    rw [hc];simp [lackB]
   have hu2 : usesF 10 a b args = args := by simp [usesF, useA, useB]
   rw [takesF, rightF, rightL];simp only [hu, hl, hu2];rw [Bool.eq_iff_iff];simp [shOf, spTab, gnameB, targetB, mayB, subOk, needA, needB, needD, writesF, wrOps, succsF, inB, glastB, lackL]
   constructor
   ·rintro ⟨h1, h2, h3⟩
    refine ⟨by omega, h1, by omega, h2⟩
   ·rintro ⟨h1, h2, h3, h4⟩
    exact ⟨h2, h4, by omega⟩
 rcases op_cases op with rfl | rfl | rfl | rfl | rfl | rfl | rfl | rfl | rfl | rfl | rfl | rfl | rfl | rfl | ho
 case inr.inr.inr.inr.inr.inr.inr.inr.inr.inr.inr.inr.inr.inr =>
  have e1 : gnameB (shOf op) = true := by
   by_cases h : op = 0
   ·subst h; rfl
   ·rw [shOf_none (by omega)]; rfl
  have e2 : subOk op sub k frame = false := by
   unfold subOk;rw [if_neg (by omega), if_neg (by omega), if_neg (by omega), if_neg (by omega), if_neg (by omega)];simp
   omega
  rw [takesF, rightF, rightL];simp only [e1, e2, Bool.not_true, Bool.false_and, Bool.and_false]
 all_goals first
  | exact absurd rfl h10
  | (by_cases ha : a = -1 <;> by_cases hb : b = -1 <;> (rw [Bool.eq_iff_iff]; simp [takesF, rightF, rightL, lackL, shOf, spTab, gnameB, glackS, usP, usesF, useA, useB, readB, lackB, targetB, mayB, subOk, needA, needB, needD, writesF, wrOps, succsF, inB, glastB, withinB, ha, hb]; try omega))
end Go.Proofs.YtfeglcpipcjaeaaGreatDoor
namespace Go.Proofs.YtfeglcpipcjaeaaGreatDoor
open Go.ChangeShapes Go.WideShapes Go.ChangeAt Go.RowKit Go.Proofs.Tryz
set_option linter.unusedSimpArgs false
set_option linter.unusedVariables false
set_option maxRecDepth 100000
set_option maxHeartbeats 20000000

theorem wp_calmG {P : Program} {c : Code} {K : Act → World → Prop} {QQ : Exit → Act → World → Prop} {a : Act} {w : World} (h : Code.wp P c (Exit.then K (fun _ _ _ => False)) a w) : Code.wp P c (Exit.then K QQ) a w :=
 Go.wp_mono h (fun e a w hq => by cases e <;> first | exact hq | exact hq.elim)
def Giv (ib io fb fo : Nat) (op sub a b d k : Int) (va : Option Addr) (vn vc : Nat) (s t regs frame : Int) (ca : Option Addr) (n cap : Nat) (W : World) : Prop := W.cell? ⟨ib, io, none⟩ = some (.int .i64 op) ∧ W.cell? ⟨ib, io + 1, none⟩ = some (.int .i64 sub) ∧ W.cell? ⟨ib, io + 2, none⟩ = some (.int .i64 a) ∧ W.cell? ⟨ib, io + 3, none⟩ = some (.int .i64 b) ∧ W.cell? ⟨ib, io + 4, none⟩ = some (.int .i64 d) ∧ W.cell? ⟨ib, io + 5, none⟩ = some (.int .i64 k) ∧ W.cell? ⟨ib, io + 6, none⟩ = some (.slice va vn vc) ∧ W.cell? ⟨ib, io + 7, none⟩ = some (.int .i64 s) ∧ W.cell? ⟨ib, io + 8, none⟩ = some (.int .i64 t) ∧ W.cell? ⟨fb, fo + 2, none⟩ = some (.int .i64 regs) ∧ W.cell? ⟨fb, fo + 3, none⟩ = some (.int .i64 frame) ∧ W.cell? ⟨fb, fo + 5, none⟩ = some (.slice ca n cap)
theorem Giv.keep {ib io fb fo : Nat} {op sub a b d k : Int} {va : Option Addr} {vn vc : Nat} {s t regs frame : Int} {ca : Option Addr} {n cap : Nat} {W W' : World} (h : Giv ib io fb fo op sub a b d k va vn vc s t regs frame ca n cap W) (hb : Below W.heap.size W W') : Giv ib io fb fo op sub a b d k va vn vc s t regs frame ca n cap W' := by
 obtain ⟨e0, e1, e2, e3, e4, e5, e6, e7, e8, f2, f3, f5⟩ := h;exact ⟨keep_cell hb e0, keep_cell hb e1, keep_cell hb e2, keep_cell hb e3, keep_cell hb e4, keep_cell hb e5, keep_cell hb e6, keep_cell hb e7, keep_cell hb e8, keep_cell hb f2, keep_cell hb f3, keep_cell hb f5⟩
theorem takes_walk (fb fo ib io : Nat) (regs frame : Int) (n cap : Nat) (ca : Option Addr) (op sub a b d k : Int) (va : Option Addr) (vn vc : Nat) (s t : Int) (args : List Int) (x : Sp) (r : Bool) (w : World)
  (HX : Hid (shOf op = x)) (HT : Hid (ShTab w)) (HG : Hid (Giv ib io fb fo op sub a b d k va vn vc s t regs frame ca n cap w)) (HV : Hid (IL w (.slice va vn vc) args)) (r0 : 0 ≤ regs) (r1 : regs ≤ 5000) (hn : (n : Int) ≤ 9223372036854775807)
  (HE : Hid (r = (!gnameB x && (!glackS x a b args && ((usP x a b (if x.args = true then args else [])).all (inB regs) && ((succsF op s t).all (inB n) && glastB x op sub d k regs frame)))))) :
  Calls prog 62 #[.pointer (some ⟨fb, fo, none⟩), .pointer (some ⟨ib, io, none⟩)] w (retP (.bool r) w) := by
 refine callsIn_wide.1 (callsIn_of_wp_marks (n := 3) func62 rfl trivial ?_);simp only [ntmps62, List.size_toArray, List.length_cons, List.length_nil, Nat.reduceAdd, Nat.reduceSub, Array.replicate_succ, Array.replicate_zero, List.push_toArray, List.append_toArray, List.nil_append, List.cons_append];refine wpIn_wide.2 ?_;obtain ⟨e0, e1, e2, e3, e4, e5, e6, e7, e8, f2, f3, f5⟩ := HG.out;have il : ib < w.heap.size := block_lt_of_cell e0;have fl : fb < w.heap.size := block_lt_of_cell f2
 go_upto_region 2 with (go_at_call 79; refine (shapeOf_any op _ (HT.out.keep (by repeat (first | with_reducible exact Below.refl _ _ | with_reducible refine bel_alloc ?_ _ | with_reducible refine bel_set ?_ (by first | exact Nat.le_refl _ | (simp; done) | (simp; omega)) _ | with_reducible refine Below.drew ?_ | refine bel_trans ?_ (by assumption))))).mono ?_; rintro e w1 ⟨rfl, hb1⟩; rw [HX.out]; simp only [spV]; have HB1 : Hid (Below w.heap.size w w1) := hid (bel_trans (by repeat (first | with_reducible exact Below.refl _ _ | with_reducible refine bel_alloc ?_ _ | with_reducible refine bel_set ?_ (by first | exact Nat.le_refl _ | (simp; done) | (simp; omega)) _ | with_reducible refine Below.drew ?_ | refine bel_trans ?_ (by assumption))) hb1); have b0 := keep_cell hb1 (p := ⟨w.heap.size, 0, none⟩) (v := .pointer (some ⟨fb, fo, none⟩)) (by simp); have b1 := keep_cell hb1 (p := ⟨w.heap.size + 1, 0, none⟩) (v := .bool false) (by simp); have z1 := keep_frozen hb1 (p := ⟨w.heap.size + 1, 0, none⟩) (v := .bool false) (by simp) (by simp); have hs1 : w.heap.size + 2 ≤ w1.heap.size := (by have := hb1.size; simp at this; omega); clear hb1)
 refine gwp_named (fun W => Below w.heap.size w W ∧ W.cell? ⟨w.heap.size, 0, none⟩ = some (.pointer (some ⟨fb, fo, none⟩)) ∧ W.cell? ⟨w.heap.size + 1, 0, none⟩ = some (.bool false) ∧ W.frozen? ⟨w.heap.size + 1, 0, none⟩ = false ∧ W.cell? ⟨w1.heap.size, 0, none⟩ = some (.string x.name) ∧ W.cell? ⟨w1.heap.size, 1, none⟩ = some (.int .i64 x.sub) ∧ W.cell? ⟨w1.heap.size, 2, none⟩ = some (.int .i64 x.a) ∧ W.cell? ⟨w1.heap.size, 3, none⟩ = some (.int .i64 x.b) ∧ W.cell? ⟨w1.heap.size, 4, none⟩ = some (.int .i64 x.d) ∧ W.cell? ⟨w1.heap.size, 5, none⟩ = some (.bool x.k) ∧ W.cell? ⟨w1.heap.size, 6, none⟩ = some (.bool x.args) ∧ W.cell? ⟨w1.heap.size, 7, none⟩ = some (.bool x.s) ∧ W.cell? ⟨w1.heap.size, 8, none⟩ = some (.bool x.t)) ⟨bel_alloc HB1.out _, keep_alloc b0 _, keep_alloc b1 _, keep_frozen (bel_alloc (Below.refl _ _) _) b1 z1, by simp, by simp, by simp, by simp, by simp, by simp, by simp, by simp, by simp⟩ ?_
 generalize w1.heap.size = B2 at *
 clear b0 b1 z1 HB1 w1 e0 e1 e2 e3 e4 e5 e6 e7 e8 f2 f3 f5;rintro W ⟨hbW, b0, b1, z1, s0, s1, s2, s3, s4, s5, s6, s7, s8⟩;have HBW := hid hbW;obtain ⟨e0, e1, e2, e3, e4, e5, e6, e7, e8, f2, f3, f5⟩ := HG.out.keep hbW;have HVW := hid (HV.out.keep hbW);have HTW := hid (HT.out.keep hbW);have sz : w.heap.size ≤ W.heap.size := hbW.size;clear hbW
 cases hnm : gnameB x with
 | true =>
  have er : r = false := by rw [HE.out, hnm]; rfl
  subst er
  have en : x.name = ⟨#[]⟩ := by
   have : x.name.data.toList = [] := List.isEmpty_iff.1 hnm
   cases hx : x.name with
   | mk dta =>
    rw [hx] at this;simp at this;rw [this]
  rw [en] at s0;go_wp2;exact ⟨_, (by simp [results, results62, go_sem, b1, z1]), rfl, HBW.out.setCell (Nat.le_succ _) _⟩
 | false =>
  have q1 : x.name.toList.isEmpty = false := by rw [ByteArray.toList_eq]; exact hnm
  have HLK : Hid (∀ W', Below W.heap.size W W' → Calls prog 80 #[spV x, .pointer (some ⟨ib, io, none⟩)] W' (retP (.bool (lackS x a b args)) W')) := fun W' hW' => lacksRegister_any x ib io a b va vn vc args W' (keep_cell hW' e2) (keep_cell hW' e3) (keep_cell hW' e6) (HVW.out.keep hW')
  cases hlk : lackS x a b args with
  | true =>
   rw [hlk] at HLK;have er : r = false := by rw [HE.out, hnm]; simp only [glackS]; rw [show (lackB x.a a || lackB x.b b || (x.args && args.contains (-1))) = true from hlk]; rfl
   subst er
   go_wp2_with (go_at_call 80; refine (HLK.out _ (Below.refl _ _)).mono ?_; rintro e w2 ⟨rfl, hb2⟩; replace z1 := keep_frozen hb2 b1 z1; replace b1 := keep_cell hb2 b1; have HB2 := hid (bel_trans HBW.out hb2); clear hb2)
   exact ⟨_, (by simp [results, results62, go_sem, b1, z1]), rfl, HB2.out.setCell (Nat.le_succ _) _⟩
  | false =>
   rw [hlk] at HLK
   have HE1 : Hid (r = ((usP x a b (if x.args = true then args else [])).all (inB regs) && ((succsF op s t).all (inB n) && glastB x op sub d k regs frame))) := by
    show _ = _
    rw [HE.out, hnm]; simp only [glackS]; rw [show (lackB x.a a || lackB x.b b || (x.args && args.contains (-1))) = false from hlk]; rfl
   clear HE hlk hnm
   go_wp2_with (first | (go_at_call 80; refine (HLK.out _ (Below.refl _ _)).mono ?_; rintro e w2 ⟨rfl, hb2⟩; replace z1 := keep_frozen hb2 b1 z1; replace b0 := keep_cell hb2 b0; replace b1 := keep_cell hb2 b1; replace e0 := keep_cell hb2 e0; replace e1 := keep_cell hb2 e1; replace e2 := keep_cell hb2 e2; replace e3 := keep_cell hb2 e3; replace e4 := keep_cell hb2 e4; replace e5 := keep_cell hb2 e5; replace e6 := keep_cell hb2 e6; replace e7 := keep_cell hb2 e7; replace e8 := keep_cell hb2 e8; replace f2 := keep_cell hb2 f2; replace f3 := keep_cell hb2 f3; replace f5 := keep_cell hb2 f5; replace s1 := keep_cell hb2 s1; replace s4 := keep_cell hb2 s4; have HB2 := hid (bel_trans HBW.out hb2); have HT2 := hid (HTW.out.keep hb2); have HV2 := hid (HVW.out.keep hb2); clear hb2) | (go_at_call 63; refine (uses_made op sub a b d k va vn vc s t args x _ HX HT2 HV2).mono ?_; rintro e w3 ⟨sb, ib2, v3, rfl, hus, hb3⟩; have HUS := hid hus; have HTK : Hid (TK w fb fo B2 x w3) := hid (TK.keep ⟨HB2.out, b0, b1, z1, s1, s4, hs1⟩ hb3); have HG3 := hid (Giv.keep ⟨e0, e1, e2, e3, e4, e5, e6, e7, e8, f2, f3, f5⟩ hb3); clear hus hb3))
   have HTK0 := HTK;have HG0 := HG3;have HB1L0 : Hid (w.heap.size + 1 < w3.heap.size) := block_lt_of_cell HTK.out.b1;clear b0 b1 z1 s1 s4 e0 e1 e2 e3 e4 e5 e6 e7 e8 f2 f3 f5;refine (wpIn_wide (n := 3)).1 ?_;refine range_outer (F := Fence.wide) rfl (by omega) (gf := 84) (lb := #[.pointer (some ⟨sb, 0, none⟩), .pointer (some ⟨ib2, 0, none⟩)]) (by simp [Act.eval]) trivial (enters_of func84 (by kernel_rfl) rfl) ?_;intro fn _;refine callsIn_wide.2 ?_
   refine (tk_run0 w w3 _ (w.heap.size + 1) sb ib2 x a b v3 (if x.args = true then args else []) regs HUS.out (fun y W hW => by
    have k := hW.bel;have kTK := HTK0.out.keep k;obtain ⟨ge0, ge1, ge2, ge3, ge4, ge5, ge6, ge7, ge8, gf2, gf3, gf5⟩ := HG0.out.keep k;refine tk_round0 (w3.heap.size + 1) w.heap.size (w.heap.size + 1) fb fo _ _ regs y _ _ _ _ _ _ _ _ _ _ _ _ _ _ _ _ _ _ _ _ _ _ _ _ _ _ _ _ _ _ _ _ _ _ _ _ _ _ _ _ _ _ _ _ _ _ _ _ _ _ _ _ _ _ _ _ _ _ _ _ _ _ _ _ _ _ _ _ _ _ _ _ W _ hW.lp kTK.b0 kTK.b1 kTK.z1 gf2 (by omega) (by omega) ?_ ?_
    ·intro hin W' h1 h2 h3 h4 h5 h6
     exact ⟨true, rfl, (fun _ => ⟨hW.again h1 h2 h3 h4 h5 h6, hin⟩), (fun h => by cases h)⟩
    ·intro hin W' h1 hc h2 h3 h4 h5 h6
     exact ⟨false, rfl, (fun h => by cases h), (fun _ => ⟨hW.leave HTK0.out.bel (Nat.le_succ _) HB1L0.out h1 hc h2 h3 h4 h5 h6, hin⟩)⟩)).mono ?_
   rintro e W2 ⟨rfl, ⟨hJ, hall⟩ | ⟨hX, hall⟩⟩
   ·refine ⟨⟨_, rfl⟩, _, hJ.lp, by simp [loopRec], .inl ⟨rfl, ?_⟩⟩
    have HE2 : Hid (r = ((succsF op s t).all (inB n) && glastB x op sub d k regs frame)) := by show _ = _; rw [HE1.out, hall]; rfl
    refine gq_named (fun W => TK w fb fo B2 x W ∧ Giv ib io fb fo op sub a b d k va vn vc s t regs frame ca n cap W ∧ W.heap[w3.heap.size]? = some (.deferred (some [])) ∧ w3.heap.size + 1 < W.heap.size) ?_ ?_
    ·have hb4 : ∀ o, Below w3.heap.size w3 (W2.putObj (w3.heap.size + 1) o) := fun o => hJ.bel.trans (bel_put (Nat.le_succ _))
     exact ⟨HTK0.out.keep (hb4 _), HG0.out.keep (hb4 _), (put_other (show w3.heap.size ≠ w3.heap.size + 1 by omega)).trans hJ.dfr, by rw [World.putObj_size]; exact (zge hJ.lp).1⟩
    rintro W4 ⟨k1, k2, k3, k4⟩;have HTK4 := hid k1;have HG4 := hid k2;have HD4 := hid k3;obtain ⟨e0, e1, e2, e3, e4, e5, e6, e7, e8, f2, f3, f5⟩ := k2;clear k1 k3 hJ hall HE1 HUS HTK HG3
    go_wp2_with (go_at_call 50; refine (succs_made op sub a b d k va vn vc s t _).mono ?_; rintro e w5 ⟨ib3, rfl, hsu, hb5⟩; have HSU := hid hsu; have HTK1 := hid (HTK4.out.keep hb5); have HG1 := hid (HG4.out.keep hb5); have HD5 : Hid (w5.heap[w3.heap.size]? = some (.deferred (some []))) := hid ((hb5.block _ (by omega)).trans HD4.out); have hs5 : w3.heap.size + 1 < w5.heap.size := Nat.lt_of_lt_of_le k4 hb5.size; clear hsu hb5)
    have HB1L1 : Hid (w.heap.size + 1 < w5.heap.size) := block_lt_of_cell HTK1.out.b1;clear e0 e1 e2 e3 e4 e5 e6 e7 e8 f2 f3 f5;refine (wpIn_wide (n := 3)).1 ?_;refine range_outer (F := Fence.wide) rfl (by omega) (gf := 70) (lb := #[.pointer (some ⟨ib3, 0, none⟩)]) (by simp [Act.eval]) trivial (enters_of func70 (by kernel_rfl) rfl) ?_;intro fn2 _;refine callsIn_wide.2 ?_
    refine (tk_run1 w w5 _ (w.heap.size + 1) ib3 op s t n HSU.out (fun y W hW => by
     have k := hW.bel;have kTK := HTK1.out.keep k;obtain ⟨ge0, ge1, ge2, ge3, ge4, ge5, ge6, ge7, ge8, gf2, gf3, gf5⟩ := HG1.out.keep k;refine tk_round1 (w5.heap.size + 1) w.heap.size (w.heap.size + 1) fb fo _ _ n cap ca y _ _ _ _ _ _ _ _ _ _ _ _ _ _ _ _ _ _ _ _ _ _ _ _ _ _ _ _ _ _ _ _ _ _ _ _ _ _ _ _ _ _ _ _ _ _ _ _ _ _ _ _ _ _ _ _ _ _ _ _ _ _ _ _ _ _ _ _ _ _ _ _ W _ hW.lp kTK.b0 kTK.b1 kTK.z1 gf5 hn ?_ ?_
     ·intro hin W' h1 h2 h3 h4 h5 h6
      exact ⟨true, rfl, (fun _ => ⟨hW.again h1 h2 h3 h4 h5 h6, hin⟩), (fun h => by cases h)⟩
     ·intro hin W' h1 hc h2 h3 h4 h5 h6
      exact ⟨false, rfl, (fun h => by cases h), (fun _ => ⟨hW.leave HTK1.out.bel (Nat.le_succ _) HB1L1.out h1 hc h2 h3 h4 h5 h6, hin⟩)⟩)).mono ?_
    rintro e W6 ⟨rfl, ⟨hJ, hall⟩ | ⟨hX, hall⟩⟩
    ·refine ⟨⟨_, rfl⟩, _, hJ.lp, by simp [loopRec], .inl ⟨rfl, ?_⟩⟩
     have er : r = glastB x op sub d k regs frame := by rw [HE2.out, hall]; rfl
     have HER := hid er;refine gq_named (fun W => TK w fb fo B2 x W ∧ Giv ib io fb fo op sub a b d k va vn vc s t regs frame ca n cap W ∧ W.heap[w3.heap.size]? = some (.deferred (some [])) ∧ W.heap[w5.heap.size]? = some (.deferred (some []))) ?_ ?_
     ·have hb7 : ∀ o, Below w5.heap.size w5 (W6.putObj (w5.heap.size + 1) o) := fun o => hJ.bel.trans (bel_put (Nat.le_succ _))
      exact ⟨HTK1.out.keep (hb7 _), HG1.out.keep (hb7 _), ((hb7 _).block _ (by omega)).trans HD5.out, (put_other (show w5.heap.size ≠ w5.heap.size + 1 by omega)).trans hJ.dfr⟩
     rintro W7 ⟨k1, k2, k3, k4⟩;have HTK7 := hid k1;have HD7 := hid k3;have HD8 := hid k4;obtain ⟨e0, e1, e2, e3, e4, e5, e6, e7, e8, f2, f3, f5⟩ := k2;clear k1 k3 k4 hJ hall er HE2
     go_upto_region 12 with fail
     refine wp_calmG ?_;refine tk_r12 ib io fb fo w.heap.size (w.heap.size + 1) B2 x.d x.sub op sub d k regs frame _ _ _ _ _ _ _ _ _ _ _ _ _ _ _ _ _ _ _ _ _ _ _ _ _ _ _ _ _ _ _ _ _ _ _ _ _ _ _ _ _ _ _ _ _ _ _ _ _ _ _ _ _ _ _ _ _ _ _ _ _ _ _ _ _ _ _ _ _ _ _ _ (fun _ _ _ => False) W7 (fun _ _ _ _ _ h => h) HTK7.out.b0 HTK7.out.s4 HTK7.out.s1 e0 e1 e4 e5 f3 f2 HTK7.out.b1 HTK7.out.z1 (by omega) (by have := HTK7.out.n2; omega) (by omega) (by omega) (by omega) (by omega) r HER.out ?_;intro y39 y40 y41 y42 y43 y44 y45 y46 y47 y48 y49 y50 y51 y52 y53 y54 y55 y56 y57 y58 y59 y60 y61 y62 y63 y64 y65 y66 y67 y68 y69 y70 y71 y72 y73;have HB7 := hid HTK7.out.bel;have hlt : w.heap.size + 1 < w5.heap.size := HB1L1.out;have hlt3 : w.heap.size + 1 < w3.heap.size := HB1L0.out;have hh5 : w5.heap.size ≠ w.heap.size + 1 := by omega
     have hh3 : w3.heap.size ≠ w.heap.size + 1 := by omega
     have h35 : w3.heap.size ≠ w5.heap.size := by omega
     have c7 : (W7.setCell ⟨w.heap.size + 1, 0, none⟩ (.bool r)).drew.cell? ⟨w.heap.size + 1, 0, none⟩ = some (.bool r) := by
      have b1 := HTK7.out.b1;go_simp
     obtain ⟨WF, hWF⟩ : ∃ W, (W7.setCell ⟨w.heap.size + 1, 0, none⟩ (.bool r)).drew = W := ⟨_, rfl⟩;have HF1 : Hid (WF.heap[w5.heap.size]? = some (.deferred (some []))) := by show _ = _; rw [← hWF]; exact (gset_other hh5).trans HD8.out
     have HF2 : Hid (WF.heap[w3.heap.size]? = some (.deferred (some []))) := by show _ = _; rw [← hWF]; exact (gset_other hh3).trans HD7.out
     have HF3 : Hid (WF.cell? ⟨w.heap.size + 1, 0, none⟩ = some (.bool r)) := by show _ = _; rw [← hWF]; exact c7
     clear c7;have HF4 : Hid (Below w.heap.size w WF) := by show Below _ _ _; rw [← hWF]; exact Below.drew (HB7.out.setCell (Nat.le_succ _) _)
     rw [hWF];clear hWF e0 e1 e2 e3 e4 e5 e6 e7 e8 f2 f3 f5;dsimp only;go_wp2;have d2 : (WF.putObj w5.heap.size (.deferred none)).heap[w3.heap.size]? = some (.deferred (some [])) := (put_other h35).trans HF2.out;have cB1 : ((WF.putObj w5.heap.size (.deferred none)).putObj w3.heap.size (.deferred none)).cell? ⟨w.heap.size + 1, 0, none⟩ = some (.bool r) := (World.cell?_of_block (put_other (Ne.symm hh3))).trans ((World.cell?_of_block (put_other (Ne.symm hh5))).trans HF3.out);refine ⟨by simp, .inl ⟨_, _, rfl, run_takeDeferred HF1.out, ?_⟩⟩;refine ⟨by simp, .inl ⟨_, _, rfl, run_takeDeferred d2, ?_⟩⟩;exact ⟨_, (by simp [results, results62, go_sem, cB1]), rfl, (HF4.out.trans (bel_put (show w.heap.size ≤ w5.heap.size by omega))).trans (bel_put (show w.heap.size ≤ w3.heap.size by omega))⟩
    ·have er : r = false := by rw [HE2.out, hall]; rfl
     refine ⟨⟨_, rfl⟩, _, hX.lp, by simp, .inr ⟨_, rfl, ?_⟩⟩;subst er;refine wpIn_wide.2 ?_;have hlt : w.heap.size + 1 < w5.heap.size := HB1L1.out;have hlt3 : w.heap.size + 1 < w3.heap.size := HB1L0.out;refine gwp_named (fun W => Below w.heap.size w W ∧ W.cell? ⟨w.heap.size + 1, 0, none⟩ = some (.bool false) ∧ W.heap[w5.heap.size]? = some (.deferred (some [])) ∧ W.heap[w3.heap.size]? = some (.deferred (some []))) ⟨hX.bel.trans (bel_put (show w.heap.size ≤ w5.heap.size + 1 by omega)), (World.cell?_of_block (put_other (show w.heap.size + 1 ≠ w5.heap.size + 1 by omega))).trans hX.res, (put_other (show w5.heap.size ≠ w5.heap.size + 1 by omega)).trans hX.dfr, (put_other (show w3.heap.size ≠ w5.heap.size + 1 by omega)).trans ((hX.rest _ (by omega) (by omega)).trans HD5.out)⟩ ?_;rintro W7 ⟨hb3, hc3, hd3, hd4⟩;have H3 := hid hb3;have H4 := hid hc3;have H5 := hid hd3;have H6 := hid hd4;clear hb3 hc3 hd3 hd4;go_wp2;have d2 : (W7.putObj w5.heap.size (.deferred none)).heap[w3.heap.size]? = some (.deferred (some [])) := (put_other (show w3.heap.size ≠ w5.heap.size by omega)).trans H6.out;have cB1 : ((W7.putObj w5.heap.size (.deferred none)).putObj w3.heap.size (.deferred none)).cell? ⟨w.heap.size + 1, 0, none⟩ = some (.bool false) := (World.cell?_of_block (put_other (show w.heap.size + 1 ≠ w3.heap.size by omega))).trans ((World.cell?_of_block (put_other (show w.heap.size + 1 ≠ w5.heap.size by omega))).trans H4.out);refine ⟨by simp, .inl ⟨_, _, rfl, run_takeDeferred H5.out, ?_⟩⟩;refine ⟨by simp, .inl ⟨_, _, rfl, run_takeDeferred d2, ?_⟩⟩;exact ⟨_, (by simp [results, results62, go_sem, cB1]), rfl, (H3.out.trans (bel_put (show w.heap.size ≤ w5.heap.size by omega))).trans (bel_put (show w.heap.size ≤ w3.heap.size by omega))⟩
   ·have er : r = false := by rw [HE1.out, hall]; rfl
    refine ⟨⟨_, rfl⟩, _, hX.lp, by simp, .inr ⟨_, rfl, ?_⟩⟩;subst er;refine wpIn_wide.2 ?_;have hlt : w.heap.size + 1 < w3.heap.size := HB1L0.out;refine gwp_named (fun W => Below w.heap.size w W ∧ W.cell? ⟨w.heap.size + 1, 0, none⟩ = some (.bool false) ∧ W.heap[w3.heap.size]? = some (.deferred (some []))) ⟨hX.bel.trans (bel_put (show w.heap.size ≤ w3.heap.size + 1 by omega)), (World.cell?_of_block (put_other (show w.heap.size + 1 ≠ w3.heap.size + 1 by omega))).trans hX.res, (put_other (show w3.heap.size ≠ w3.heap.size + 1 by omega)).trans hX.dfr⟩ ?_;rintro W3 ⟨hb3, hc3, hd3⟩;have H3 := hid hb3;have H4 := hid hc3;have H5 := hid hd3;clear hb3 hc3 hd3;go_wp2;have hlt : w.heap.size + 1 < w3.heap.size := HB1L0.out;have cB1 : (W3.putObj w3.heap.size (.deferred none)).cell? ⟨w.heap.size + 1, 0, none⟩ = some (.bool false) := (World.cell?_of_block (put_other (show w.heap.size + 1 ≠ w3.heap.size by omega))).trans H4.out;refine ⟨by simp, .inl ⟨_, _, rfl, run_takeDeferred H5.out, ?_⟩⟩;exact ⟨_, (by simp [results, results62, go_sem, cB1]), rfl, H3.out.trans (bel_put (show w.heap.size ≤ w3.heap.size by omega))⟩
theorem takes_any {w : World} {fb fo ib io : Nat} {f : Fn} {i : Ins} (hf : FnAt w fb fo f) (hi : InsAt w ib io i) (ht : ShTab w) (r0 : 0 ≤ f.regs) (r1 : f.regs ≤ 5000) :
  Calls prog 62 #[.pointer (some ⟨fb, fo, none⟩), .pointer (some ⟨ib, io, none⟩)] w (retP (.bool (rightF f.regs f.frame f.code.length i)) w) := by
 obtain ⟨pv, cv, _, hc, _, _, _, f2, f3, _, f5⟩ := hf;obtain ⟨ca, cap, rfl, hl, _, _⟩ := hc;obtain ⟨v, hv, e0, e1, e2, e3, e4, e5, e6, e7, e8⟩ := hi;obtain ⟨va, vc, rfl, hvl⟩ := len_parts hv;rw [← takes_right _ _ _ _ r0];obtain ⟨op, sub, a, b, d, k, args, s, t⟩ := i;exact takes_walk fb fo ib io f.regs f.frame f.code.length cap ca op sub a b d k va args.length vc s t args _ _ w rfl ht ⟨e0, e1, e2, e3, e4, e5, e6, e7, e8, f2, f3, f5⟩ hv r0 r1 (by omega) rfl
end Go.Proofs.YtfeglcpipcjaeaaGreatDoor
namespace Go.Proofs.YtfeglcpipcjaeaaGreatDoor
open Go.ChangeShapes Go.WideShapes Go.ChangeAt Go.RowKit Go.Proofs.Tryz
set_option linter.unusedSimpArgs false
set_option linter.unusedVariables false
set_option maxRecDepth 100000
set_option maxHeartbeats 4000000


def MarksAt (w : World) (B n : Nat) (l : List Int) : Prop := ∀ j, j < n → w.cell? ⟨B, j, none⟩ = some (.bool (l.contains (j : Int))) ∧ w.frozen? ⟨B, j, none⟩ = false
def falses (n : Nat) : Array Value := madeCells #[.bool false] n
theorem falses_size (n : Nat) : (falses n).size = n := size_madeCells _ _
theorem falses_get (n j : Nat) (h : j < n) : (falses n)[j]? = some (.bool false) := by
 rw [Array.getElem?_eq_getElem (by rw [falses_size]; exact h)];simp [falses, madeCells, Nat.mod_one]
theorem infoBool : (prog.info? 4).map (fun i => (i.zero, i.size, i.bytes)) = some (some (.bool false), 1, 1) := by kernel_rfl
theorem make_marks (n : Nat) (hn : n ≤ 5000) (w : World) : (Instr.makeSlice 34 (.int .i64 n) (.int .i64 n)).run prog w = .ok (.slice (some ⟨w.heap.size, 0, none⟩) n n) (w.alloc (.cells (falses n) 4)) := by
 obtain ⟨i0, hi, hz0, hz1, hz2⟩ := info_parts infoBool;have := run_make (P := prog) w 34 4 i0 (.bool false) underlying34 hi hz0 .i64 .i64 n n (by omega) (by omega) (by rw [hz2]; omega) (by omega);rw [this, hz1];simp [falses, Value.cells]
theorem marks_start (w : World) (n : Nat) : MarksAt (w.alloc (.cells (falses n) 4 (0, 0))) w.heap.size n [] := fun j hj => by
 have h : (w.alloc (.cells (falses n) 4 (0, 0))).heap[w.heap.size]? = some (.cells (falses n) 4 (0, 0)) := by
  show (w.heap.push _)[w.heap.size]? = _
  simp
 constructor
 ·unfold World.cell?
  rw [h];simpa using falses_get n j hj
 ·unfold World.frozen?
  rw [h];simp
theorem marks_step {w : World} {B n m i : Nat} {l : List Int} (h : MarksAt w B n (l.take i)) (hm : m < n) (hget : l[i]? = some (m : Int)) : MarksAt (w.setCell ⟨B, m, none⟩ (.bool true)) B n (l.take (i + 1)) := fun j hj => by
 obtain ⟨h1, h2⟩ := h j hj;obtain ⟨g1, g2⟩ := h m hm;have e : l.take (i + 1) = l.take i ++ [(m : Int)] := by rw [List.take_add_one, hget]; rfl
 rw [e]
 constructor
 ·by_cases hjm : j = m
  ·subst hjm
   rw [show ((l.take i ++ [(j : Int)]).contains (j : Int)) = true by simp];go_simp
  ·rw [show ((l.take i ++ [(m : Int)]).contains (j : Int)) = (l.take i).contains (j : Int) by
    rw [Bool.eq_iff_iff];simp only [List.contains_iff_mem, List.mem_append, List.mem_singleton];exact ⟨fun h => h.elim id fun h => absurd (Int.ofNat_inj.1 h) hjm, Or.inl⟩]
   rw [World.cell?_setCell_other _ _ _ _ (by simp [hjm])];exact h1
 ·simp only [World.frozen?_setCell]; exact h2
theorem hasParams_walk (fb fo : Nat) (pa : Option Addr) (np pcap pb po n : Nat) (params : List Int) (r : Bool) (w : World) (c1 : w.cell? ⟨fb, fo + 1, none⟩ = some (.slice pa np pcap)) (c2 : w.cell? ⟨fb, fo + 2, none⟩ = some (.int .i64 n)) (hn : n ≤ 5000) (hp : np * 8 ≤ 140737488355328) (HN : Hid (np = params.length)) (HA : Hid (0 < np → pa = some ⟨pb, po, none⟩)) (HC : Hid (∀ (i : Nat) x, params[i]? = some x → w.cell? ⟨pb, po + i, none⟩ = some (.int .i64 x)))
  (HP1 : Hid (∀ (i : Nat) x, params[i]? = some x → inB n x = false → r = false))
  (HP2 : Hid (∀ (i j : Nat) x, i < j → params[i]? = some x → params[j]? = some x → r = false))
  (HP3 : Hid ((∀ (i : Nat) x, i < np → params[i]? = some x → inB n x = true) → (∀ (i j : Nat) x y, i < j → j < np → params[i]? = some x → params[j]? = some y → x ≠ y) → r = true)) :
  Calls prog 61 #[.pointer (some ⟨fb, fo, none⟩)] w (retP (.bool r) w) := by
 have hnm : (np : Int) ≤ 9223372036854775807 := by omega
 have mk := make_marks n hn;have fl : fb < w.heap.size := block_lt_of_cell c1
 go_enter func61, ntmps61
 go_wp2
 go_loopw [16] (fun vv wz => ∃ i : Nat, i ≤ np ∧ vv = .int .i64 i ∧ Hid (∀ (j : Nat) x, j < i → params[j]? = some x → inB n x = true) ∧ Hid (∀ (k j : Nat) x y, k < j → j < i → params[k]? = some x → params[j]? = some y → x ≠ y) ∧ Hid (MarksAt wz w.heap.size n (params.take i)) ∧ Hid (Below w.heap.size w wz)) (fun vv _ => np - (intOf vv).toNat)
 case atStart => exact ⟨0, by omega, rfl, fun j x hj => by omega, fun k j x y h1 h2 => by omega, marks_start w n, bel_alloc (Below.refl _ _) _⟩
 case round =>
  obtain ⟨i, hi, rfl, HI, HJ, HM, HBz⟩ := hrel
  rename World => wz
  by_cases hin : i < np
  ·obtain rfl := HA.out (by omega)
   have j0 : (0 : Int) ≤ i := by omega
   have j1 : (i : Int) < np := by omega
   have hget := List.getElem?_eq_getElem (l := params) (show i < params.length by rw [← HN.out]; exact hin)
   generalize params[i]'(by rw [← HN.out]; exact hin) = y at hget
   have cx := keep_cell HBz.out (HC.out i y hget);have HG := hid hget;have HW : Hid (Calls prog 78 #[.pointer (some ⟨fb, fo, none⟩), .int .i64 y] wz fun e w' => e = .returned (.bool (inB n y)) ∧ w' = wz) := hasRegister_any fb fo n y wz (keep_cell HBz.out c2) (by omega) (by omega);clear hget
   cases hq : inB n y with
   | false =>
    rw [hq] at HW;have er := HP1.out i y HG.out hq;subst er
    go_wp2_with (go_at_call 78; refine HW.out.mono ?_; rintro e w1 ⟨rfl, hw⟩; replace hw := hw.symm; subst hw)
    go_ret;exact ⟨rfl, HBz.out⟩
   | true =>
    rw [hq] at HW;have hr : 0 ≤ y ∧ y < n := by simp [inB] at hq; omega
    obtain ⟨m, rfl⟩ : ∃ m : Nat, y = m := ⟨y.toNat, by omega⟩;have m0 : (0 : Int) ≤ m := by omega
    have m1 : (m : Int) < n := by omega
    have HI2 := hid (all_step HG.out hq HI.out);obtain ⟨g1, g2⟩ := HM.out m (by omega)
    cases hs : (params.take i).contains (m : Int) with
    | true =>
     rw [hs] at g1
     have er : r = false := by
      rw [List.contains_iff_mem] at hs;obtain ⟨k, hk⟩ := List.getElem?_of_mem hs;have hki : k < i := by have := (List.getElem?_eq_some_iff.1 hk).1; simp at this; omega
      rw [List.getElem?_take, if_pos hki] at hk;exact HP2.out k i m hki hk HG.out
     subst er;clear hs hq hr
     go_wp2_with (go_at_call 78; refine HW.out.mono ?_; rintro e w1 ⟨rfl, hw⟩; replace hw := hw.symm; subst hw)
     go_ret;exact ⟨rfl, HBz.out⟩
    | false =>
     rw [hs] at g1
     have HJ2 : Hid (∀ (a j : Nat) x y, a < j → j < i + 1 → params[a]? = some x → params[j]? = some y → x ≠ y) := fun a j x' y' h1 h2 h3 h4 => by
      by_cases e : j = i
      ·subst e; rw [HG.out] at h4; cases h4
       intro e2; subst e2;have : (m : Int) ∈ params.take j := List.mem_of_getElem? (i := a) (by rw [List.getElem?_take, if_pos h1]; exact h3);rw [← List.contains_iff_mem, hs] at this
       cases this
      ·exact HJ.out a j x' y' h1 (by omega) h3 h4
     have HM2 := hid (marks_step HM.out (by omega) HG.out);clear hs hq hr
     go_wp2_with (go_at_call 78; refine HW.out.mono ?_; rintro e w1 ⟨rfl, hw⟩; replace hw := hw.symm; subst hw)
     go_roundw
     case rel => exact ⟨i + 1, by omega, by simp, HI2, HJ2, HM2, hid (bel_set HBz.out (by simp) _)⟩
     case measure => simp [intOf]; omega
  ·obtain rfl : np = i := by omega
   have er : r = true := HP3.out HI.out HJ.out;subst er;go_wp2;go_ret;exact ⟨rfl, HBz.out⟩
theorem hasParams_any {w : World} {fb fo : Nat} {pv : Value} {params : List Int} {regs : Int} (c1 : w.cell? ⟨fb, fo + 1, none⟩ = some pv) (c2 : w.cell? ⟨fb, fo + 2, none⟩ = some (.int .i64 regs)) (h : IL w pv params) (h0 : 0 ≤ regs) (h1 : regs ≤ 5000) :
  Calls prog 61 #[.pointer (some ⟨fb, fo, none⟩)] w (retP (.bool (parF regs params)) w) := by
 obtain ⟨pa, pcap, pb, po, rfl, hl, ha, hc⟩ := h.parts;obtain ⟨n, rfl⟩ : ∃ n : Nat, regs = n := ⟨regs.toNat, by omega⟩;refine hasParams_walk fb fo pa _ pcap pb po n params _ w c1 c2 (by omega) hl rfl ha hc (fun i x h1 h2 => ?_) (fun i j x h0 h1 h2 => ?_) (fun h1 h2 => ?_)
 ·rw [parF, all_bad h1 h2]; rfl
 ·rw [parF, Bool.and_eq_false_iff]
  right
  rw [decide_eq_false_iff_not];intro hnd;exact nodup_get.1 hnd i j x x h0 h1 h2 rfl
 ·rw [parF, all_good rfl h1, Bool.true_and, decide_eq_true_eq]
  exact nodup_get.2 fun i j x y h3 h4 h5 => h2 i j x y h3 (List.getElem?_eq_some_iff.1 h5).1 h4 h5
end Go.Proofs.YtfeglcpipcjaeaaGreatDoor
namespace Go.Proofs.YtfeglcpipcjaeaaGreatDoor
open Go.ChangeShapes Go.WideShapes Go.ChangeAt Go.RowKit Go.Proofs.Tryz
set_option linter.unusedSimpArgs false
set_option linter.unusedVariables false
set_option maxRecDepth 100000
set_option maxHeartbeats 8000000


theorem insstep {f : Ins → Bool} {l : List Ins} {i : Nat} {x : Ins} (hget : l[i]? = some x) (hf : f x = true) (h : ∀ (j : Nat) y, j < i → l[j]? = some y → f y = true) : ∀ (j : Nat) y, j < i + 1 → l[j]? = some y → f y = true := fun j y hj hy => by
 by_cases e : j = i
 ·subst e; rw [hget] at hy; cases hy; exact hf
 ·exact h j y (by omega) hy

theorem head_eq (regs frame entry n : Int) : (sizesB regs frame n && inB n entry) = !headL regs frame entry n := by
 unfold sizesB inB headL withinB;rw [Bool.eq_iff_iff];simp
 omega
theorem isRight_walk (fb fo : Nat) (ca : Option Addr) (n cap cb co : Nat) (entry : Int) (code : List Ins) (sz nd pr r : Bool) (cf : Ins → Bool) (w : World) (f4 : w.cell? ⟨fb, fo + 4, none⟩ = some (.int .i64 entry)) (f5 : w.cell? ⟨fb, fo + 5, none⟩ = some (.slice ca n cap)) (hn : n * 88 ≤ 140737488355328) (HN : Hid (n = code.length)) (HA : Hid (0 < n → ca = some ⟨cb, co, none⟩))
  (HSZ : Hid (∀ W : World, W = w → Calls prog 59 #[.pointer (some ⟨fb, fo, none⟩)] W fun e w' => e = .returned (.bool sz) ∧ w' = W))
  (HND : Hid (∀ W : World, W = w → Calls prog 60 #[.pointer (some ⟨fb, fo, none⟩), .int .i64 entry] W fun e w' => e = .returned (.bool nd) ∧ w' = W))
  (HPR : Hid (sz = true → Calls prog 61 #[.pointer (some ⟨fb, fo, none⟩)] w (retP (.bool pr) w)))
  (HTK : Hid (sz = true → ∀ W (i : Nat) x, Below w.heap.size w W → code[i]? = some x → Calls prog 62 #[.pointer (some ⟨fb, fo, none⟩), .pointer (some ⟨cb, co + i * 9, none⟩)] W (retP (.bool (cf x)) W)))
  (HE : Hid (r = ((sz && nd) && (pr && code.all cf)))) :
  Calls prog 37 #[.pointer (some ⟨fb, fo, none⟩)] w (retP (.bool r) w) := by
 have hnm : (n : Int) ≤ 9223372036854775807 := by omega
 cases sz with
 | false =>
  have er : r = false := by rw [HE.out]; rfl
  subst er
  go_enter func37, ntmps37
  go_wp2_with (go_at_call 59; refine (HSZ.out _ rfl).mono ?_; rintro e w1 ⟨rfl, hw⟩; subst hw)
  go_ret;exact ⟨rfl, Below.refl _ _⟩
 | true =>
  replace HPR := hid (HPR.out rfl);replace HTK := hid (HTK.out rfl)
  cases nd with
  | false =>
   have er : r = false := by rw [HE.out]; rfl
   subst er
   go_enter func37, ntmps37
   go_wp2_with (first | (go_at_call 59; refine (HSZ.out _ rfl).mono ?_; rintro e w1 ⟨rfl, hw⟩; subst hw) | (go_at_call 60; refine (HND.out _ rfl).mono ?_; rintro e w1 ⟨rfl, hw⟩; subst hw))
   go_ret;exact ⟨rfl, Below.refl _ _⟩
  | true =>
   cases pr with
   | false =>
    have er : r = false := by rw [HE.out]; rfl
    subst er
    go_enter func37, ntmps37
    go_wp2_with (first | (go_at_call 59; refine (HSZ.out _ rfl).mono ?_; rintro e w1 ⟨rfl, hw⟩; subst hw) | (go_at_call 60; refine (HND.out _ rfl).mono ?_; rintro e w1 ⟨rfl, hw⟩; subst hw) | (go_at_call 61; refine HPR.out.mono ?_; rintro e w2 ⟨rfl, hb2⟩; have HB2 := hid hb2; clear hb2))
    go_ret;exact ⟨rfl, HB2.out⟩
   | true =>
    have HE2 : Hid (r = code.all cf) := by show _ = _; rw [HE.out]; rfl
    have HB : Hid (∀ (i : Nat) x, code[i]? = some x → cf x = false → r = false) := fun i x h1 h2 => by rw [HE2.out]; exact List.all_eq_false.2 ⟨x, List.mem_of_getElem? h1, by simp [h2]⟩
    clear HE
    go_enter func37, ntmps37
    go_wp2_with (first | (go_at_call 59; refine (HSZ.out _ rfl).mono ?_; rintro e w1 ⟨rfl, hw⟩; subst hw) | (go_at_call 60; refine (HND.out _ rfl).mono ?_; rintro e w1 ⟨rfl, hw⟩; subst hw) | (go_at_call 61; refine HPR.out.mono ?_; rintro e w2 ⟨rfl, hb2⟩; have HB2 := hid hb2; replace f5 := keep_cell hb2 f5; clear hb2))
    go_loopw [26] (fun vv wz => ∃ i : Nat, i ≤ n ∧ vv = .int .i64 i ∧ Hid (∀ (j : Nat) x, j < i → code[j]? = some x → cf x = true) ∧ Hid (Below w2.heap.size w2 wz)) (fun vv _ => n - (intOf vv).toNat)
    case atStart => exact ⟨0, by omega, rfl, fun j x hj => by omega, Below.refl _ _⟩
    case round =>
     obtain ⟨i, hi, rfl, HI, HBz⟩ := hrel
     rename World => wz
     have g5 := keep_cell HBz.out f5
     by_cases hin : i < n
     ·obtain rfl := HA.out (by omega)
      have j0 : (0 : Int) ≤ i := by omega
      have j1 : (i : Int) < n := by omega
      have hget := List.getElem?_eq_getElem (l := code) (show i < code.length by rw [← HN.out]; exact hin)
      generalize code[i]'(by rw [← HN.out]; exact hin) = x at hget
      have HG := hid hget;have HT1 := hid (HTK.out wz i x (bel_trans HB2.out HBz.out) hget);clear hget
      cases hq : cf x with
      | false =>
       rw [hq] at HT1;have er := HB.out i x HG.out hq;subst er
       go_wp2_with (go_at_call 62; refine HT1.out.mono ?_; rintro e w3 ⟨rfl, hb3⟩; have HB3 := hid (bel_trans (bel_trans HB2.out HBz.out) hb3); clear hb3)
       go_ret;exact ⟨rfl, HB3.out⟩
      | true =>
       rw [hq] at HT1;have HI2 := hid (insstep HG.out hq HI.out)
       go_wp2_with (go_at_call 62; refine HT1.out.mono ?_; rintro e w3 ⟨rfl, hb3⟩; have HB3 := hid (bel_trans HBz.out hb3); clear hb3)
       go_roundw
       case rel => exact ⟨i + 1, by omega, by simp, HI2, HB3⟩
       case measure => simp [intOf]; omega
     ·obtain rfl : n = i := by omega
      have er : r = true := by
       rw [HE2.out];refine List.all_eq_true.2 fun x hx => ?_;obtain ⟨j, hj⟩ := List.getElem?_of_mem hx;exact HI.out j x (by rw [HN.out]; exact (List.getElem?_eq_some_iff.1 hj).1) hj
      subst er;go_wp2;go_ret;exact ⟨rfl, bel_trans HB2.out HBz.out⟩
theorem isRight_any {w : World} {fb fo : Nat} {f : Fn} (hf : FnAt w fb fo f) (ht : ShTab w) : Calls prog 37 #[.pointer (some ⟨fb, fo, none⟩)] w (retP (.bool (RightF f)) w) := by
 have hf' := hf;obtain ⟨pv, cv, hp, hc, _, _, f1, f2, f3, f4, f5⟩ := hf;obtain ⟨ca, cap, cb, co, rfl, hl, ha, hcc⟩ := hc.parts
 have hb : ∀ h : sizesB f.regs f.frame f.code.length = true, 0 ≤ f.regs ∧ f.regs ≤ 5000 := fun h => by
  unfold sizesB withinB at h;simp at h
  omega
 refine isRight_walk fb fo ca f.code.length cap cb co f.entry f.code _ _ (parF f.regs f.params) _ (rightF f.regs f.frame f.code.length) w f4 f5 hl rfl ha (fun W hW => by subst hW; exact hasSizes_any fb fo _ cap ca f.regs f.frame _ f2 f3 f5) (fun W hW => by subst hW; exact hasNode_any fb fo _ cap ca f.entry _ f5 (by omega)) (fun h => hasParams_any f1 f2 hp (hb h).1 (hb h).2) (fun h W i x hW hx => takes_any (hf'.keep hW) ((hcc i x hx).keep hW) (ht.keep hW) (hb h).1 (hb h).2) ?_
 show RightF f = _
 rw [head_eq]
 rfl

end Go.Proofs.YtfeglcpipcjaeaaGreatDoor
