
import Derived.Test.YtncondlfngeilaaGreatDoorTzA
import Derived.Test.YtncondlfngeilaaGreatDoorGIter3
namespace Go.Proofs.YtncondlfngeilaaGreatDoor
open Go.ChangeShapes Go.WideShapes Go.ChangeAt Go.RowKit Go.Proofs.Tryz
set_option linter.unusedSimpArgs false
set_option linter.unusedVariables false
set_option maxRecDepth 100000
set_option maxHeartbeats 8000000

theorem gindex_walk (va : Option Addr) (n vc vb vo : Nat) (l : List Int) (x : Int) (w : World) (HN : Hid (n = l.length)) (hn : n * 8 ≤ 140737488355328) (HA : Hid (0 < n → va = some ⟨vb, vo, none⟩)) (HC : Hid (∀ (i : Nat) y, l[i]? = some y → w.cell? ⟨vb, vo + i, none⟩ = some (.int .i64 y))) :
  Calls prog 152 #[.slice va n vc, .int .i64 x] w fun e w' => (∃ k : Int, e = .returned (.int .i64 k) ∧ decide (0 ≤ k) = l.contains x) ∧ w' = w := by
 have hnm : (n : Int) ≤ 9223372036854775807 := by omega
 go_enter func152, ntmps152
 go_wp2
 go_loopw [8] (fun vv wz => ∃ i : Nat, i ≤ n ∧ vv = .int .i64 i ∧ Hid (∀ (j : Nat) y, j < i → l[j]? = some y → y ≠ x) ∧ wz = w) (fun vv _ => n - (intOf vv).toNat)
 case atStart => exact ⟨0, by omega, rfl, fun j y hj => by omega, rfl⟩
 case round =>
  obtain ⟨i, hi, rfl, HI, rfl⟩ := hrel
  by_cases hin : i < n
  ·obtain rfl := HA.out (by omega)
   have j0 : (0 : Int) ≤ i := by omega
   have j1 : (i : Int) < n := by omega
   have hget := List.getElem?_eq_getElem (l := l) (show i < l.length by rw [← HN.out]; exact hin)
   generalize l[i]'(by rw [← HN.out]; exact hin) = y at hget
   have cx := HC.out i y hget;have HG := hid hget;clear hget
   cases hq : (x == y) with
   | true =>
    have hm : Hid (l.contains x = true) := by
     show _ = _
     rw [List.contains_iff_mem];have e : x = y := by simpa using hq
     rw [e];exact List.mem_of_getElem? HG.out
    go_wp2;go_ret;have hmm : x ∈ l := List.contains_iff_mem.1 hm.out;exact ⟨⟨_, rfl, by simp [hmm]⟩, rfl⟩
   | false =>
    have HI2 : Hid (∀ (j : Nat) z, j < i + 1 → l[j]? = some z → z ≠ x) := fun j z hj hz => by
     by_cases e : j = i
     ·subst e; rw [HG.out] at hz; cases hz
      intro e2; subst e2; simp at hq
     ·exact HI.out j z (by omega) hz
    go_wp2
    go_roundw
    case rel => exact ⟨i + 1, by omega, by simp, HI2, trivial⟩
    case measure => simp [intOf]; omega
  ·obtain rfl : n = i := by omega
   have hm : Hid (l.contains x = false) := by
    show _ = _
    cases h : l.contains x with
    | false => rfl
    | true =>
     rw [List.contains_iff_mem] at h;obtain ⟨j, hj⟩ := List.getElem?_of_mem h;exact absurd rfl (HI.out j x (by rw [HN.out]; exact (List.getElem?_eq_some_iff.1 hj).1) hj)
   go_wp2;go_ret;exact ⟨⟨_, rfl, by rw [hm.out]; rfl⟩, rfl⟩
theorem gcontains_any {w : World} {v : Value} {l : List Int} (h : IL w v l) (x : Int) : Calls prog 128 #[v, .int .i64 x] w fun e w' => e = .returned (.bool (l.contains x)) ∧ w' = w := by
 obtain ⟨va, vc, vb, vo, rfl, hl, ha, hc⟩ := h.parts;have HI : Hid (∀ W, W = w → Calls prog 152 #[.slice va l.length vc, .int .i64 x] W fun e w' => (∃ k : Int, e = .returned (.int .i64 k) ∧ decide (0 ≤ k) = l.contains x) ∧ w' = W) := fun W hW => by subst hW; exact gindex_walk va l.length vc vb vo l x _ rfl hl ha hc
 clear ha hc h
 go_enter func128, ntmps128
 go_wp2_with (go_at_call 152; refine (HI.out _ rfl).mono ?_; rintro e w1 ⟨⟨k, rfl, hk⟩, hw⟩; subst hw; have HK := hid hk; clear hk)
 go_ret;exact ⟨by rw [← HK.out]; rfl, rfl⟩
def lackS (x : Sp) (a b : Int) (l : List Int) : Bool := lackB x.a a || lackB x.b b || (x.args && l.contains (-1))

theorem lacksRegister_walk (nm : ByteArray) (xsb xa xb xd : Int) (xk xg xs xt : Bool) (ib io : Nat) (a b : Int) (va : Option Addr) (vn vc : Nat) (l : List Int) (w : World) (e2 : w.cell? ⟨ib, io + 2, none⟩ = some (.int .i64 a)) (e3 : w.cell? ⟨ib, io + 3, none⟩ = some (.int .i64 b)) (e6 : w.cell? ⟨ib, io + 6, none⟩ = some (.slice va vn vc)) (hil : IL w (.slice va vn vc) l) :
  Calls prog 96 #[.agg #[.string nm, .int .i64 xsb, .int .i64 xa, .int .i64 xb, .int .i64 xd, .bool xk, .bool xg, .bool xs, .bool xt], .pointer (some ⟨ib, io, none⟩)] w (retP (.bool (lackB xa a || lackB xb b || (xg && l.contains (-1)))) w) := by
 obtain ⟨cc, hcc⟩ : ∃ c, l.contains (-1) = c := ⟨_, rfl⟩;rw [hcc];have HCT : Hid (∀ W, Below w.heap.size w W → Calls prog 128 #[.slice va vn vc, .int .i64 (-1)] W fun e w' => e = .returned (.bool cc) ∧ w' = W) := fun W hW => hcc ▸ gcontains_any (hil.keep hW) _;clear hcc;have HLA : Hid (∀ W, Calls prog 127 #[.int .i64 xa, .int .i64 a] W fun e w' => e = .returned (.bool (lackB xa a)) ∧ w' = W) := fun W => lacks_any _ _ _;have HLB : Hid (∀ W, Calls prog 127 #[.int .i64 xb, .int .i64 b] W fun e w' => e = .returned (.bool (lackB xb b)) ∧ w' = W) := fun W => lacks_any _ _ _;have d2 := keep_alloc e2 (.cells #[.string nm, .int .i64 xsb, .int .i64 xa, .int .i64 xb, .int .i64 xd, .bool xk, .bool xg, .bool xs, .bool xt] 181 (0, 0));have d3 := keep_alloc e3 (.cells #[.string nm, .int .i64 xsb, .int .i64 xa, .int .i64 xb, .int .i64 xd, .bool xk, .bool xg, .bool xs, .bool xt] 181 (0, 0));have d6 := keep_alloc e6 (.cells #[.string nm, .int .i64 xsb, .int .i64 xa, .int .i64 xb, .int .i64 xd, .bool xk, .bool xg, .bool xs, .bool xt] 181 (0, 0));clear hil e2 e3 e6
 cases h7 : lackB xa a with
 | true =>
  rw [h7] at HLA
  go_enter func96, ntmps96
  go_wp2_with fail
  refine wp_region_held_drew (S := (fun w' => w'.cell? ⟨w.heap.size, 2, none⟩ = some (.int .i64 xa) ∧ w'.cell? ⟨w.heap.size, 3, none⟩ = some (.int .i64 xb) ∧ w'.cell? ⟨w.heap.size, 6, none⟩ = some (.bool xg) ∧ w'.cell? ⟨ib, io + 2, none⟩ = some (.int .i64 a) ∧ w'.cell? ⟨ib, io + 3, none⟩ = some (.int .i64 b) ∧ w'.cell? ⟨ib, io + 6, none⟩ = some (.slice va vn vc) ∧ Below w.heap.size w w')) (by kernel_rfl) (⟨by simp, by simp, by simp, d2, d3, d6, Below.drew (bel_alloc (Below.refl _ _) _)⟩) (fun hHeld => ?_);refine wpAnyH_take (i := 0) (oi := ?oia0) (v := ?vva0) ?hia0 (by kernel_rfl) (by kernel_rfl) (by kernel_rfl) ?hqa0 ?hya0 hHeld ?_
  case hia0 => simp only [zga, zgs, zgz]; rfl
  case hqa0 => exact fun _ _ _ h => h
  case hya0 => refine .inl ⟨by rfl, ?_⟩; intro w' hSw; (try dsimp only at hSw); go_simp; try with_reducible rfl
  simp only [Act.put, zsa, zsz, zss];refine wpAnyH_take (i := 1) (oi := ?oia1) (v := ?vva1) ?hia1 (by kernel_rfl) (by kernel_rfl) (by kernel_rfl) ?hqa1 ?hya1 hHeld ?_
  case hia1 => simp only [zga, zgs, zgz]; rfl
  case hqa1 => exact fun _ _ _ h => h
  case hya1 => refine .inl ⟨by rfl, ?_⟩; intro w' hSw; (try dsimp only at hSw); go_simp; try with_reducible rfl
  simp only [Act.put, zsa, zsz, zss];refine wpAnyH_take (i := 2) (oi := ?oia2) (v := ?vva2) ?hia2 (by kernel_rfl) (by kernel_rfl) (by kernel_rfl) ?hqa2 ?hya2 hHeld ?_
  case hia2 => simp only [zga, zgs, zgz]; rfl
  case hqa2 => exact fun _ _ _ h => h
  case hya2 => refine .inl ⟨by rfl, ?_⟩; intro w' hSw; (try dsimp only at hSw); go_simp; try with_reducible rfl
  simp only [Act.put, zsa, zsz, zss];refine wpAnyH_take (i := 3) (oi := ?oia3) (v := ?vva3) ?hia3 (by kernel_rfl) (by kernel_rfl) (by kernel_rfl) ?hqa3 ?hya3 hHeld ?_
  case hia3 => simp only [zga, zgs, zgz]; rfl
  case hqa3 => exact fun _ _ _ h => h
  case hya3 => refine .inl ⟨by rfl, ?_⟩; intro w' hSw; (try dsimp only at hSw); go_simp; try with_reducible rfl
  simp only [Act.put, zsa, zsz, zss];refine wpAnyH_take (i := 4) (oi := ?oia4) (v := ?vva4) ?hia4 (by kernel_rfl) (by kernel_rfl) (by kernel_rfl) ?hqa4 ?hya4 hHeld ?_
  case hia4 => simp only [zga, zgs, zgz]; rfl
  case hqa4 => exact fun _ _ _ h => h
  case hya4 => refine .inl ⟨by rfl, ?_⟩; intro w' hSw; (try dsimp only at hSw); go_simp; try with_reducible rfl
  simp only [Act.put, zsa, zsz, zss];refine wpAnyH_take (i := 5) (oi := ?oia5) (v := ?vva5) ?hia5 (by kernel_rfl) (by kernel_rfl) (by kernel_rfl) ?hqa5 ?hya5 hHeld ?_
  case hia5 => simp only [zga, zgs, zgz]; rfl
  case hqa5 => exact fun _ _ _ h => h
  case hya5 => refine .inl ⟨by rfl, ?_⟩; intro w' hSw; (try dsimp only at hSw); go_simp; try with_reducible rfl
  simp only [Act.put, zsa, zsz, zss];refine wpAnyH_ready (rs := [6]) (by kernel_rfl) (by simp) ?_;refine AllReadyH.cons (o := ?oia6) ?hia6 (fun K hK => ?_) AllReadyH.nil
  case hia6 => simp only [zga, zgs, zgz]; rfl
  go_simp;refine (HLA.out _).mono ?_;rintro e v6 ⟨rfl, rfl⟩;go_wp2_with fail
  refine hK.out _ _ (hHeld) (fun hN => ?_);clear hK K hHeld;have hHeld := hN;clear hN
  try simp only [Act.put, zsa, zsz, zss]
  refine wpAnyH_take (i := 7) (oi := ?oia7) (v := ?vva7) ?hia7 (by kernel_rfl) (by kernel_rfl) (by kernel_rfl) ?hqa7 ?hya7 hHeld ?_
  case hia7 => simp only [zga, zgs, zgz]; rfl
  case hqa7 => exact fun _ _ _ h => h
  case hya7 => refine .inl ⟨by rfl, ?_⟩; intro w' hSw; (try dsimp only at hSw); go_simp; try with_reducible rfl
  simp only [Act.put, zsa, zsz, zss];refine wpAnyH_take (i := 8) (oi := ?oia8) (v := undef) ?hia8 (by kernel_rfl) (by kernel_rfl) (by kernel_rfl) ?hqa8 ?hya8 hHeld ?_
  case hia8 => simp only [zga, zgs, zgz]; rfl
  case hqa8 => exact fun _ _ _ h => h
  case hya8 => exact Or.inr ⟨by rfl, rfl⟩
  simp only [Act.put, zsa, zsz, zss];refine wpAnyH_take (i := 9) (oi := ?oia9) (v := undef) ?hia9 (by kernel_rfl) (by kernel_rfl) (by kernel_rfl) ?hqa9 ?hya9 hHeld ?_
  case hia9 => simp only [zga, zgs, zgz]; rfl
  case hqa9 => exact fun _ _ _ h => h
  case hya9 => exact Or.inr ⟨by rfl, rfl⟩
  simp only [Act.put, zsa, zsz, zss];refine wpAnyH_take (i := 10) (oi := ?oia10) (v := undef) ?hia10 (by kernel_rfl) (by kernel_rfl) (by kernel_rfl) ?hqa10 ?hya10 hHeld ?_
  case hia10 => simp only [zga, zgs, zgz]; rfl
  case hqa10 => exact fun _ _ _ h => h
  case hya10 => exact Or.inr ⟨by rfl, rfl⟩
  simp only [Act.put, zsa, zsz, zss];refine wpAnyH_take (i := 11) (oi := ?oia11) (v := undef) ?hia11 (by kernel_rfl) (by kernel_rfl) (by kernel_rfl) ?hqa11 ?hya11 hHeld ?_
  case hia11 => simp only [zga, zgs, zgz]; rfl
  case hqa11 => exact fun _ _ _ h => h
  case hya11 => exact Or.inr ⟨by rfl, rfl⟩
  simp only [Act.put, zsa, zsz, zss];refine wpAnyH_take (i := 12) (oi := ?oia12) (v := undef) ?hia12 (by kernel_rfl) (by kernel_rfl) (by kernel_rfl) ?hqa12 ?hya12 hHeld ?_
  case hia12 => simp only [zga, zgs, zgz]; rfl
  case hqa12 => exact fun _ _ _ h => h
  case hya12 => exact Or.inr ⟨by rfl, rfl⟩
  simp only [Act.put, zsa, zsz, zss];refine wpAnyH_take (i := 13) (oi := ?oia13) (v := undef) ?hia13 (by kernel_rfl) (by kernel_rfl) (by kernel_rfl) ?hqa13 ?hya13 hHeld ?_
  case hia13 => simp only [zga, zgs, zgz]; rfl
  case hqa13 => exact fun _ _ _ h => h
  case hya13 => exact Or.inr ⟨by rfl, rfl⟩
  simp only [Act.put, zsa, zsz, zss];refine wpAnyH_ready (rs := [14]) (by kernel_rfl) (by simp) ?_;refine AllReadyH.cons (o := ?oia14) ?hia14 (fun K hK => ?_) AllReadyH.nil
  case hia14 => simp only [zga, zgs, zgz]; rfl
  go_simp;refine hK.out _ _ hHeld (fun hN => ?_);clear hK K hHeld;have hHeld := hN;clear hN
  try simp only [Act.put, zsa, zsz, zss]
  refine wpAnyH_take (i := 15) (oi := ?oia15) (v := ?vva15) ?hia15 (by kernel_rfl) (by kernel_rfl) (by kernel_rfl) ?hqa15 ?hya15 hHeld ?_
  case hia15 => simp only [zga, zgs, zgz]; rfl
  case hqa15 => exact fun _ _ _ h => h
  case hya15 => refine .inl ⟨by rfl, ?_⟩; intro w' hSw; (try dsimp only at hSw); go_simp; try with_reducible rfl
  simp only [Act.put, zsa, zsz, zss];refine wpAnyH_take (i := 16) (oi := ?oia16) (v := ?vva16) ?hia16 (by kernel_rfl) (by kernel_rfl) (by kernel_rfl) ?hqa16 ?hya16 hHeld ?_
  case hia16 => simp only [zga, zgs, zgz]; rfl
  case hqa16 => exact fun _ _ _ h => h
  case hya16 => refine .inl ⟨by rfl, ?_⟩; intro w' hSw; (try dsimp only at hSw); go_simp; try with_reducible rfl
  simp only [Act.put, zsa, zsz, zss];refine wpAnyH_take (i := 17) (oi := ?oia17) (v := undef) ?hia17 (by kernel_rfl) (by kernel_rfl) (by kernel_rfl) ?hqa17 ?hya17 hHeld ?_
  case hia17 => simp only [zga, zgs, zgz]; rfl
  case hqa17 => exact fun _ _ _ h => h
  case hya17 => exact Or.inr ⟨by rfl, rfl⟩
  simp only [Act.put, zsa, zsz, zss];refine wpAnyH_take (i := 18) (oi := ?oia18) (v := undef) ?hia18 (by kernel_rfl) (by kernel_rfl) (by kernel_rfl) ?hqa18 ?hya18 hHeld ?_
  case hia18 => simp only [zga, zgs, zgz]; rfl
  case hqa18 => exact fun _ _ _ h => h
  case hya18 => exact Or.inr ⟨by rfl, rfl⟩
  simp only [Act.put, zsa, zsz, zss];refine wpAnyH_take (i := 19) (oi := ?oia19) (v := undef) ?hia19 (by kernel_rfl) (by kernel_rfl) (by kernel_rfl) ?hqa19 ?hya19 hHeld ?_
  case hia19 => simp only [zga, zgs, zgz]; rfl
  case hqa19 => exact fun _ _ _ h => h
  case hya19 => exact Or.inr ⟨by rfl, rfl⟩
  simp only [Act.put, zsa, zsz, zss];refine wpAnyH_take (i := 20) (oi := ?oia20) (v := undef) ?hia20 (by kernel_rfl) (by kernel_rfl) (by kernel_rfl) ?hqa20 ?hya20 hHeld ?_
  case hia20 => simp only [zga, zgs, zgz]; rfl
  case hqa20 => exact fun _ _ _ h => h
  case hya20 => exact Or.inr ⟨by rfl, rfl⟩
  simp only [Act.put, zsa, zsz, zss];refine wpAnyH_take (i := 21) (oi := ?oia21) (v := undef) ?hia21 (by kernel_rfl) (by kernel_rfl) (by kernel_rfl) ?hqa21 ?hya21 hHeld ?_
  case hia21 => simp only [zga, zgs, zgz]; rfl
  case hqa21 => exact fun _ _ _ h => h
  case hya21 => exact Or.inr ⟨by rfl, rfl⟩
  simp only [Act.put, zsa, zsz, zss];refine wpAnyH_take (i := 22) (oi := ?oia22) (v := undef) ?hia22 (by kernel_rfl) (by kernel_rfl) (by kernel_rfl) ?hqa22 ?hya22 hHeld ?_
  case hia22 => simp only [zga, zgs, zgz]; rfl
  case hqa22 => exact fun _ _ _ h => h
  case hya22 => exact Or.inr ⟨by rfl, rfl⟩
  simp only [Act.put, zsa, zsz, zss];refine wpAnyH_take (i := 23) (oi := ?oia23) (v := undef) ?hia23 (by kernel_rfl) (by kernel_rfl) (by kernel_rfl) ?hqa23 ?hya23 hHeld ?_
  case hia23 => simp only [zga, zgs, zgz]; rfl
  case hqa23 => exact fun _ _ _ h => h
  case hya23 => exact Or.inr ⟨by rfl, rfl⟩
  simp only [Act.put, zsa, zsz, zss];refine wpAnyH_ready (rs := [24]) (by kernel_rfl) (by simp) ?_;refine AllReadyH.cons (o := ?oia24) ?hia24 (fun K hK => ?_) AllReadyH.nil
  case hia24 => simp only [zga, zgs, zgz]; rfl
  go_simp;refine hK.out _ _ hHeld (fun hN => ?_);clear hK K hHeld;have hHeld := hN;clear hN
  try simp only [Act.put, zsa, zsz, zss]
  refine wpAnyH_take (i := 25) (oi := ?oia25) (v := undef) ?hia25 (by kernel_rfl) (by kernel_rfl) (by kernel_rfl) ?hqa25 ?hya25 hHeld ?_
  case hia25 => simp only [zga, zgs, zgz]; rfl
  case hqa25 => exact fun _ _ _ h => h
  case hya25 => exact Or.inr ⟨by rfl, rfl⟩
  simp only [Act.put, zsa, zsz, zss];refine wpAnyH_take (i := 26) (oi := ?oia26) (v := ?vva26) ?hia26 (by kernel_rfl) (by kernel_rfl) (by kernel_rfl) ?hqa26 ?hya26 hHeld ?_
  case hia26 => simp only [zga, zgs, zgz]; rfl
  case hqa26 => exact fun _ _ _ h => h
  case hya26 => refine .inl ⟨by rfl, ?_⟩; intro w' hSw; (try dsimp only at hSw); go_simp; try with_reducible rfl
  simp only [Act.put, zsa, zsz, zss];refine wpAnyH_take (i := 27) (oi := ?oia27) (v := ?vva27) ?hia27 (by kernel_rfl) (by kernel_rfl) (by kernel_rfl) ?hqa27 ?hya27 hHeld ?_
  case hia27 => simp only [zga, zgs, zgz]; rfl
  case hqa27 => exact fun _ _ _ h => h
  case hya27 => refine .inl ⟨by rfl, ?_⟩; intro w' hSw; (try dsimp only at hSw); go_simp; try with_reducible rfl
  simp only [Act.put, zsa, zsz, zss];refine wpAnyH_done (by kernel_rfl) ?_ _;have hfin := hHeld.2.2.2.2.2.2;go_wp2;go_ret;exact ⟨by rfl, hfin⟩
 | false =>
  rw [h7] at HLA
  cases h16 : lackB xb b with
  | true =>
   rw [h16] at HLB
   go_enter func96, ntmps96
   go_wp2_with fail
   refine wp_region_held_drew (S := (fun w' => w'.cell? ⟨w.heap.size, 2, none⟩ = some (.int .i64 xa) ∧ w'.cell? ⟨w.heap.size, 3, none⟩ = some (.int .i64 xb) ∧ w'.cell? ⟨w.heap.size, 6, none⟩ = some (.bool xg) ∧ w'.cell? ⟨ib, io + 2, none⟩ = some (.int .i64 a) ∧ w'.cell? ⟨ib, io + 3, none⟩ = some (.int .i64 b) ∧ w'.cell? ⟨ib, io + 6, none⟩ = some (.slice va vn vc) ∧ Below w.heap.size w w')) (by kernel_rfl) (⟨by simp, by simp, by simp, d2, d3, d6, Below.drew (bel_alloc (Below.refl _ _) _)⟩) (fun hHeld => ?_);refine wpAnyH_take (i := 0) (oi := ?oib0) (v := ?vvb0) ?hib0 (by kernel_rfl) (by kernel_rfl) (by kernel_rfl) ?hqb0 ?hyb0 hHeld ?_
   case hib0 => simp only [zga, zgs, zgz]; rfl
   case hqb0 => exact fun _ _ _ h => h
   case hyb0 => refine .inl ⟨by rfl, ?_⟩; intro w' hSw; (try dsimp only at hSw); go_simp; try with_reducible rfl
   simp only [Act.put, zsa, zsz, zss];refine wpAnyH_take (i := 1) (oi := ?oib1) (v := ?vvb1) ?hib1 (by kernel_rfl) (by kernel_rfl) (by kernel_rfl) ?hqb1 ?hyb1 hHeld ?_
   case hib1 => simp only [zga, zgs, zgz]; rfl
   case hqb1 => exact fun _ _ _ h => h
   case hyb1 => refine .inl ⟨by rfl, ?_⟩; intro w' hSw; (try dsimp only at hSw); go_simp; try with_reducible rfl
   simp only [Act.put, zsa, zsz, zss];refine wpAnyH_take (i := 2) (oi := ?oib2) (v := ?vvb2) ?hib2 (by kernel_rfl) (by kernel_rfl) (by kernel_rfl) ?hqb2 ?hyb2 hHeld ?_
   case hib2 => simp only [zga, zgs, zgz]; rfl
   case hqb2 => exact fun _ _ _ h => h
   case hyb2 => refine .inl ⟨by rfl, ?_⟩; intro w' hSw; (try dsimp only at hSw); go_simp; try with_reducible rfl
   simp only [Act.put, zsa, zsz, zss];refine wpAnyH_take (i := 3) (oi := ?oib3) (v := ?vvb3) ?hib3 (by kernel_rfl) (by kernel_rfl) (by kernel_rfl) ?hqb3 ?hyb3 hHeld ?_
   case hib3 => simp only [zga, zgs, zgz]; rfl
   case hqb3 => exact fun _ _ _ h => h
   case hyb3 => refine .inl ⟨by rfl, ?_⟩; intro w' hSw; (try dsimp only at hSw); go_simp; try with_reducible rfl
   simp only [Act.put, zsa, zsz, zss];refine wpAnyH_take (i := 4) (oi := ?oib4) (v := ?vvb4) ?hib4 (by kernel_rfl) (by kernel_rfl) (by kernel_rfl) ?hqb4 ?hyb4 hHeld ?_
   case hib4 => simp only [zga, zgs, zgz]; rfl
   case hqb4 => exact fun _ _ _ h => h
   case hyb4 => refine .inl ⟨by rfl, ?_⟩; intro w' hSw; (try dsimp only at hSw); go_simp; try with_reducible rfl
   simp only [Act.put, zsa, zsz, zss];refine wpAnyH_take (i := 5) (oi := ?oib5) (v := ?vvb5) ?hib5 (by kernel_rfl) (by kernel_rfl) (by kernel_rfl) ?hqb5 ?hyb5 hHeld ?_
   case hib5 => simp only [zga, zgs, zgz]; rfl
   case hqb5 => exact fun _ _ _ h => h
   case hyb5 => refine .inl ⟨by rfl, ?_⟩; intro w' hSw; (try dsimp only at hSw); go_simp; try with_reducible rfl
   simp only [Act.put, zsa, zsz, zss];refine wpAnyH_ready (rs := [6]) (by kernel_rfl) (by simp) ?_;refine AllReadyH.cons (o := ?oib6) ?hib6 (fun K hK => ?_) AllReadyH.nil
   case hib6 => simp only [zga, zgs, zgz]; rfl
   go_simp;refine (HLA.out _).mono ?_;rintro e v6 ⟨rfl, rfl⟩;go_wp2_with fail
   refine hK.out _ _ (hHeld) (fun hN => ?_);clear hK K hHeld;have hHeld := hN;clear hN
   try simp only [Act.put, zsa, zsz, zss]
   refine wpAnyH_take (i := 7) (oi := ?oib7) (v := ?vvb7) ?hib7 (by kernel_rfl) (by kernel_rfl) (by kernel_rfl) ?hqb7 ?hyb7 hHeld ?_
   case hib7 => simp only [zga, zgs, zgz]; rfl
   case hqb7 => exact fun _ _ _ h => h
   case hyb7 => refine .inl ⟨by rfl, ?_⟩; intro w' hSw; (try dsimp only at hSw); go_simp; try with_reducible rfl
   simp only [Act.put, zsa, zsz, zss];refine wpAnyH_take (i := 8) (oi := ?oib8) (v := ?vvb8) ?hib8 (by kernel_rfl) (by kernel_rfl) (by kernel_rfl) ?hqb8 ?hyb8 hHeld ?_
   case hib8 => simp only [zga, zgs, zgz]; rfl
   case hqb8 => exact fun _ _ _ h => h
   case hyb8 => refine .inl ⟨by rfl, ?_⟩; intro w' hSw; (try dsimp only at hSw); go_simp; try with_reducible rfl
   simp only [Act.put, zsa, zsz, zss];refine wpAnyH_take (i := 9) (oi := ?oib9) (v := ?vvb9) ?hib9 (by kernel_rfl) (by kernel_rfl) (by kernel_rfl) ?hqb9 ?hyb9 hHeld ?_
   case hib9 => simp only [zga, zgs, zgz]; rfl
   case hqb9 => exact fun _ _ _ h => h
   case hyb9 => refine .inl ⟨by rfl, ?_⟩; intro w' hSw; (try dsimp only at hSw); go_simp; try with_reducible rfl
   simp only [Act.put, zsa, zsz, zss];refine wpAnyH_take (i := 10) (oi := ?oib10) (v := ?vvb10) ?hib10 (by kernel_rfl) (by kernel_rfl) (by kernel_rfl) ?hqb10 ?hyb10 hHeld ?_
   case hib10 => simp only [zga, zgs, zgz]; rfl
   case hqb10 => exact fun _ _ _ h => h
   case hyb10 => refine .inl ⟨by rfl, ?_⟩; intro w' hSw; (try dsimp only at hSw); go_simp; try with_reducible rfl
   simp only [Act.put, zsa, zsz, zss];refine wpAnyH_take (i := 11) (oi := ?oib11) (v := ?vvb11) ?hib11 (by kernel_rfl) (by kernel_rfl) (by kernel_rfl) ?hqb11 ?hyb11 hHeld ?_
   case hib11 => simp only [zga, zgs, zgz]; rfl
   case hqb11 => exact fun _ _ _ h => h
   case hyb11 => refine .inl ⟨by rfl, ?_⟩; intro w' hSw; (try dsimp only at hSw); go_simp; try with_reducible rfl
   simp only [Act.put, zsa, zsz, zss];refine wpAnyH_take (i := 12) (oi := ?oib12) (v := ?vvb12) ?hib12 (by kernel_rfl) (by kernel_rfl) (by kernel_rfl) ?hqb12 ?hyb12 hHeld ?_
   case hib12 => simp only [zga, zgs, zgz]; rfl
   case hqb12 => exact fun _ _ _ h => h
   case hyb12 => refine .inl ⟨by rfl, ?_⟩; intro w' hSw; (try dsimp only at hSw); go_simp; try with_reducible rfl
   simp only [Act.put, zsa, zsz, zss];refine wpAnyH_take (i := 13) (oi := ?oib13) (v := ?vvb13) ?hib13 (by kernel_rfl) (by kernel_rfl) (by kernel_rfl) ?hqb13 ?hyb13 hHeld ?_
   case hib13 => simp only [zga, zgs, zgz]; rfl
   case hqb13 => exact fun _ _ _ h => h
   case hyb13 => refine .inl ⟨by rfl, ?_⟩; intro w' hSw; (try dsimp only at hSw); go_simp; try with_reducible rfl
   simp only [Act.put, zsa, zsz, zss];refine wpAnyH_ready (rs := [14]) (by kernel_rfl) (by simp) ?_;refine AllReadyH.cons (o := ?oib14) ?hib14 (fun K hK => ?_) AllReadyH.nil
   case hib14 => simp only [zga, zgs, zgz]; rfl
   go_simp;refine (HLB.out _).mono ?_;rintro e v14 ⟨rfl, rfl⟩;go_wp2_with fail
   refine hK.out _ _ (hHeld) (fun hN => ?_);clear hK K hHeld;have hHeld := hN;clear hN
   try simp only [Act.put, zsa, zsz, zss]
   refine wpAnyH_take (i := 15) (oi := ?oib15) (v := ?vvb15) ?hib15 (by kernel_rfl) (by kernel_rfl) (by kernel_rfl) ?hqb15 ?hyb15 hHeld ?_
   case hib15 => simp only [zga, zgs, zgz]; rfl
   case hqb15 => exact fun _ _ _ h => h
   case hyb15 => refine .inl ⟨by rfl, ?_⟩; intro w' hSw; (try dsimp only at hSw); go_simp; try with_reducible rfl
   simp only [Act.put, zsa, zsz, zss];refine wpAnyH_take (i := 16) (oi := ?oib16) (v := ?vvb16) ?hib16 (by kernel_rfl) (by kernel_rfl) (by kernel_rfl) ?hqb16 ?hyb16 hHeld ?_
   case hib16 => simp only [zga, zgs, zgz]; rfl
   case hqb16 => exact fun _ _ _ h => h
   case hyb16 => refine .inl ⟨by rfl, ?_⟩; intro w' hSw; (try dsimp only at hSw); go_simp; try with_reducible rfl
   simp only [Act.put, zsa, zsz, zss];refine wpAnyH_take (i := 17) (oi := ?oib17) (v := undef) ?hib17 (by kernel_rfl) (by kernel_rfl) (by kernel_rfl) ?hqb17 ?hyb17 hHeld ?_
   case hib17 => simp only [zga, zgs, zgz]; rfl
   case hqb17 => exact fun _ _ _ h => h
   case hyb17 => exact Or.inr ⟨by rfl, rfl⟩
   simp only [Act.put, zsa, zsz, zss];refine wpAnyH_take (i := 18) (oi := ?oib18) (v := undef) ?hib18 (by kernel_rfl) (by kernel_rfl) (by kernel_rfl) ?hqb18 ?hyb18 hHeld ?_
   case hib18 => simp only [zga, zgs, zgz]; rfl
   case hqb18 => exact fun _ _ _ h => h
   case hyb18 => exact Or.inr ⟨by rfl, rfl⟩
   simp only [Act.put, zsa, zsz, zss];refine wpAnyH_take (i := 19) (oi := ?oib19) (v := undef) ?hib19 (by kernel_rfl) (by kernel_rfl) (by kernel_rfl) ?hqb19 ?hyb19 hHeld ?_
   case hib19 => simp only [zga, zgs, zgz]; rfl
   case hqb19 => exact fun _ _ _ h => h
   case hyb19 => exact Or.inr ⟨by rfl, rfl⟩
   simp only [Act.put, zsa, zsz, zss];refine wpAnyH_take (i := 20) (oi := ?oib20) (v := undef) ?hib20 (by kernel_rfl) (by kernel_rfl) (by kernel_rfl) ?hqb20 ?hyb20 hHeld ?_
   case hib20 => simp only [zga, zgs, zgz]; rfl
   case hqb20 => exact fun _ _ _ h => h
   case hyb20 => exact Or.inr ⟨by rfl, rfl⟩
   simp only [Act.put, zsa, zsz, zss];refine wpAnyH_take (i := 21) (oi := ?oib21) (v := undef) ?hib21 (by kernel_rfl) (by kernel_rfl) (by kernel_rfl) ?hqb21 ?hyb21 hHeld ?_
   case hib21 => simp only [zga, zgs, zgz]; rfl
   case hqb21 => exact fun _ _ _ h => h
   case hyb21 => exact Or.inr ⟨by rfl, rfl⟩
   simp only [Act.put, zsa, zsz, zss];refine wpAnyH_take (i := 22) (oi := ?oib22) (v := undef) ?hib22 (by kernel_rfl) (by kernel_rfl) (by kernel_rfl) ?hqb22 ?hyb22 hHeld ?_
   case hib22 => simp only [zga, zgs, zgz]; rfl
   case hqb22 => exact fun _ _ _ h => h
   case hyb22 => exact Or.inr ⟨by rfl, rfl⟩
   simp only [Act.put, zsa, zsz, zss];refine wpAnyH_take (i := 23) (oi := ?oib23) (v := undef) ?hib23 (by kernel_rfl) (by kernel_rfl) (by kernel_rfl) ?hqb23 ?hyb23 hHeld ?_
   case hib23 => simp only [zga, zgs, zgz]; rfl
   case hqb23 => exact fun _ _ _ h => h
   case hyb23 => exact Or.inr ⟨by rfl, rfl⟩
   simp only [Act.put, zsa, zsz, zss];refine wpAnyH_ready (rs := [24]) (by kernel_rfl) (by simp) ?_;refine AllReadyH.cons (o := ?oib24) ?hib24 (fun K hK => ?_) AllReadyH.nil
   case hib24 => simp only [zga, zgs, zgz]; rfl
   go_simp;refine hK.out _ _ hHeld (fun hN => ?_);clear hK K hHeld;have hHeld := hN;clear hN
   try simp only [Act.put, zsa, zsz, zss]
   refine wpAnyH_take (i := 25) (oi := ?oib25) (v := undef) ?hib25 (by kernel_rfl) (by kernel_rfl) (by kernel_rfl) ?hqb25 ?hyb25 hHeld ?_
   case hib25 => simp only [zga, zgs, zgz]; rfl
   case hqb25 => exact fun _ _ _ h => h
   case hyb25 => exact Or.inr ⟨by rfl, rfl⟩
   simp only [Act.put, zsa, zsz, zss];refine wpAnyH_take (i := 26) (oi := ?oib26) (v := ?vvb26) ?hib26 (by kernel_rfl) (by kernel_rfl) (by kernel_rfl) ?hqb26 ?hyb26 hHeld ?_
   case hib26 => simp only [zga, zgs, zgz]; rfl
   case hqb26 => exact fun _ _ _ h => h
   case hyb26 => refine .inl ⟨by rfl, ?_⟩; intro w' hSw; (try dsimp only at hSw); go_simp; try with_reducible rfl
   simp only [Act.put, zsa, zsz, zss];refine wpAnyH_take (i := 27) (oi := ?oib27) (v := ?vvb27) ?hib27 (by kernel_rfl) (by kernel_rfl) (by kernel_rfl) ?hqb27 ?hyb27 hHeld ?_
   case hib27 => simp only [zga, zgs, zgz]; rfl
   case hqb27 => exact fun _ _ _ h => h
   case hyb27 => refine .inl ⟨by rfl, ?_⟩; intro w' hSw; (try dsimp only at hSw); go_simp; try with_reducible rfl
   simp only [Act.put, zsa, zsz, zss];refine wpAnyH_done (by kernel_rfl) ?_ _;have hfin := hHeld.2.2.2.2.2.2;go_wp2;go_ret;exact ⟨by rfl, hfin⟩
  | false =>
   rw [h16] at HLB
   cases xg with
   | true =>
    go_enter func96, ntmps96
    go_wp2_with fail
    refine wp_region_held_drew (S := (fun w' => w'.cell? ⟨w.heap.size, 2, none⟩ = some (.int .i64 xa) ∧ w'.cell? ⟨w.heap.size, 3, none⟩ = some (.int .i64 xb) ∧ w'.cell? ⟨w.heap.size, 6, none⟩ = some (.bool true) ∧ w'.cell? ⟨ib, io + 2, none⟩ = some (.int .i64 a) ∧ w'.cell? ⟨ib, io + 3, none⟩ = some (.int .i64 b) ∧ w'.cell? ⟨ib, io + 6, none⟩ = some (.slice va vn vc) ∧ Below w.heap.size w w')) (by kernel_rfl) (⟨by simp, by simp, by simp, d2, d3, d6, Below.drew (bel_alloc (Below.refl _ _) _)⟩) (fun hHeld => ?_);refine wpAnyH_take (i := 0) (oi := ?oic0) (v := ?vvc0) ?hic0 (by kernel_rfl) (by kernel_rfl) (by kernel_rfl) ?hqc0 ?hyc0 hHeld ?_
    case hic0 => simp only [zga, zgs, zgz]; rfl
    case hqc0 => exact fun _ _ _ h => h
    case hyc0 => refine .inl ⟨by rfl, ?_⟩; intro w' hSw; (try dsimp only at hSw); go_simp; try with_reducible rfl
    simp only [Act.put, zsa, zsz, zss];refine wpAnyH_take (i := 1) (oi := ?oic1) (v := ?vvc1) ?hic1 (by kernel_rfl) (by kernel_rfl) (by kernel_rfl) ?hqc1 ?hyc1 hHeld ?_
    case hic1 => simp only [zga, zgs, zgz]; rfl
    case hqc1 => exact fun _ _ _ h => h
    case hyc1 => refine .inl ⟨by rfl, ?_⟩; intro w' hSw; (try dsimp only at hSw); go_simp; try with_reducible rfl
    simp only [Act.put, zsa, zsz, zss];refine wpAnyH_take (i := 2) (oi := ?oic2) (v := ?vvc2) ?hic2 (by kernel_rfl) (by kernel_rfl) (by kernel_rfl) ?hqc2 ?hyc2 hHeld ?_
    case hic2 => simp only [zga, zgs, zgz]; rfl
    case hqc2 => exact fun _ _ _ h => h
    case hyc2 => refine .inl ⟨by rfl, ?_⟩; intro w' hSw; (try dsimp only at hSw); go_simp; try with_reducible rfl
    simp only [Act.put, zsa, zsz, zss];refine wpAnyH_take (i := 3) (oi := ?oic3) (v := ?vvc3) ?hic3 (by kernel_rfl) (by kernel_rfl) (by kernel_rfl) ?hqc3 ?hyc3 hHeld ?_
    case hic3 => simp only [zga, zgs, zgz]; rfl
    case hqc3 => exact fun _ _ _ h => h
    case hyc3 => refine .inl ⟨by rfl, ?_⟩; intro w' hSw; (try dsimp only at hSw); go_simp; try with_reducible rfl
    simp only [Act.put, zsa, zsz, zss];refine wpAnyH_take (i := 4) (oi := ?oic4) (v := ?vvc4) ?hic4 (by kernel_rfl) (by kernel_rfl) (by kernel_rfl) ?hqc4 ?hyc4 hHeld ?_
    case hic4 => simp only [zga, zgs, zgz]; rfl
    case hqc4 => exact fun _ _ _ h => h
    case hyc4 => refine .inl ⟨by rfl, ?_⟩; intro w' hSw; (try dsimp only at hSw); go_simp; try with_reducible rfl
    simp only [Act.put, zsa, zsz, zss];refine wpAnyH_take (i := 5) (oi := ?oic5) (v := ?vvc5) ?hic5 (by kernel_rfl) (by kernel_rfl) (by kernel_rfl) ?hqc5 ?hyc5 hHeld ?_
    case hic5 => simp only [zga, zgs, zgz]; rfl
    case hqc5 => exact fun _ _ _ h => h
    case hyc5 => refine .inl ⟨by rfl, ?_⟩; intro w' hSw; (try dsimp only at hSw); go_simp; try with_reducible rfl
    simp only [Act.put, zsa, zsz, zss];refine wpAnyH_ready (rs := [6]) (by kernel_rfl) (by simp) ?_;refine AllReadyH.cons (o := ?oic6) ?hic6 (fun K hK => ?_) AllReadyH.nil
    case hic6 => simp only [zga, zgs, zgz]; rfl
    go_simp;refine (HLA.out _).mono ?_;rintro e v6 ⟨rfl, rfl⟩;go_wp2_with fail
    refine hK.out _ _ (hHeld) (fun hN => ?_);clear hK K hHeld;have hHeld := hN;clear hN
    try simp only [Act.put, zsa, zsz, zss]
    refine wpAnyH_take (i := 7) (oi := ?oic7) (v := ?vvc7) ?hic7 (by kernel_rfl) (by kernel_rfl) (by kernel_rfl) ?hqc7 ?hyc7 hHeld ?_
    case hic7 => simp only [zga, zgs, zgz]; rfl
    case hqc7 => exact fun _ _ _ h => h
    case hyc7 => refine .inl ⟨by rfl, ?_⟩; intro w' hSw; (try dsimp only at hSw); go_simp; try with_reducible rfl
    simp only [Act.put, zsa, zsz, zss];refine wpAnyH_take (i := 8) (oi := ?oic8) (v := ?vvc8) ?hic8 (by kernel_rfl) (by kernel_rfl) (by kernel_rfl) ?hqc8 ?hyc8 hHeld ?_
    case hic8 => simp only [zga, zgs, zgz]; rfl
    case hqc8 => exact fun _ _ _ h => h
    case hyc8 => refine .inl ⟨by rfl, ?_⟩; intro w' hSw; (try dsimp only at hSw); go_simp; try with_reducible rfl
    simp only [Act.put, zsa, zsz, zss];refine wpAnyH_take (i := 9) (oi := ?oic9) (v := ?vvc9) ?hic9 (by kernel_rfl) (by kernel_rfl) (by kernel_rfl) ?hqc9 ?hyc9 hHeld ?_
    case hic9 => simp only [zga, zgs, zgz]; rfl
    case hqc9 => exact fun _ _ _ h => h
    case hyc9 => refine .inl ⟨by rfl, ?_⟩; intro w' hSw; (try dsimp only at hSw); go_simp; try with_reducible rfl
    simp only [Act.put, zsa, zsz, zss];refine wpAnyH_take (i := 10) (oi := ?oic10) (v := ?vvc10) ?hic10 (by kernel_rfl) (by kernel_rfl) (by kernel_rfl) ?hqc10 ?hyc10 hHeld ?_
    case hic10 => simp only [zga, zgs, zgz]; rfl
    case hqc10 => exact fun _ _ _ h => h
    case hyc10 => refine .inl ⟨by rfl, ?_⟩; intro w' hSw; (try dsimp only at hSw); go_simp; try with_reducible rfl
    simp only [Act.put, zsa, zsz, zss];refine wpAnyH_take (i := 11) (oi := ?oic11) (v := ?vvc11) ?hic11 (by kernel_rfl) (by kernel_rfl) (by kernel_rfl) ?hqc11 ?hyc11 hHeld ?_
    case hic11 => simp only [zga, zgs, zgz]; rfl
    case hqc11 => exact fun _ _ _ h => h
    case hyc11 => refine .inl ⟨by rfl, ?_⟩; intro w' hSw; (try dsimp only at hSw); go_simp; try with_reducible rfl
    simp only [Act.put, zsa, zsz, zss];refine wpAnyH_take (i := 12) (oi := ?oic12) (v := ?vvc12) ?hic12 (by kernel_rfl) (by kernel_rfl) (by kernel_rfl) ?hqc12 ?hyc12 hHeld ?_
    case hic12 => simp only [zga, zgs, zgz]; rfl
    case hqc12 => exact fun _ _ _ h => h
    case hyc12 => refine .inl ⟨by rfl, ?_⟩; intro w' hSw; (try dsimp only at hSw); go_simp; try with_reducible rfl
    simp only [Act.put, zsa, zsz, zss];refine wpAnyH_take (i := 13) (oi := ?oic13) (v := ?vvc13) ?hic13 (by kernel_rfl) (by kernel_rfl) (by kernel_rfl) ?hqc13 ?hyc13 hHeld ?_
    case hic13 => simp only [zga, zgs, zgz]; rfl
    case hqc13 => exact fun _ _ _ h => h
    case hyc13 => refine .inl ⟨by rfl, ?_⟩; intro w' hSw; (try dsimp only at hSw); go_simp; try with_reducible rfl
    simp only [Act.put, zsa, zsz, zss];refine wpAnyH_ready (rs := [14]) (by kernel_rfl) (by simp) ?_;refine AllReadyH.cons (o := ?oic14) ?hic14 (fun K hK => ?_) AllReadyH.nil
    case hic14 => simp only [zga, zgs, zgz]; rfl
    go_simp;refine (HLB.out _).mono ?_;rintro e v14 ⟨rfl, rfl⟩;go_wp2_with fail
    refine hK.out _ _ (hHeld) (fun hN => ?_);clear hK K hHeld;have hHeld := hN;clear hN
    try simp only [Act.put, zsa, zsz, zss]
    refine wpAnyH_take (i := 15) (oi := ?oic15) (v := ?vvc15) ?hic15 (by kernel_rfl) (by kernel_rfl) (by kernel_rfl) ?hqc15 ?hyc15 hHeld ?_
    case hic15 => simp only [zga, zgs, zgz]; rfl
    case hqc15 => exact fun _ _ _ h => h
    case hyc15 => refine .inl ⟨by rfl, ?_⟩; intro w' hSw; (try dsimp only at hSw); go_simp; try with_reducible rfl
    simp only [Act.put, zsa, zsz, zss];refine wpAnyH_take (i := 16) (oi := ?oic16) (v := ?vvc16) ?hic16 (by kernel_rfl) (by kernel_rfl) (by kernel_rfl) ?hqc16 ?hyc16 hHeld ?_
    case hic16 => simp only [zga, zgs, zgz]; rfl
    case hqc16 => exact fun _ _ _ h => h
    case hyc16 => refine .inl ⟨by rfl, ?_⟩; intro w' hSw; (try dsimp only at hSw); go_simp; try with_reducible rfl
    simp only [Act.put, zsa, zsz, zss];refine wpAnyH_take (i := 17) (oi := ?oic17) (v := ?vvc17) ?hic17 (by kernel_rfl) (by kernel_rfl) (by kernel_rfl) ?hqc17 ?hyc17 hHeld ?_
    case hic17 => simp only [zga, zgs, zgz]; rfl
    case hqc17 => exact fun _ _ _ h => h
    case hyc17 => refine .inl ⟨by rfl, ?_⟩; intro w' hSw; (try dsimp only at hSw); go_simp; try with_reducible rfl
    simp only [Act.put, zsa, zsz, zss];refine wpAnyH_take (i := 18) (oi := ?oic18) (v := ?vvc18) ?hic18 (by kernel_rfl) (by kernel_rfl) (by kernel_rfl) ?hqc18 ?hyc18 hHeld ?_
    case hic18 => simp only [zga, zgs, zgz]; rfl
    case hqc18 => exact fun _ _ _ h => h
    case hyc18 => refine .inl ⟨by rfl, ?_⟩; intro w' hSw; (try dsimp only at hSw); go_simp; try with_reducible rfl
    simp only [Act.put, zsa, zsz, zss];refine wpAnyH_take (i := 19) (oi := ?oic19) (v := ?vvc19) ?hic19 (by kernel_rfl) (by kernel_rfl) (by kernel_rfl) ?hqc19 ?hyc19 hHeld ?_
    case hic19 => simp only [zga, zgs, zgz]; rfl
    case hqc19 => exact fun _ _ _ h => h
    case hyc19 => refine .inl ⟨by rfl, ?_⟩; intro w' hSw; (try dsimp only at hSw); go_simp; try with_reducible rfl
    simp only [Act.put, zsa, zsz, zss];refine wpAnyH_take (i := 20) (oi := ?oic20) (v := ?vvc20) ?hic20 (by kernel_rfl) (by kernel_rfl) (by kernel_rfl) ?hqc20 ?hyc20 hHeld ?_
    case hic20 => simp only [zga, zgs, zgz]; rfl
    case hqc20 => exact fun _ _ _ h => h
    case hyc20 => refine .inl ⟨by rfl, ?_⟩; intro w' hSw; (try dsimp only at hSw); go_simp; try with_reducible rfl
    simp only [Act.put, zsa, zsz, zss];refine wpAnyH_take (i := 21) (oi := ?oic21) (v := ?vvc21) ?hic21 (by kernel_rfl) (by kernel_rfl) (by kernel_rfl) ?hqc21 ?hyc21 hHeld ?_
    case hic21 => simp only [zga, zgs, zgz]; rfl
    case hqc21 => exact fun _ _ _ h => h
    case hyc21 => refine .inl ⟨by rfl, ?_⟩; intro w' hSw; (try dsimp only at hSw); go_simp; try with_reducible rfl
    simp only [Act.put, zsa, zsz, zss];refine wpAnyH_take (i := 22) (oi := ?oic22) (v := ?vvc22) ?hic22 (by kernel_rfl) (by kernel_rfl) (by kernel_rfl) ?hqc22 ?hyc22 hHeld ?_
    case hic22 => simp only [zga, zgs, zgz]; rfl
    case hqc22 => exact fun _ _ _ h => h
    case hyc22 => refine .inl ⟨by rfl, ?_⟩; intro w' hSw; (try dsimp only at hSw); go_simp; try with_reducible rfl
    simp only [Act.put, zsa, zsz, zss];refine wpAnyH_take (i := 23) (oi := ?oic23) (v := ?vvc23) ?hic23 (by kernel_rfl) (by kernel_rfl) (by kernel_rfl) ?hqc23 ?hyc23 hHeld ?_
    case hic23 => simp only [zga, zgs, zgz]; rfl
    case hqc23 => exact fun _ _ _ h => h
    case hyc23 => refine .inl ⟨by rfl, ?_⟩; intro w' hSw; (try dsimp only at hSw); go_simp; try with_reducible rfl
    simp only [Act.put, zsa, zsz, zss];refine wpAnyH_ready (rs := [24]) (by kernel_rfl) (by simp) ?_;refine AllReadyH.cons (o := ?oic24) ?hic24 (fun K hK => ?_) AllReadyH.nil
    case hic24 => simp only [zga, zgs, zgz]; rfl
    go_simp;refine (HCT.out _ hHeld.2.2.2.2.2.2).mono ?_;rintro e v24 ⟨rfl, rfl⟩;go_wp2_with fail
    refine hK.out _ _ (hHeld) (fun hN => ?_);clear hK K hHeld;have hHeld := hN;clear hN
    try simp only [Act.put, zsa, zsz, zss]
    refine wpAnyH_take (i := 25) (oi := ?oic25) (v := ?vvc25) ?hic25 (by kernel_rfl) (by kernel_rfl) (by kernel_rfl) ?hqc25 ?hyc25 hHeld ?_
    case hic25 => simp only [zga, zgs, zgz]; rfl
    case hqc25 => exact fun _ _ _ h => h
    case hyc25 => refine .inl ⟨by rfl, ?_⟩; intro w' hSw; (try dsimp only at hSw); go_simp; try with_reducible rfl
    simp only [Act.put, zsa, zsz, zss];refine wpAnyH_take (i := 26) (oi := ?oic26) (v := ?vvc26) ?hic26 (by kernel_rfl) (by kernel_rfl) (by kernel_rfl) ?hqc26 ?hyc26 hHeld ?_
    case hic26 => simp only [zga, zgs, zgz]; rfl
    case hqc26 => exact fun _ _ _ h => h
    case hyc26 => refine .inl ⟨by rfl, ?_⟩; intro w' hSw; (try dsimp only at hSw); go_simp; try with_reducible rfl
    simp only [Act.put, zsa, zsz, zss];refine wpAnyH_take (i := 27) (oi := ?oic27) (v := ?vvc27) ?hic27 (by kernel_rfl) (by kernel_rfl) (by kernel_rfl) ?hqc27 ?hyc27 hHeld ?_
    case hic27 => simp only [zga, zgs, zgz]; rfl
    case hqc27 => exact fun _ _ _ h => h
    case hyc27 => refine .inl ⟨by rfl, ?_⟩; intro w' hSw; (try dsimp only at hSw); go_simp; try with_reducible rfl
    simp only [Act.put, zsa, zsz, zss];refine wpAnyH_done (by kernel_rfl) ?_ _;have hfin := hHeld.2.2.2.2.2.2;go_wp2;go_ret;exact ⟨by rfl, hfin⟩
   | false =>
    go_enter func96, ntmps96
    go_wp2_with fail
    refine wp_region_held_drew (S := (fun w' => w'.cell? ⟨w.heap.size, 2, none⟩ = some (.int .i64 xa) ∧ w'.cell? ⟨w.heap.size, 3, none⟩ = some (.int .i64 xb) ∧ w'.cell? ⟨w.heap.size, 6, none⟩ = some (.bool false) ∧ w'.cell? ⟨ib, io + 2, none⟩ = some (.int .i64 a) ∧ w'.cell? ⟨ib, io + 3, none⟩ = some (.int .i64 b) ∧ w'.cell? ⟨ib, io + 6, none⟩ = some (.slice va vn vc) ∧ Below w.heap.size w w')) (by kernel_rfl) (⟨by simp, by simp, by simp, d2, d3, d6, Below.drew (bel_alloc (Below.refl _ _) _)⟩) (fun hHeld => ?_);refine wpAnyH_take (i := 0) (oi := ?oid0) (v := ?vvd0) ?hid0 (by kernel_rfl) (by kernel_rfl) (by kernel_rfl) ?hqd0 ?hyd0 hHeld ?_
    case hid0 => simp only [zga, zgs, zgz]; rfl
    case hqd0 => exact fun _ _ _ h => h
    case hyd0 => refine .inl ⟨by rfl, ?_⟩; intro w' hSw; (try dsimp only at hSw); go_simp; try with_reducible rfl
    simp only [Act.put, zsa, zsz, zss];refine wpAnyH_take (i := 1) (oi := ?oid1) (v := ?vvd1) ?hid1 (by kernel_rfl) (by kernel_rfl) (by kernel_rfl) ?hqd1 ?hyd1 hHeld ?_
    case hid1 => simp only [zga, zgs, zgz]; rfl
    case hqd1 => exact fun _ _ _ h => h
    case hyd1 => refine .inl ⟨by rfl, ?_⟩; intro w' hSw; (try dsimp only at hSw); go_simp; try with_reducible rfl
    simp only [Act.put, zsa, zsz, zss];refine wpAnyH_take (i := 2) (oi := ?oid2) (v := ?vvd2) ?hid2 (by kernel_rfl) (by kernel_rfl) (by kernel_rfl) ?hqd2 ?hyd2 hHeld ?_
    case hid2 => simp only [zga, zgs, zgz]; rfl
    case hqd2 => exact fun _ _ _ h => h
    case hyd2 => refine .inl ⟨by rfl, ?_⟩; intro w' hSw; (try dsimp only at hSw); go_simp; try with_reducible rfl
    simp only [Act.put, zsa, zsz, zss];refine wpAnyH_take (i := 3) (oi := ?oid3) (v := ?vvd3) ?hid3 (by kernel_rfl) (by kernel_rfl) (by kernel_rfl) ?hqd3 ?hyd3 hHeld ?_
    case hid3 => simp only [zga, zgs, zgz]; rfl
    case hqd3 => exact fun _ _ _ h => h
    case hyd3 => refine .inl ⟨by rfl, ?_⟩; intro w' hSw; (try dsimp only at hSw); go_simp; try with_reducible rfl
    simp only [Act.put, zsa, zsz, zss];refine wpAnyH_take (i := 4) (oi := ?oid4) (v := ?vvd4) ?hid4 (by kernel_rfl) (by kernel_rfl) (by kernel_rfl) ?hqd4 ?hyd4 hHeld ?_
    case hid4 => simp only [zga, zgs, zgz]; rfl
    case hqd4 => exact fun _ _ _ h => h
    case hyd4 => refine .inl ⟨by rfl, ?_⟩; intro w' hSw; (try dsimp only at hSw); go_simp; try with_reducible rfl
    simp only [Act.put, zsa, zsz, zss];refine wpAnyH_take (i := 5) (oi := ?oid5) (v := ?vvd5) ?hid5 (by kernel_rfl) (by kernel_rfl) (by kernel_rfl) ?hqd5 ?hyd5 hHeld ?_
    case hid5 => simp only [zga, zgs, zgz]; rfl
    case hqd5 => exact fun _ _ _ h => h
    case hyd5 => refine .inl ⟨by rfl, ?_⟩; intro w' hSw; (try dsimp only at hSw); go_simp; try with_reducible rfl
    simp only [Act.put, zsa, zsz, zss];refine wpAnyH_ready (rs := [6]) (by kernel_rfl) (by simp) ?_;refine AllReadyH.cons (o := ?oid6) ?hid6 (fun K hK => ?_) AllReadyH.nil
    case hid6 => simp only [zga, zgs, zgz]; rfl
    go_simp;refine (HLA.out _).mono ?_;rintro e v6 ⟨rfl, rfl⟩;go_wp2_with fail
    refine hK.out _ _ (hHeld) (fun hN => ?_);clear hK K hHeld;have hHeld := hN;clear hN
    try simp only [Act.put, zsa, zsz, zss]
    refine wpAnyH_take (i := 7) (oi := ?oid7) (v := ?vvd7) ?hid7 (by kernel_rfl) (by kernel_rfl) (by kernel_rfl) ?hqd7 ?hyd7 hHeld ?_
    case hid7 => simp only [zga, zgs, zgz]; rfl
    case hqd7 => exact fun _ _ _ h => h
    case hyd7 => refine .inl ⟨by rfl, ?_⟩; intro w' hSw; (try dsimp only at hSw); go_simp; try with_reducible rfl
    simp only [Act.put, zsa, zsz, zss];refine wpAnyH_take (i := 8) (oi := ?oid8) (v := ?vvd8) ?hid8 (by kernel_rfl) (by kernel_rfl) (by kernel_rfl) ?hqd8 ?hyd8 hHeld ?_
    case hid8 => simp only [zga, zgs, zgz]; rfl
    case hqd8 => exact fun _ _ _ h => h
    case hyd8 => refine .inl ⟨by rfl, ?_⟩; intro w' hSw; (try dsimp only at hSw); go_simp; try with_reducible rfl
    simp only [Act.put, zsa, zsz, zss];refine wpAnyH_take (i := 9) (oi := ?oid9) (v := ?vvd9) ?hid9 (by kernel_rfl) (by kernel_rfl) (by kernel_rfl) ?hqd9 ?hyd9 hHeld ?_
    case hid9 => simp only [zga, zgs, zgz]; rfl
    case hqd9 => exact fun _ _ _ h => h
    case hyd9 => refine .inl ⟨by rfl, ?_⟩; intro w' hSw; (try dsimp only at hSw); go_simp; try with_reducible rfl
    simp only [Act.put, zsa, zsz, zss];refine wpAnyH_take (i := 10) (oi := ?oid10) (v := ?vvd10) ?hid10 (by kernel_rfl) (by kernel_rfl) (by kernel_rfl) ?hqd10 ?hyd10 hHeld ?_
    case hid10 => simp only [zga, zgs, zgz]; rfl
    case hqd10 => exact fun _ _ _ h => h
    case hyd10 => refine .inl ⟨by rfl, ?_⟩; intro w' hSw; (try dsimp only at hSw); go_simp; try with_reducible rfl
    simp only [Act.put, zsa, zsz, zss];refine wpAnyH_take (i := 11) (oi := ?oid11) (v := ?vvd11) ?hid11 (by kernel_rfl) (by kernel_rfl) (by kernel_rfl) ?hqd11 ?hyd11 hHeld ?_
    case hid11 => simp only [zga, zgs, zgz]; rfl
    case hqd11 => exact fun _ _ _ h => h
    case hyd11 => refine .inl ⟨by rfl, ?_⟩; intro w' hSw; (try dsimp only at hSw); go_simp; try with_reducible rfl
    simp only [Act.put, zsa, zsz, zss];refine wpAnyH_take (i := 12) (oi := ?oid12) (v := ?vvd12) ?hid12 (by kernel_rfl) (by kernel_rfl) (by kernel_rfl) ?hqd12 ?hyd12 hHeld ?_
    case hid12 => simp only [zga, zgs, zgz]; rfl
    case hqd12 => exact fun _ _ _ h => h
    case hyd12 => refine .inl ⟨by rfl, ?_⟩; intro w' hSw; (try dsimp only at hSw); go_simp; try with_reducible rfl
    simp only [Act.put, zsa, zsz, zss];refine wpAnyH_take (i := 13) (oi := ?oid13) (v := ?vvd13) ?hid13 (by kernel_rfl) (by kernel_rfl) (by kernel_rfl) ?hqd13 ?hyd13 hHeld ?_
    case hid13 => simp only [zga, zgs, zgz]; rfl
    case hqd13 => exact fun _ _ _ h => h
    case hyd13 => refine .inl ⟨by rfl, ?_⟩; intro w' hSw; (try dsimp only at hSw); go_simp; try with_reducible rfl
    simp only [Act.put, zsa, zsz, zss];refine wpAnyH_ready (rs := [14]) (by kernel_rfl) (by simp) ?_;refine AllReadyH.cons (o := ?oid14) ?hid14 (fun K hK => ?_) AllReadyH.nil
    case hid14 => simp only [zga, zgs, zgz]; rfl
    go_simp;refine (HLB.out _).mono ?_;rintro e v14 ⟨rfl, rfl⟩;go_wp2_with fail
    refine hK.out _ _ (hHeld) (fun hN => ?_);clear hK K hHeld;have hHeld := hN;clear hN
    try simp only [Act.put, zsa, zsz, zss]
    refine wpAnyH_take (i := 15) (oi := ?oid15) (v := ?vvd15) ?hid15 (by kernel_rfl) (by kernel_rfl) (by kernel_rfl) ?hqd15 ?hyd15 hHeld ?_
    case hid15 => simp only [zga, zgs, zgz]; rfl
    case hqd15 => exact fun _ _ _ h => h
    case hyd15 => refine .inl ⟨by rfl, ?_⟩; intro w' hSw; (try dsimp only at hSw); go_simp; try with_reducible rfl
    simp only [Act.put, zsa, zsz, zss];refine wpAnyH_take (i := 16) (oi := ?oid16) (v := ?vvd16) ?hid16 (by kernel_rfl) (by kernel_rfl) (by kernel_rfl) ?hqd16 ?hyd16 hHeld ?_
    case hid16 => simp only [zga, zgs, zgz]; rfl
    case hqd16 => exact fun _ _ _ h => h
    case hyd16 => refine .inl ⟨by rfl, ?_⟩; intro w' hSw; (try dsimp only at hSw); go_simp; try with_reducible rfl
    simp only [Act.put, zsa, zsz, zss];refine wpAnyH_take (i := 17) (oi := ?oid17) (v := ?vvd17) ?hid17 (by kernel_rfl) (by kernel_rfl) (by kernel_rfl) ?hqd17 ?hyd17 hHeld ?_
    case hid17 => simp only [zga, zgs, zgz]; rfl
    case hqd17 => exact fun _ _ _ h => h
    case hyd17 => refine .inl ⟨by rfl, ?_⟩; intro w' hSw; (try dsimp only at hSw); go_simp; try with_reducible rfl
    simp only [Act.put, zsa, zsz, zss];refine wpAnyH_take (i := 18) (oi := ?oid18) (v := ?vvd18) ?hid18 (by kernel_rfl) (by kernel_rfl) (by kernel_rfl) ?hqd18 ?hyd18 hHeld ?_
    case hid18 => simp only [zga, zgs, zgz]; rfl
    case hqd18 => exact fun _ _ _ h => h
    case hyd18 => refine .inl ⟨by rfl, ?_⟩; intro w' hSw; (try dsimp only at hSw); go_simp; try with_reducible rfl
    simp only [Act.put, zsa, zsz, zss];refine wpAnyH_take (i := 19) (oi := ?oid19) (v := ?vvd19) ?hid19 (by kernel_rfl) (by kernel_rfl) (by kernel_rfl) ?hqd19 ?hyd19 hHeld ?_
    case hid19 => simp only [zga, zgs, zgz]; rfl
    case hqd19 => exact fun _ _ _ h => h
    case hyd19 => refine .inl ⟨by rfl, ?_⟩; intro w' hSw; (try dsimp only at hSw); go_simp; try with_reducible rfl
    simp only [Act.put, zsa, zsz, zss];refine wpAnyH_take (i := 20) (oi := ?oid20) (v := undef) ?hid20 (by kernel_rfl) (by kernel_rfl) (by kernel_rfl) ?hqd20 ?hyd20 hHeld ?_
    case hid20 => simp only [zga, zgs, zgz]; rfl
    case hqd20 => exact fun _ _ _ h => h
    case hyd20 => exact Or.inr ⟨by rfl, rfl⟩
    simp only [Act.put, zsa, zsz, zss];refine wpAnyH_take (i := 21) (oi := ?oid21) (v := undef) ?hid21 (by kernel_rfl) (by kernel_rfl) (by kernel_rfl) ?hqd21 ?hyd21 hHeld ?_
    case hid21 => simp only [zga, zgs, zgz]; rfl
    case hqd21 => exact fun _ _ _ h => h
    case hyd21 => exact Or.inr ⟨by rfl, rfl⟩
    simp only [Act.put, zsa, zsz, zss];refine wpAnyH_take (i := 22) (oi := ?oid22) (v := undef) ?hid22 (by kernel_rfl) (by kernel_rfl) (by kernel_rfl) ?hqd22 ?hyd22 hHeld ?_
    case hid22 => simp only [zga, zgs, zgz]; rfl
    case hqd22 => exact fun _ _ _ h => h
    case hyd22 => exact Or.inr ⟨by rfl, rfl⟩
    simp only [Act.put, zsa, zsz, zss];refine wpAnyH_take (i := 23) (oi := ?oid23) (v := undef) ?hid23 (by kernel_rfl) (by kernel_rfl) (by kernel_rfl) ?hqd23 ?hyd23 hHeld ?_
    case hid23 => simp only [zga, zgs, zgz]; rfl
    case hqd23 => exact fun _ _ _ h => h
    case hyd23 => exact Or.inr ⟨by rfl, rfl⟩
    simp only [Act.put, zsa, zsz, zss];refine wpAnyH_ready (rs := [24]) (by kernel_rfl) (by simp) ?_;refine AllReadyH.cons (o := ?oid24) ?hid24 (fun K hK => ?_) AllReadyH.nil
    case hid24 => simp only [zga, zgs, zgz]; rfl
    go_simp;refine hK.out _ _ hHeld (fun hN => ?_);clear hK K hHeld;have hHeld := hN;clear hN
    try simp only [Act.put, zsa, zsz, zss]
    refine wpAnyH_take (i := 25) (oi := ?oid25) (v := ?vvd25) ?hid25 (by kernel_rfl) (by kernel_rfl) (by kernel_rfl) ?hqd25 ?hyd25 hHeld ?_
    case hid25 => simp only [zga, zgs, zgz]; rfl
    case hqd25 => exact fun _ _ _ h => h
    case hyd25 => refine .inl ⟨by rfl, ?_⟩; intro w' hSw; (try dsimp only at hSw); go_simp; try with_reducible rfl
    simp only [Act.put, zsa, zsz, zss];refine wpAnyH_take (i := 26) (oi := ?oid26) (v := ?vvd26) ?hid26 (by kernel_rfl) (by kernel_rfl) (by kernel_rfl) ?hqd26 ?hyd26 hHeld ?_
    case hid26 => simp only [zga, zgs, zgz]; rfl
    case hqd26 => exact fun _ _ _ h => h
    case hyd26 => refine .inl ⟨by rfl, ?_⟩; intro w' hSw; (try dsimp only at hSw); go_simp; try with_reducible rfl
    simp only [Act.put, zsa, zsz, zss];refine wpAnyH_take (i := 27) (oi := ?oid27) (v := ?vvd27) ?hid27 (by kernel_rfl) (by kernel_rfl) (by kernel_rfl) ?hqd27 ?hyd27 hHeld ?_
    case hid27 => simp only [zga, zgs, zgz]; rfl
    case hqd27 => exact fun _ _ _ h => h
    case hyd27 => refine .inl ⟨by rfl, ?_⟩; intro w' hSw; (try dsimp only at hSw); go_simp; try with_reducible rfl
    simp only [Act.put, zsa, zsz, zss];refine wpAnyH_done (by kernel_rfl) ?_ _;have hfin := hHeld.2.2.2.2.2.2;go_wp2;go_ret;exact ⟨by rfl, hfin⟩
theorem lacksRegister_any (x : Sp) (ib io : Nat) (a b : Int) (va : Option Addr) (vn vc : Nat) (l : List Int) (w : World) (e2 : w.cell? ⟨ib, io + 2, none⟩ = some (.int .i64 a)) (e3 : w.cell? ⟨ib, io + 3, none⟩ = some (.int .i64 b)) (e6 : w.cell? ⟨ib, io + 6, none⟩ = some (.slice va vn vc)) (hil : IL w (.slice va vn vc) l) :
  Calls prog 96 #[spV x, .pointer (some ⟨ib, io, none⟩)] w (retP (.bool (lackS x a b l)) w) := by
 obtain ⟨nm, xsb, xa, xb, xd, xk, xg, xs, xt⟩ := x;exact lacksRegister_walk nm xsb xa xb xd xk xg xs xt ib io a b va vn vc l w e2 e3 e6 hil
end Go.Proofs.YtncondlfngeilaaGreatDoor
