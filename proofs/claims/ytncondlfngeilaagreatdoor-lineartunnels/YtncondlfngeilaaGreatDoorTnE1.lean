
import Derived.Test.YtncondlfngeilaaGreatDoorTzA
import Derived.Test.YtncondlfngeilaaGreatDoorTzB
namespace Go.Proofs.YtncondlfngeilaaGreatDoor
open Go.ChangeShapes Go.WideShapes Go.ChangeAt Go.RowKit Go.Proofs.Tryz
set_option linter.unusedSimpArgs false
set_option linter.unusedVariables false
set_option maxRecDepth 100000
set_option maxHeartbeats 8000000


noncomputable def tnReg : Code := ((Tryz.f31.body.bind (regionNF 8)).getD .skip)
theorem tn_reg0 (NX NB n B x t k c : Nat) (a : Option Addr) (l0 : List Value) (z0z z1z z2z z4z z7z z8z z9z z10z z11z z12z z13z z14z z15z z16z z17z z18z z19z z20z z21z z22z z23z z24z z25z z26z z27z z28z z29z z30z z31z z32z z33z z34z z35z z36z z37z z38z z39z z40z z41z z42z z43z z44z z45z z46z z47z z48z z49z z50z z51z z52z z53z z54z z55z z56z z57z z58z z59z z60z z61z z62z z63z z64z z65z z66z : Value) (DF : List Deferred) (Q0 : Exit → Act → World → Prop) (w1 : World)
  (hQ0 : ∀ c (a : Act) (dd : Option Tmp) v x, Q0 (.panic c) (a.put dd v) x → Q0 (.panic c) a x)
  (h1 : w1.cell? ⟨NX, 7, none⟩ = some (.int .i64 x)) (cv : w1.cell? ⟨NB, x, none⟩ = some (.slice a k c)) (zv : w1.frozen? ⟨NB, x, none⟩ = false)
  (j0 : (0 : Int) ≤ x) (j1 : (x : Int) < n) (hk : k ≤ 1000000000000) (HO : Hid (w1.ownsRow B 3 1 (.slice a k c) k l0)) (HBS0 : Hid (B ≤ w1.heap.size)) (HNB : Hid (some NB ≠ (Value.slice a k c).ownBlock)) (HNX : Hid (some NX ≠ (Value.slice a k c).ownBlock)) (HNE : Hid (NX ≠ NB))
  (HK : Hid (∀ y31 y32 y33 y34 y35 y36 y37 y38 y39 y40 y41 y42 a2 c2 w3, w3.ownsRow B 3 1 (.slice a2 (k + 1) c2) (k + 1) (l0 ++ [.int .i64 t]) → w1.grownBy w3 (Value.slice a k c).ownBlock → ((Value.slice a2 (k + 1) c2).ownBlock = (Value.slice a k c).ownBlock ∨ (Value.slice a2 (k + 1) c2).ownBlock = some (w1.heap.size + 1)) → Q0 .normal ⟨#[z0z, z1z, z2z, .slice (some ⟨NB, 0, none⟩) n n, z4z, .int .i64 (t : Int), .pointer (some ⟨NX, 0, none⟩), z7z, z8z, z9z, z10z, z11z, z12z, z13z, z14z, z15z, z16z, z17z, z18z, z19z, z20z, z21z, z22z, z23z, z24z, z25z, z26z, z27z, z28z, z29z, z30z, y31, y32, y33, y34, y35, y36, y37, y38, y39, y40, y41, y42, z43z, z44z, z45z, z46z, z47z, z48z, z49z, z50z, z51z, z52z, z53z, z54z, z55z, z56z, z57z, z58z, z59z, z60z, z61z, z62z, z63z, z64z, z65z, z66z], DF⟩ (w3.setCell ⟨NB, x, none⟩ (.slice a2 (k + 1) c2)))) :
  Code.wp prog tnReg Q0 ⟨#[z0z, z1z, z2z, .slice (some ⟨NB, 0, none⟩) n n, z4z, .int .i64 (t : Int), .pointer (some ⟨NX, 0, none⟩), z7z, z8z, z9z, z10z, z11z, z12z, z13z, z14z, z15z, z16z, z17z, z18z, z19z, z20z, z21z, z22z, z23z, z24z, z25z, z26z, z27z, z28z, z29z, z30z, z31z, z32z, z33z, z34z, z35z, z36z, z37z, z38z, z39z, z40z, z41z, z42z, z43z, z44z, z45z, z46z, z47z, z48z, z49z, z50z, z51z, z52z, z53z, z54z, z55z, z56z, z57z, z58z, z59z, z60z, z61z, z62z, z63z, z64z, z65z, z66z], DF⟩ w1 := by
 obtain ⟨i0, hi, hz0, hz1, hz2⟩ : ∃ i0, prog.info? 3 = some i0 ∧ i0.zero = some (.int .i64 0) ∧ i0.size = 1 ∧ i0.bytes = 8 := info_parts (by kernel_rfl);have HI := hidF (And.intro hi (And.intro hz0 (And.intro hz1 hz2)));clear hi hz0 hz1 hz2;have HOA : Hid ((w1.drew.alloc (.cells #[.int .i64 t] 3)).ownsRow B 3 1 (.slice a k c) k l0) := World.ownsRow.alloc (w := w1.drew) HO.out _
 have HSR : Hid (Srow (w1.drew.alloc (.cells #[.int .i64 t] 3)) (.slice (some ⟨w1.heap.size, 0, none⟩) 1 1) 1 [.int .i64 t]) := by
  refine .inl ⟨_, _, rfl, fun j u hj => ?_⟩
  match j, hj with
  | 0, hj =>
   cases hj
   rw [show (⟨w1.heap.size, 0, none⟩ : Addr).add 0 = ⟨w1.heap.size, 0 + 0, none⟩ from Addr.add_mid _ _ _];exact cell_new w1.drew (.int .i64 t) 3 (by rfl)
  | j + 1, hj => simp at hj
 have HON : Hid (∀ u ∈ [Value.int .i64 t], u.oneCell' = true) := fun u hu => by cases List.mem_singleton.1 hu; rfl
 have HM : Hid (k + 1 ≤ maxLen ∧ (k + 1) * 8 ≤ 140737488355328) := ⟨by unfold maxLen; omega, by omega⟩
 have HBS : Hid (B ≤ (w1.drew.alloc (.cells #[.int .i64 t] 3)).heap.size) := by
  show _ ≤ _
  rw [World.size_alloc];have := HBS0.out;have : w1.drew.heap.size = w1.heap.size := rfl
  omega
 have x7 : ∀ o, (w1.drew.alloc o).cell? ⟨NB, x, none⟩ = some (.slice a k c) := fun o => keep_alloc (w := w1.drew) cv o;have x7' : ∀ o, (w1.alloc o).cell? ⟨NB, x, none⟩ = some (.slice a k c) := fun o => keep_alloc (w := w1) cv o
 conv => arg 2; whnf
 refine wp_region_held_drew (S := (fun w' => w'.cell? ⟨NX, 7, none⟩ = some (.int .i64 x))) (by kernel_rfl) (h1) (fun hHeld => ?_);refine wpAnyH_take (i := 0) (oi := ?o0) (v := ?v0) ?i0 (by kernel_rfl) (by kernel_rfl) (by kernel_rfl) ?q0 ?y0 hHeld ?_
 case i0 => simp only [zga, zgs, zgz]; rfl
 case q0 => exact fun _ _ _ h => hQ0 _ _ _ _ _ h
 case y0 => refine .inl ⟨by rfl, ?_⟩; intro w' hSw; (try dsimp only at hSw); go_simp; try with_reducible rfl
 simp only [Act.put, zsa, zsz, zss];refine wpAnyH_take (i := 1) (oi := ?o1) (v := ?v1) ?i1 (by kernel_rfl) (by kernel_rfl) (by kernel_rfl) ?q1 ?y1 hHeld ?_
 case i1 => simp only [zga, zgs, zgz]; rfl
 case q1 => exact fun _ _ _ h => hQ0 _ _ _ _ _ h
 case y1 => refine .inl ⟨by rfl, ?_⟩; intro w' hSw; (try dsimp only at hSw); go_simp; try with_reducible rfl
 simp only [Act.put, zsa, zsz, zss];refine wpAnyH_take (i := 2) (oi := ?o2) (v := ?v2) ?i2 (by kernel_rfl) (by kernel_rfl) (by kernel_rfl) ?q2 ?y2 hHeld ?_
 case i2 => simp only [zga, zgs, zgz]; rfl
 case q2 => exact fun _ _ _ h => hQ0 _ _ _ _ _ h
 case y2 => refine .inl ⟨by rfl, ?_⟩; intro w' hSw; (try dsimp only at hSw); go_simp; try with_reducible rfl
 simp only [Act.put, zsa, zsz, zss];refine wpAnyH_take (i := 3) (oi := ?o3) (v := ?v3) ?i3 (by kernel_rfl) (by kernel_rfl) (by kernel_rfl) ?q3 ?y3 hHeld ?_
 case i3 => simp only [zga, zgs, zgz]; rfl
 case q3 => exact fun _ _ _ h => hQ0 _ _ _ _ _ h
 case y3 => refine .inl ⟨by rfl, ?_⟩; intro w' hSw; (try dsimp only at hSw); go_simp; try with_reducible rfl
 simp only [Act.put, zsa, zsz, zss];refine wpAnyH_take (i := 4) (oi := ?o4) (v := ?v4) ?i4 (by kernel_rfl) (by kernel_rfl) (by kernel_rfl) ?q4 ?y4 hHeld ?_
 case i4 => simp only [zga, zgs, zgz]; rfl
 case q4 => exact fun _ _ _ h => hQ0 _ _ _ _ _ h
 case y4 => refine .inl ⟨by rfl, ?_⟩; intro w' hSw; (try dsimp only at hSw); go_simp; try with_reducible rfl
 simp only [Act.put, zsa, zsz, zss];refine wpAnyH_take (i := 5) (oi := ?o5) (v := ?v5) ?i5 (by kernel_rfl) (by kernel_rfl) (by kernel_rfl) ?q5 ?y5 hHeld ?_
 case i5 => simp only [zga, zgs, zgz]; rfl
 case q5 => exact fun _ _ _ h => hQ0 _ _ _ _ _ h
 case y5 => refine .inl ⟨by rfl, ?_⟩; intro w' hSw; (try dsimp only at hSw); go_simp; try with_reducible rfl
 simp only [Act.put, zsa, zsz, zss];refine wpAnyH_take (i := 6) (oi := ?o6) (v := ?v6) ?i6 (by kernel_rfl) (by kernel_rfl) (by kernel_rfl) ?q6 ?y6 hHeld ?_
 case i6 => simp only [zga, zgs, zgz]; rfl
 case q6 => exact fun _ _ _ h => hQ0 _ _ _ _ _ h
 case y6 => refine .inl ⟨by rfl, ?_⟩; intro w' hSw; (try dsimp only at hSw); go_simp; try with_reducible rfl
 simp only [Act.put, zsa, zsz, zss];refine wpAnyH_take (i := 8) (oi := ?o7) (v := ?v7) ?i7 (by kernel_rfl) (by kernel_rfl) (by kernel_rfl) ?q7 ?y7 hHeld ?_
 case i7 => simp only [zga, zgs, zgz]; rfl
 case q7 => exact fun _ _ _ h => hQ0 _ _ _ _ _ h
 case y7 => refine .inl ⟨by rfl, ?_⟩; intro w' hSw; (try dsimp only at hSw); go_simp; try with_reducible rfl
 simp only [Act.put, zsa, zsz, zss];refine wpAnyH_ready (rs := [7, 9]) (by kernel_rfl) (by simp) ?_;refine (AllReadyH.cons (o := ?o8) ?i8 (fun K hK => ?g8) (AllReadyH.cons (o := ?o9) ?i9 (fun K hK => ?g9) AllReadyH.nil))
 case i8 => simp only [zga, zgs, zgz]; rfl
 case i9 => simp only [zga, zgs, zgz]; rfl
 case g8 =>
  go_simp;refine hK.out _ _ (hHeld) (fun hN => ?_);clear hK K hHeld;have hHeld := hN;clear hN
  try simp only [Act.put, zsa, zsz, zss]
  refine zr (r := 9) (o := ?o10) (by kernel_rfl) ?i10 (fun K hK => ?g10)
  case i10 => simp only [zga, zgs, zgz]; rfl
  case g10 =>
   go_simp;refine hK.out _ _ (keep_alloc hHeld _) (fun hN => ?_);clear hK K hHeld;have hHeld := hN;clear hN
   try simp only [Act.put, zsa, zsz, zss]
   refine zr (r := 10) (o := ?o11) (by kernel_rfl) ?i11 (fun K hK => ?g11)
   case i11 => simp only [zga, zgs, zgz]; rfl
   case g11 =>
    refine step_append_any _ (by rfl) _ _ 22 (by rfl) B 3 i0 (.int .i64 0) 1 8 underlying22 HI.out.1 HI.out.2.1 HI.out.2.2.1 HI.out.2.2.2 rfl (by decide) (.slice a k c) k l0 (by rfl) HOA.out (.slice (some ⟨w1.heap.size, 0, none⟩) 1 1) 1 [.int .i64 t] (by rfl) (by rfl) HSR.out HON.out HM.out.1 HM.out.2 HBS.out _ rfl ?_;intro a2 c2 w3 hown hgrow hblk;have HO3 : Hid (w3.ownsRow B 3 1 (.slice a2 (k + 1) c2) (k + 1) (l0 ++ [.int .i64 t])) := hown;have HG3 : Hid (w1.grownBy w3 (Value.slice a k c).ownBlock) := hidF (grown_drew (grown_alloc (w := w1.drew) hgrow));have HB3 : Hid ((Value.slice a2 (k + 1) c2).ownBlock = (Value.slice a k c).ownBlock ∨ (Value.slice a2 (k + 1) c2).ownBlock = some (w1.heap.size + 1)) := hidF (by first | exact hblk | simpa using hblk);have hv3 := HG3.out.cell cv HNB.out;have hz3 := (World.frozen?_of_block (w := w1) (HG3.out.block NB (block_lt_of_cell cv) HNB.out)).trans zv;have h13 := HG3.out.cell h1 HNX.out;clear hown hgrow hblk;refine hK.out _ _ (h13) (fun hN => ?_);clear hK K hHeld;have hHeld := hN;clear hN
    try simp only [Act.put, zsa, zsz, zss]
    refine wpAnyH_take (i := 11) (oi := ?o12) (v := ?v12) ?i12 (by kernel_rfl) (by kernel_rfl) (by kernel_rfl) ?q12 ?y12 hHeld ?_
    case i12 => simp only [zga, zgs, zgz]; rfl
    case q12 => exact fun _ _ _ h => hQ0 _ _ _ _ _ h
    case y12 => refine .inl ⟨by rfl, ?_⟩; intro w' hSw; (try dsimp only at hSw); go_simp; try with_reducible rfl
    simp only [Act.put, zsa, zsz, zss];refine zr (r := 12) (o := ?o13) (by kernel_rfl) ?i13 (fun K hK => ?g13)
    case i13 => simp only [zga, zgs, zgz]; rfl
    case g13 =>
     go_simp;refine hK.out _ _ (keep_set h13 HNE.out) (fun hN => ?_);clear hK K hHeld;have hHeld := hN;clear hN
     try simp only [Act.put, zsa, zsz, zss]
     refine wpAnyH_done (by kernel_rfl) ?_ _;exact HK.out _ _ _ _ _ _ _ _ _ _ _ _ a2 c2 w3 HO3.out HG3.out HB3.out
 case g9 =>
  go_simp;refine hK.out _ _ (keep_alloc hHeld _) (fun hN => ?_);clear hK K hHeld;have hHeld := hN;clear hN
  try simp only [Act.put, zsa, zsz, zss]
  refine zr (r := 7) (o := ?o14) (by kernel_rfl) ?i14 (fun K hK => ?g14)
  case i14 => simp only [zga, zgs, zgz]; rfl
  case g14 =>
   go_simp;refine hK.out _ _ (hHeld) (fun hN => ?_);clear hK K hHeld;have hHeld := hN;clear hN
   try simp only [Act.put, zsa, zsz, zss]
   refine zr (r := 10) (o := ?o15) (by kernel_rfl) ?i15 (fun K hK => ?g15)
   case i15 => simp only [zga, zgs, zgz]; rfl
   case g15 =>
    refine step_append_any _ (by rfl) _ _ 22 (by rfl) B 3 i0 (.int .i64 0) 1 8 underlying22 HI.out.1 HI.out.2.1 HI.out.2.2.1 HI.out.2.2.2 rfl (by decide) (.slice a k c) k l0 (by rfl) HOA.out (.slice (some ⟨w1.heap.size, 0, none⟩) 1 1) 1 [.int .i64 t] (by rfl) (by rfl) HSR.out HON.out HM.out.1 HM.out.2 HBS.out _ rfl ?_;intro a2 c2 w3 hown hgrow hblk;have HO3 : Hid (w3.ownsRow B 3 1 (.slice a2 (k + 1) c2) (k + 1) (l0 ++ [.int .i64 t])) := hown;have HG3 : Hid (w1.grownBy w3 (Value.slice a k c).ownBlock) := hidF (grown_drew (grown_alloc (w := w1.drew) hgrow));have HB3 : Hid ((Value.slice a2 (k + 1) c2).ownBlock = (Value.slice a k c).ownBlock ∨ (Value.slice a2 (k + 1) c2).ownBlock = some (w1.heap.size + 1)) := hidF (by first | exact hblk | simpa using hblk);have hv3 := HG3.out.cell cv HNB.out;have hz3 := (World.frozen?_of_block (w := w1) (HG3.out.block NB (block_lt_of_cell cv) HNB.out)).trans zv;have h13 := HG3.out.cell h1 HNX.out;clear hown hgrow hblk;refine hK.out _ _ (h13) (fun hN => ?_);clear hK K hHeld;have hHeld := hN;clear hN
    try simp only [Act.put, zsa, zsz, zss]
    refine wpAnyH_take (i := 11) (oi := ?o16) (v := ?v16) ?i16 (by kernel_rfl) (by kernel_rfl) (by kernel_rfl) ?q16 ?y16 hHeld ?_
    case i16 => simp only [zga, zgs, zgz]; rfl
    case q16 => exact fun _ _ _ h => hQ0 _ _ _ _ _ h
    case y16 => refine .inl ⟨by rfl, ?_⟩; intro w' hSw; (try dsimp only at hSw); go_simp; try with_reducible rfl
    simp only [Act.put, zsa, zsz, zss];refine zr (r := 12) (o := ?o17) (by kernel_rfl) ?i17 (fun K hK => ?g17)
    case i17 => simp only [zga, zgs, zgz]; rfl
    case g17 =>
     go_simp;refine hK.out _ _ (keep_set h13 HNE.out) (fun hN => ?_);clear hK K hHeld;have hHeld := hN;clear hN
     try simp only [Act.put, zsa, zsz, zss]
     refine wpAnyH_done (by kernel_rfl) ?_ _;exact HK.out _ _ _ _ _ _ _ _ _ _ _ _ a2 c2 w3 HO3.out HG3.out HB3.out
theorem tn_reg (NX NB n B x t : Nat) (rv : Nat → Value) (g : Nat → List Nat) (z0z z1z z2z z4z z7z z8z z9z z10z z11z z12z z13z z14z z15z z16z z17z z18z z19z z20z z21z z22z z23z z24z z25z z26z z27z z28z z29z z30z z31z z32z z33z z34z z35z z36z z37z z38z z39z z40z z41z z42z z43z z44z z45z z46z z47z z48z z49z z50z z51z z52z z53z z54z z55z z56z z57z z58z z59z z60z z61z z62z z63z z64z z65z z66z : Value) (DF : List Deferred) (Q0 : Exit → Act → World → Prop) (W : World)
  (hQ0 : ∀ c (a : Act) (dd : Option Tmp) v x, Q0 (.panic c) (a.put dd v) x → Q0 (.panic c) a x)
  (h1 : W.cell? ⟨NX, 7, none⟩ = some (.int .i64 x)) (hni : NI B NB n rv g W) (hx : x < n) (hg : (g x).length ≤ 1000000000000) (hB : B ≤ W.heap.size) (hfar : ∀ i, i < n → some NX ≠ (rv i).ownBlock) (hne : NX ≠ NB)
  (HK : ∀ y31 y32 y33 y34 y35 y36 y37 y38 y39 y40 y41 y42 (W' : World) rv', NI B NB n rv' (addG g x t) W' → (∀ k, k ≠ NB → k < W.heap.size → (∀ i, i < n → some k ≠ (rv i).ownBlock) → W'.heap[k]? = W.heap[k]?) → W.heap.size ≤ W'.heap.size → W'.os = W.os → W'.tape = W.tape → W'.output = W.output → (∀ i, i < n → ∀ b, (rv' i).ownBlock = some b → (rv i).ownBlock = some b ∨ W.heap.size ≤ b) → Q0 .normal ⟨#[z0z, z1z, z2z, .slice (some ⟨NB, 0, none⟩) n n, z4z, .int .i64 (t : Int), .pointer (some ⟨NX, 0, none⟩), z7z, z8z, z9z, z10z, z11z, z12z, z13z, z14z, z15z, z16z, z17z, z18z, z19z, z20z, z21z, z22z, z23z, z24z, z25z, z26z, z27z, z28z, z29z, z30z, y31, y32, y33, y34, y35, y36, y37, y38, y39, y40, y41, y42, z43z, z44z, z45z, z46z, z47z, z48z, z49z, z50z, z51z, z52z, z53z, z54z, z55z, z56z, z57z, z58z, z59z, z60z, z61z, z62z, z63z, z64z, z65z, z66z], DF⟩ W') :
  Code.wp prog tnReg Q0 ⟨#[z0z, z1z, z2z, .slice (some ⟨NB, 0, none⟩) n n, z4z, .int .i64 (t : Int), .pointer (some ⟨NX, 0, none⟩), z7z, z8z, z9z, z10z, z11z, z12z, z13z, z14z, z15z, z16z, z17z, z18z, z19z, z20z, z21z, z22z, z23z, z24z, z25z, z26z, z27z, z28z, z29z, z30z, z31z, z32z, z33z, z34z, z35z, z36z, z37z, z38z, z39z, z40z, z41z, z42z, z43z, z44z, z45z, z46z, z47z, z48z, z49z, z50z, z51z, z52z, z53z, z54z, z55z, z56z, z57z, z58z, z59z, z60z, z61z, z62z, z63z, z64z, z65z, z66z], DF⟩ W := by
 have hown := hni.own x hx;have hcx := hni.cell x hx;have hnx := hni.ne x hx;have hfx := hfar x hx
 obtain ⟨ra, rc, hrv⟩ : ∃ ra rc, rv x = .slice ra (g x).length rc := by
  rcases hown.2 with ⟨e1, e2⟩ | ⟨g', cap, cur, e1, _⟩
  ·exact ⟨none, 0, by rw [e1, e2]⟩
  ·exact ⟨_, cap, by rw [e1]⟩
 rw [hrv] at hown hcx hnx hfx;refine tn_reg0 NX NB n B x t (g x).length rc ra (intsF (up (g x))) _ _ _ _ _ _ _ _ _ _ _ _ _ _ _ _ _ _ _ _ _ _ _ _ _ _ _ _ _ _ _ _ _ _ _ _ _ _ _ _ _ _ _ _ _ _ _ _ _ _ _ _ _ _ _ _ _ _ _ _ _ _ _ _ DF Q0 W hQ0 h1 hcx.1 hcx.2 (by omega) (by omega) hg hown hB hnx hfx hne ?_;intro y31 y32 y33 y34 y35 y36 y37 y38 y39 y40 y41 y42 a2 c2 w3 q4 q5 q6;rw [← hrv] at q5 q6;have hp := hni.push hx q4 q5 q6 (Nat.le_succ _);refine HK y31 y32 y33 y34 y35 y36 y37 y38 y39 y40 y41 y42 _ _ hp (fun k h2 h3 h4 => ?_) (by rw [gsize_setF]; exact q5.size) q5.os q5.tape q5.output (fun i hi b hb => ?_)
 ·rw [gset_otherF h2, q5.block k h3 (h4 x hx)]
 ·unfold setR at hb
  by_cases e : i = x
  ·subst e
   rw [if_pos rfl] at hb
   rcases q6 with z | z
   ·exact .inl (z.symm.trans hb)
   ·rw [z] at hb
    injection hb with hb
    right
    rw [← hb]
    omega
  ·rw [if_neg e] at hb
   exact .inl hb

end Go.Proofs.YtncondlfngeilaaGreatDoor
