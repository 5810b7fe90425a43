import Derived.Test.YtncondlfngeilaaGreatDoorTzA
import Derived.Test.YtncondlfngeilaaGreatDoorTzE
import Derived.Test.YtncondlfngeilaaGreatDoorTzF
namespace Go.Proofs.YtncondlfngeilaaGreatDoor
open Go.ChangeShapes Go.WideShapes Go.ChangeAt Go.RowKit Go.Proofs.Tryz
set_option linter.unusedSimpArgs false
set_option linter.unusedVariables false
set_option maxRecDepth 100000
set_option maxHeartbeats 8000000

def retIc (n : Nat) (news : List Value) (w : World) : Ending → World → Prop := fun e w' => ∃ (a : Option Addr) (c : Nat), e = .returned (.slice a n c) ∧ w'.ownsRow w.heap.size 38 9 (.slice a n c) n news ∧ Below w.heap.size w w'
theorem iclone_any (ad : Addr) (n cap : Nat) (news : List Value) (w : World) (hl : news.length = n * 9) (hs : Srow w (.slice (some ad) n cap) n news) (h1 : ∀ u ∈ news, u.oneCell' = true) (h88 : n * 88 ≤ 140737488355328) :
  Calls prog 60 #[.slice (some ad) n cap] w (retIc n news w) := by
 have hq : ∀ w, (binOp .eql 23 (.slice (some ad) n cap) (.slice none 0 0)).run prog w = .ok (.bool false) w := fun w => Lib.run_eql_slice_nil w 23 38 (some ad) n cap 0 0 underlying23;obtain ⟨i0, hi, hz0, hz1, hz2⟩ : ∃ i0, prog.info? 38 = some i0 ∧ i0.zero = some (.agg #[.int .i64 0, .int .i64 0, .int .i64 0, .int .i64 0, .int .i64 0, .int .i64 0, .slice none 0 0, .int .i64 0, .int .i64 0]) ∧ i0.size = 9 ∧ i0.bytes = 88 := info_parts (by kernel_rfl);have HI := hidF (And.intro hi (And.intro hz0 (And.intro hz1 hz2)));have HSR := hidF (hs.keep (bel_alloc (Below.refl w.heap.size w) (.cells #[] 38)));have HL := hidF hl;have H1 := hidF h1;clear hi hz0 hz1 hz2 hs hl h1
 go_enter func60, ntmps60
 go_wp2_with (at_builtin; refine wpList_append_fresh _ (by rfl) _ _ 23 (by rfl) 38 i0 (.agg #[.int .i64 0, .int .i64 0, .int .i64 0, .int .i64 0, .int .i64 0, .int .i64 0, .slice none 0 0, .int .i64 0, .int .i64 0]) 9 88 underlying23 HI.out.1 HI.out.2.1 HI.out.2.2.1 HI.out.2.2.2 rfl (by decide) w.heap.size (by rfl) (xheap_new w _) (.slice (some ad) n cap) n news (by rfl) HL.out HSR.out H1.out (by unfold maxLen; omega) h88 ?_)
 intro a2 c2 w3 hown hgrow;have HO := hidF hown;have HB : Hid (Below w.heap.size w w3) := (bel_alloc (Below.refl w.heap.size w) _).trans (grown_below hgrow (by simp));clear hown hgrow;go_wp2;go_ret;exact ⟨_, _, rfl, HO.out, HB.out⟩
noncomputable def clR1 : Code := ((Tryz.f32.body.bind (regionNS 1)).getD .skip)
noncomputable def clR5 : Code := ((Tryz.f32.body.bind (regionNS 5)).getD .skip)
theorem cl_r1 (FB n cap : Nat) (ad : Addr) (pv0 : Value) (params : List Int) (news : List Value) (z0z z2z z3z z4z z5z z6z z7z z8z z9z z10z z11z z12z z13z z14z z15z z16z z17z z18z z19z z20z z21z z22z z23z z24z z25z z26z z27z z28z z29z z30z z31z : Value) (K : Act → World → Prop) (w1 : World)
  (f1 : w1.cell? ⟨FB, 1, none⟩ = some pv0) (z1 : w1.frozen? ⟨FB, 1, none⟩ = false) (f5 : w1.cell? ⟨FB, 5, none⟩ = some (.slice (some ad) n cap)) (z5 : w1.frozen? ⟨FB, 5, none⟩ = false) (hpv : ∃ pa pn pc, pv0 = .slice pa pn pc) (HP : Hid (IL w1 pv0 params)) (HL : Hid (news.length = n * 9)) (HSR : Hid (Srow w1 (.slice (some ad) n cap) n news)) (H1 : Hid (∀ u ∈ news, u.oneCell' = true)) (h88 : n * 88 ≤ 140737488355328)
  (HK : Hid (∀ (y4 y5 y6 y7 y8 y9 y10 y11 : Value) pa pc pn a5 c5 w3 w5, IL w3 (.slice pa pn pc) params → (∀ b o s n c, (.slice pa pn pc : Value) = .slice (some ⟨b, o, s⟩) n c → w1.heap.size ≤ b) → Below w1.heap.size w1 w3 → w5.ownsRow w3.heap.size 38 9 (.slice a5 n c5) n news → Below w3.heap.size w3 w5 → K ⟨#[z0z, .pointer (some ⟨FB, 0, none⟩), z2z, z3z, y4, y5, y6, y7, y8, y9, y10, y11, z12z, z13z, z14z, z15z, z16z, z17z, z18z, z19z, z20z, z21z, z22z, z23z, z24z, z25z, z26z, z27z, z28z, z29z, z30z, z31z], []⟩ ((w5.setCell ⟨FB, 1, none⟩ (.slice pa pn pc)).setCell ⟨FB, 5, none⟩ (.slice a5 n c5)))) :
  Code.wp prog clR1 (Exit.then K (fun _ _ _ => False)) ⟨#[z0z, .pointer (some ⟨FB, 0, none⟩), z2z, z3z, z4z, z5z, z6z, z7z, z8z, z9z, z10z, z11z, z12z, z13z, z14z, z15z, z16z, z17z, z18z, z19z, z20z, z21z, z22z, z23z, z24z, z25z, z26z, z27z, z28z, z29z, z30z, z31z], []⟩ w1 := by
 obtain ⟨pa0, pn0, pc0, rfl⟩ := hpv;have HSRd : Hid (Srow w1.drew (.slice (some ad) n cap) n news) := HSR
 conv => arg 2; whnf
 refine wp_region_held_drew (S := (fun _ => True)) (by kernel_rfl) (trivial) (fun hHeld => ?_);refine wpAnyH_take (i := 0) (oi := ?o0) (v := ?v0) ?i0 (by kernel_rfl) (by kernel_rfl) (by kernel_rfl) ?q0 ?y0 hHeld ?_
 case i0 => simp only [zga, zgs, zgz]; rfl
 case q0 => exact fun _ _ _ h => h.elim
 case y0 => refine .inl ⟨by rfl, ?_⟩; intro w' hSw; (try dsimp only at hSw); go_simp; try with_reducible rfl
 simp only [Act.put, zsa, zsz, zss];refine wpAnyH_take (i := 3) (oi := ?o1) (v := ?v1) ?i1 (by kernel_rfl) (by kernel_rfl) (by kernel_rfl) ?q1 ?y1 hHeld ?_
 case i1 => simp only [zga, zgs, zgz]; rfl
 case q1 => exact fun _ _ _ h => h.elim
 case y1 => refine .inl ⟨by rfl, ?_⟩; intro w' hSw; (try dsimp only at hSw); go_simp; try with_reducible rfl
 simp only [Act.put, zsa, zsz, zss];refine wpAnyH_ready (rs := [1, 4]) (by kernel_rfl) (by simp) ?_;refine (AllReadyH.cons (o := ?o2) ?i2 (fun K hK => ?g2) (AllReadyH.cons (o := ?o3) ?i3 (fun K hK => ?g3) AllReadyH.nil))
 case i2 => simp only [zga, zgs, zgz]; rfl
 case i3 => simp only [zga, zgs, zgz]; rfl
 case g2 =>
  go_simp;refine hK.out _ _ (trivial) (fun hN => ?_);clear hK K hHeld;have hHeld := hN;clear hN
  try simp only [Act.put, zsa, zsz, zss]
  refine wpAnyH_ready (rs := [2, 4]) (by kernel_rfl) (by simp) ?_;refine (AllReadyH.cons (o := ?o4) ?i4 (fun K hK => ?g4) (AllReadyH.cons (o := ?o5) ?i5 (fun K hK => ?g5) AllReadyH.nil))
  case i4 => simp only [zga, zgs, zgz]; rfl
  case i5 => simp only [zga, zgs, zgz]; rfl
  case g4 =>
   go_simp;refine (gclone_any (HP.out.keep (Below.drew (Below.refl _ _)))).mono ?_;rintro e w3 ⟨pv, rfl, hil, hfr, hb3⟩;obtain ⟨pa, pc, rfl, _⟩ := hil.partsF
   generalize hpn : params.length = pn at *
   have HIL := hidF hil;have HFR := hidF hfr;have HB3 : Hid (Below w1.heap.size w1 w3) := bel_trans (Below.drew (Below.refl _ _)) hb3;have g1 := keep_cell HB3.out f1;have g5 := keep_cell HB3.out f5;have u1 := keep_frozen HB3.out f1 z1;have u5 := keep_frozen HB3.out f5 z5;have HSR3 := hidF (HSR.out.keep HB3.out);clear hil hfr hb3;go_wp2_with fail
   refine hK.out _ _ (trivial) (fun hN => ?_);clear hK K hHeld;have hHeld := hN;clear hN
   try simp only [Act.put, zsa, zsz, zss]
   refine zr (r := 4) (o := ?o6) (by kernel_rfl) ?i6 (fun K hK => ?g6)
   case i6 => simp only [zga, zgs, zgz]; rfl
   case g6 =>
    go_simp;refine hK.out _ _ (trivial) (fun hN => ?_);clear hK K hHeld;have hHeld := hN;clear hN
    try simp only [Act.put, zsa, zsz, zss]
    refine wpAnyH_take (i := 6) (oi := ?o7) (v := ?v7) ?i7 (by kernel_rfl) (by kernel_rfl) (by kernel_rfl) ?q7 ?y7 hHeld ?_
    case i7 => simp only [zga, zgs, zgz]; rfl
    case q7 => exact fun _ _ _ h => h.elim
    case y7 => refine .inl ⟨by rfl, ?_⟩; intro w' hSw; (try dsimp only at hSw); go_simp; try with_reducible rfl
    simp only [Act.put, zsa, zsz, zss];refine zr (r := 5) (o := ?o8) (by kernel_rfl) ?i8 (fun K hK => ?g8)
    case i8 => simp only [zga, zgs, zgz]; rfl
    case g8 =>
     go_simp;refine (iclone_any ad n cap news _ HL.out HSR3.out H1.out h88).mono ?_;rintro e w5 ⟨a5, c5, rfl, hown, hb5⟩;have HOW := hidF hown;have HB5 := hidF hb5;have t1 := keep_cell HB5.out g1;have t5 := keep_cell HB5.out g5;have s1 := keep_frozen HB5.out g1 u1;have s5 := keep_frozen HB5.out g5 u5;clear hown hb5;go_wp2_with fail
     refine hK.out _ _ (trivial) (fun hN => ?_);clear hK K hHeld;have hHeld := hN;clear hN
     try simp only [Act.put, zsa, zsz, zss]
     refine zr (r := 7) (o := ?o9) (by kernel_rfl) ?i9 (fun K hK => ?g9)
     case i9 => simp only [zga, zgs, zgz]; rfl
     case g9 =>
      go_simp;refine hK.out _ _ (trivial) (fun hN => ?_);clear hK K hHeld;have hHeld := hN;clear hN
      try simp only [Act.put, zsa, zsz, zss]
      refine wpAnyH_take (i := 8) (oi := ?o10) (v := ?v10) ?i10 (by kernel_rfl) (by kernel_rfl) (by kernel_rfl) ?q10 ?y10 hHeld ?_
      case i10 => simp only [zga, zgs, zgz]; rfl
      case q10 => exact fun _ _ _ h => h.elim
      case y10 => refine .inl ⟨by rfl, ?_⟩; intro w' hSw; (try dsimp only at hSw); go_simp; try with_reducible rfl
      simp only [Act.put, zsa, zsz, zss];refine zr (r := 9) (o := ?o11) (by kernel_rfl) ?i11 (fun K hK => ?g11)
      case i11 => simp only [zga, zgs, zgz]; rfl
      case g11 =>
       go_simp;refine hK.out _ _ (trivial) (fun hN => ?_);clear hK K hHeld;have hHeld := hN;clear hN
       try simp only [Act.put, zsa, zsz, zss]
       refine wpAnyH_done (by kernel_rfl) ?_ _;exact HK.out _ _ _ _ _ _ _ _ pa pc pn a5 c5 w3 w5 HIL.out HFR.out HB3.out HOW.out HB5.out
  case g5 =>
   go_simp;refine hK.out _ _ (trivial) (fun hN => ?_);clear hK K hHeld;have hHeld := hN;clear hN
   try simp only [Act.put, zsa, zsz, zss]
   refine zr (r := 2) (o := ?o12) (by kernel_rfl) ?i12 (fun K hK => ?g12)
   case i12 => simp only [zga, zgs, zgz]; rfl
   case g12 =>
    go_simp;refine (gclone_any (HP.out.keep (Below.drew (Below.refl _ _)))).mono ?_;rintro e w3 ⟨pv, rfl, hil, hfr, hb3⟩;obtain ⟨pa, pc, rfl, _⟩ := hil.partsF
    generalize hpn : params.length = pn at *
    have HIL := hidF hil;have HFR := hidF hfr;have HB3 : Hid (Below w1.heap.size w1 w3) := bel_trans (Below.drew (Below.refl _ _)) hb3;have g1 := keep_cell HB3.out f1;have g5 := keep_cell HB3.out f5;have u1 := keep_frozen HB3.out f1 z1;have u5 := keep_frozen HB3.out f5 z5;have HSR3 := hidF (HSR.out.keep HB3.out);clear hil hfr hb3;go_wp2_with fail
    refine hK.out _ _ (trivial) (fun hN => ?_);clear hK K hHeld;have hHeld := hN;clear hN
    try simp only [Act.put, zsa, zsz, zss]
    refine wpAnyH_take (i := 6) (oi := ?o13) (v := ?v13) ?i13 (by kernel_rfl) (by kernel_rfl) (by kernel_rfl) ?q13 ?y13 hHeld ?_
    case i13 => simp only [zga, zgs, zgz]; rfl
    case q13 => exact fun _ _ _ h => h.elim
    case y13 => refine .inl ⟨by rfl, ?_⟩; intro w' hSw; (try dsimp only at hSw); go_simp; try with_reducible rfl
    simp only [Act.put, zsa, zsz, zss];refine zr (r := 5) (o := ?o14) (by kernel_rfl) ?i14 (fun K hK => ?g14)
    case i14 => simp only [zga, zgs, zgz]; rfl
    case g14 =>
     go_simp;refine (iclone_any ad n cap news _ HL.out HSR3.out H1.out h88).mono ?_;rintro e w5 ⟨a5, c5, rfl, hown, hb5⟩;have HOW := hidF hown;have HB5 := hidF hb5;have t1 := keep_cell HB5.out g1;have t5 := keep_cell HB5.out g5;have s1 := keep_frozen HB5.out g1 u1;have s5 := keep_frozen HB5.out g5 u5;clear hown hb5;go_wp2_with fail
     refine hK.out _ _ (trivial) (fun hN => ?_);clear hK K hHeld;have hHeld := hN;clear hN
     try simp only [Act.put, zsa, zsz, zss]
     refine zr (r := 7) (o := ?o15) (by kernel_rfl) ?i15 (fun K hK => ?g15)
     case i15 => simp only [zga, zgs, zgz]; rfl
     case g15 =>
      go_simp;refine hK.out _ _ (trivial) (fun hN => ?_);clear hK K hHeld;have hHeld := hN;clear hN
      try simp only [Act.put, zsa, zsz, zss]
      refine wpAnyH_take (i := 8) (oi := ?o16) (v := ?v16) ?i16 (by kernel_rfl) (by kernel_rfl) (by kernel_rfl) ?q16 ?y16 hHeld ?_
      case i16 => simp only [zga, zgs, zgz]; rfl
      case q16 => exact fun _ _ _ h => h.elim
      case y16 => refine .inl ⟨by rfl, ?_⟩; intro w' hSw; (try dsimp only at hSw); go_simp; try with_reducible rfl
      simp only [Act.put, zsa, zsz, zss];refine zr (r := 9) (o := ?o17) (by kernel_rfl) ?i17 (fun K hK => ?g17)
      case i17 => simp only [zga, zgs, zgz]; rfl
      case g17 =>
       go_simp;refine hK.out _ _ (trivial) (fun hN => ?_);clear hK K hHeld;have hHeld := hN;clear hN
       try simp only [Act.put, zsa, zsz, zss]
       refine wpAnyH_done (by kernel_rfl) ?_ _;exact HK.out _ _ _ _ _ _ _ _ pa pc pn a5 c5 w3 w5 HIL.out HFR.out HB3.out HOW.out HB5.out
 case g3 =>
  go_simp;refine hK.out _ _ (trivial) (fun hN => ?_);clear hK K hHeld;have hHeld := hN;clear hN
  try simp only [Act.put, zsa, zsz, zss]
  refine zr (r := 1) (o := ?o18) (by kernel_rfl) ?i18 (fun K hK => ?g18)
  case i18 => simp only [zga, zgs, zgz]; rfl
  case g18 =>
   go_simp;refine hK.out _ _ (trivial) (fun hN => ?_);clear hK K hHeld;have hHeld := hN;clear hN
   try simp only [Act.put, zsa, zsz, zss]
   refine zr (r := 2) (o := ?o19) (by kernel_rfl) ?i19 (fun K hK => ?g19)
   case i19 => simp only [zga, zgs, zgz]; rfl
   case g19 =>
    go_simp;refine (gclone_any (HP.out.keep (Below.drew (Below.refl _ _)))).mono ?_;rintro e w3 ⟨pv, rfl, hil, hfr, hb3⟩;obtain ⟨pa, pc, rfl, _⟩ := hil.partsF
    generalize hpn : params.length = pn at *
    have HIL := hidF hil;have HFR := hidF hfr;have HB3 : Hid (Below w1.heap.size w1 w3) := bel_trans (Below.drew (Below.refl _ _)) hb3;have g1 := keep_cell HB3.out f1;have g5 := keep_cell HB3.out f5;have u1 := keep_frozen HB3.out f1 z1;have u5 := keep_frozen HB3.out f5 z5;have HSR3 := hidF (HSR.out.keep HB3.out);clear hil hfr hb3;go_wp2_with fail
    refine hK.out _ _ (trivial) (fun hN => ?_);clear hK K hHeld;have hHeld := hN;clear hN
    try simp only [Act.put, zsa, zsz, zss]
    refine wpAnyH_take (i := 6) (oi := ?o20) (v := ?v20) ?i20 (by kernel_rfl) (by kernel_rfl) (by kernel_rfl) ?q20 ?y20 hHeld ?_
    case i20 => simp only [zga, zgs, zgz]; rfl
    case q20 => exact fun _ _ _ h => h.elim
    case y20 => refine .inl ⟨by rfl, ?_⟩; intro w' hSw; (try dsimp only at hSw); go_simp; try with_reducible rfl
    simp only [Act.put, zsa, zsz, zss];refine zr (r := 5) (o := ?o21) (by kernel_rfl) ?i21 (fun K hK => ?g21)
    case i21 => simp only [zga, zgs, zgz]; rfl
    case g21 =>
     go_simp;refine (iclone_any ad n cap news _ HL.out HSR3.out H1.out h88).mono ?_;rintro e w5 ⟨a5, c5, rfl, hown, hb5⟩;have HOW := hidF hown;have HB5 := hidF hb5;have t1 := keep_cell HB5.out g1;have t5 := keep_cell HB5.out g5;have s1 := keep_frozen HB5.out g1 u1;have s5 := keep_frozen HB5.out g5 u5;clear hown hb5;go_wp2_with fail
     refine hK.out _ _ (trivial) (fun hN => ?_);clear hK K hHeld;have hHeld := hN;clear hN
     try simp only [Act.put, zsa, zsz, zss]
     refine zr (r := 7) (o := ?o22) (by kernel_rfl) ?i22 (fun K hK => ?g22)
     case i22 => simp only [zga, zgs, zgz]; rfl
     case g22 =>
      go_simp;refine hK.out _ _ (trivial) (fun hN => ?_);clear hK K hHeld;have hHeld := hN;clear hN
      try simp only [Act.put, zsa, zsz, zss]
      refine wpAnyH_take (i := 8) (oi := ?o23) (v := ?v23) ?i23 (by kernel_rfl) (by kernel_rfl) (by kernel_rfl) ?q23 ?y23 hHeld ?_
      case i23 => simp only [zga, zgs, zgz]; rfl
      case q23 => exact fun _ _ _ h => h.elim
      case y23 => refine .inl ⟨by rfl, ?_⟩; intro w' hSw; (try dsimp only at hSw); go_simp; try with_reducible rfl
      simp only [Act.put, zsa, zsz, zss];refine zr (r := 9) (o := ?o24) (by kernel_rfl) ?i24 (fun K hK => ?g24)
      case i24 => simp only [zga, zgs, zgz]; rfl
      case g24 =>
       go_simp;refine hK.out _ _ (trivial) (fun hN => ?_);clear hK K hHeld;have hHeld := hN;clear hN
       try simp only [Act.put, zsa, zsz, zss]
       refine wpAnyH_done (by kernel_rfl) ?_ _;exact HK.out _ _ _ _ _ _ _ _ pa pc pn a5 c5 w3 w5 HIL.out HFR.out HB3.out HOW.out HB5.out

theorem cl_r5 (FB CB k n cc an ac : Nat) (aa : Option Addr) (args : List Int) (z0z z2z z4z z5z z6z z7z z8z z9z z10z z11z z12z z13z z14z z15z z16z z17z z18z z19z z20z z21z z22z z23z z24z z25z z26z z27z z28z z29z z30z z31z : Value) (Q0 : Exit → Act → World → Prop) (w1 : World) (hQ0 : ∀ c (a : Act) (dd : Option Tmp) v x, Q0 (.panic c) (a.put dd v) x → Q0 (.panic c) a x)
  (f5 : w1.cell? ⟨FB, 5, none⟩ = some (.slice (some ⟨CB, 0, none⟩) n cc)) (c6 : w1.cell? ⟨CB, 0 + k * 9 + 6, none⟩ = some (.slice aa an ac)) (z6 : w1.frozen? ⟨CB, 0 + k * 9 + 6, none⟩ = false)
  (j0 : (0 : Int) ≤ k) (j1 : (k : Int) < n) (HIL : Hid (IL w1 (.slice aa an ac) args)) (HNE : FB ≠ CB)
  (HK : Hid (∀ (y18 y19 y20 y21 y22 y23 y24 y25 y26 y27 y28 y29 : Value) pa pc pn w3, Below w1.heap.size w1 w3 → IL w3 (.slice pa pn pc) args → (∀ b o s n c, (.slice pa pn pc : Value) = .slice (some ⟨b, o, s⟩) n c → w1.heap.size ≤ b) → Q0 .normal ⟨#[z0z, .pointer (some ⟨FB, 0, none⟩), z2z, .int .i64 (k : Int), z4z, z5z, z6z, z7z, z8z, z9z, z10z, z11z, z12z, z13z, z14z, z15z, z16z, z17z, y18, y19, y20, y21, y22, y23, y24, y25, y26, y27, y28, y29, z30z, z31z], []⟩ (w3.setCell ⟨CB, 0 + k * 9 + 6, none⟩ (.slice pa pn pc)))) :
  Code.wp prog clR5 Q0 ⟨#[z0z, .pointer (some ⟨FB, 0, none⟩), z2z, .int .i64 (k : Int), z4z, z5z, z6z, z7z, z8z, z9z, z10z, z11z, z12z, z13z, z14z, z15z, z16z, z17z, z18z, z19z, z20z, z21z, z22z, z23z, z24z, z25z, z26z, z27z, z28z, z29z, z30z, z31z], []⟩ w1 := by
 rw [Nat.zero_add] at c6 z6 HK
 conv => arg 2; whnf
 refine wp_region_held_drew (S := (fun w' => w'.cell? ⟨FB, 5, none⟩ = some (.slice (some ⟨CB, 0, none⟩) n cc))) (by kernel_rfl) (f5) (fun hHeld => ?_);refine wpAnyH_take (i := 0) (oi := ?o0) (v := ?v0) ?i0 (by kernel_rfl) (by kernel_rfl) (by kernel_rfl) ?q0 ?y0 hHeld ?_
 case i0 => simp only [zga, zgs, zgz]; rfl
 case q0 => exact fun _ _ _ h => hQ0 _ _ _ _ _ h
 case y0 => refine .inl ⟨by rfl, ?_⟩; intro w' hSw; (try dsimp only at hSw); go_simp; try with_reducible rfl
 simp only [Act.put, zsa, zsz, zss];refine wpAnyH_take (i := 1) (oi := ?o1) (v := ?v1) ?i1 (by kernel_rfl) (by kernel_rfl) (by kernel_rfl) ?q1 ?y1 hHeld ?_
 case i1 => simp only [zga, zgs, zgz]; rfl
 case q1 => exact fun _ _ _ h => hQ0 _ _ _ _ _ h
 case y1 => refine .inl ⟨by rfl, ?_⟩; intro w' hSw; (try dsimp only at hSw); go_simp; try with_reducible rfl
 simp only [Act.put, zsa, zsz, zss];refine wpAnyH_take (i := 2) (oi := ?o2) (v := ?v2) ?i2 (by kernel_rfl) (by kernel_rfl) (by kernel_rfl) ?q2 ?y2 hHeld ?_
 case i2 => simp only [zga, zgs, zgz]; rfl
 case q2 => exact fun _ _ _ h => hQ0 _ _ _ _ _ h
 case y2 => refine .inl ⟨by rfl, ?_⟩; intro w' hSw; (try dsimp only at hSw); go_simp; try with_reducible rfl
 simp only [Act.put, zsa, zsz, zss];refine wpAnyH_take (i := 3) (oi := ?o3) (v := ?v3) ?i3 (by kernel_rfl) (by kernel_rfl) (by kernel_rfl) ?q3 ?y3 hHeld ?_
 case i3 => simp only [zga, zgs, zgz]; rfl
 case q3 => exact fun _ _ _ h => hQ0 _ _ _ _ _ h
 case y3 => refine .inl ⟨by rfl, ?_⟩; intro w' hSw; (try dsimp only at hSw); go_simp; try with_reducible rfl
 simp only [Act.put, zsa, zsz, zss];refine wpAnyH_take (i := 4) (oi := ?o4) (v := ?v4) ?i4 (by kernel_rfl) (by kernel_rfl) (by kernel_rfl) ?q4 ?y4 hHeld ?_
 case i4 => simp only [zga, zgs, zgz]; rfl
 case q4 => exact fun _ _ _ h => hQ0 _ _ _ _ _ h
 case y4 => refine .inl ⟨by rfl, ?_⟩; intro w' hSw; (try dsimp only at hSw); go_simp; try with_reducible rfl
 simp only [Act.put, zsa, zsz, zss];refine wpAnyH_take (i := 5) (oi := ?o5) (v := ?v5) ?i5 (by kernel_rfl) (by kernel_rfl) (by kernel_rfl) ?q5 ?y5 hHeld ?_
 case i5 => simp only [zga, zgs, zgz]; rfl
 case q5 => exact fun _ _ _ h => hQ0 _ _ _ _ _ h
 case y5 => refine .inl ⟨by rfl, ?_⟩; intro w' hSw; (try dsimp only at hSw); go_simp; try with_reducible rfl
 simp only [Act.put, zsa, zsz, zss];refine wpAnyH_take (i := 6) (oi := ?o6) (v := ?v6) ?i6 (by kernel_rfl) (by kernel_rfl) (by kernel_rfl) ?q6 ?y6 hHeld ?_
 case i6 => simp only [zga, zgs, zgz]; rfl
 case q6 => exact fun _ _ _ h => hQ0 _ _ _ _ _ h
 case y6 => refine .inl ⟨by rfl, ?_⟩; intro w' hSw; (try dsimp only at hSw); go_simp; try with_reducible rfl
 simp only [Act.put, zsa, zsz, zss];refine wpAnyH_take (i := 7) (oi := ?o7) (v := ?v7) ?i7 (by kernel_rfl) (by kernel_rfl) (by kernel_rfl) ?q7 ?y7 hHeld ?_
 case i7 => simp only [zga, zgs, zgz]; rfl
 case q7 => exact fun _ _ _ h => hQ0 _ _ _ _ _ h
 case y7 => refine .inl ⟨by rfl, ?_⟩; intro w' hSw; (try dsimp only at hSw); go_simp; try with_reducible rfl
 simp only [Act.put, zsa, zsz, zss];refine zr (r := 8) (o := ?o8) (by kernel_rfl) ?i8 (fun K hK => ?g8)
 case i8 => simp only [zga, zgs, zgz]; rfl
 case g8 =>
  go_simp;refine hK.out _ _ (hHeld) (fun hN => ?_);clear hK K hHeld;have hHeld := hN;clear hN
  try simp only [Act.put, zsa, zsz, zss]
  refine zr (r := 9) (o := ?o9) (by kernel_rfl) ?i9 (fun K hK => ?g9)
  case i9 => simp only [zga, zgs, zgz]; rfl
  case g9 =>
   go_simp;refine (gclone_any (HIL.out.keep (Below.drew (Below.refl _ _)))).mono ?_;rintro e w3 ⟨pv, rfl, hil, hfr, hb3⟩;obtain ⟨pa, pc, rfl, _⟩ := hil.partsF
   generalize hpn : args.length = pn at *
   have HI2 := hidF hil;have HFR := hidF hfr;have HB3 : Hid (Below w1.heap.size w1 w3) := bel_trans (Below.drew (Below.refl _ _)) hb3;have y5 := keep_cell HB3.out f5;have y6 := keep_cell HB3.out c6;have yz := keep_frozen HB3.out c6 z6;clear hil hfr hb3;go_wp2_with fail
   refine hK.out _ _ (keep_cell HB3.out f5) (fun hN => ?_);clear hK K hHeld;have hHeld := hN;clear hN
   try simp only [Act.put, zsa, zsz, zss]
   refine wpAnyH_take (i := 10) (oi := ?o10) (v := ?v10) ?i10 (by kernel_rfl) (by kernel_rfl) (by kernel_rfl) ?q10 ?y10 hHeld ?_
   case i10 => simp only [zga, zgs, zgz]; rfl
   case q10 => exact fun _ _ _ h => hQ0 _ _ _ _ _ h
   case y10 => refine .inl ⟨by rfl, ?_⟩; intro w' hSw; (try dsimp only at hSw); go_simp; try with_reducible rfl
   simp only [Act.put, zsa, zsz, zss];refine wpAnyH_take (i := 11) (oi := ?o11) (v := ?v11) ?i11 (by kernel_rfl) (by kernel_rfl) (by kernel_rfl) ?q11 ?y11 hHeld ?_
   case i11 => simp only [zga, zgs, zgz]; rfl
   case q11 => exact fun _ _ _ h => hQ0 _ _ _ _ _ h
   case y11 => refine .inl ⟨by rfl, ?_⟩; intro w' hSw; (try dsimp only at hSw); go_simp; try with_reducible rfl
   simp only [Act.put, zsa, zsz, zss];refine zr (r := 12) (o := ?o12) (by kernel_rfl) ?i12 (fun K hK => ?g12)
   case i12 => simp only [zga, zgs, zgz]; rfl
   case g12 =>
    go_simp;refine hK.out _ _ (keep_set y5 HNE) (fun hN => ?_);clear hK K hHeld;have hHeld := hN;clear hN
    try simp only [Act.put, zsa, zsz, zss]
    refine wpAnyH_done (by kernel_rfl) ?_ _;clear hHeld;exact HK.out _ _ _ _ _ _ _ _ _ _ _ _ pa pc pn w3 HB3.out HI2.out HFR.out

end Go.Proofs.YtncondlfngeilaaGreatDoor
namespace Go.Proofs.YtncondlfngeilaaGreatDoor
open Go.ChangeShapes Go.WideShapes Go.ChangeAt Go.RowKit
set_option linter.unusedSimpArgs false
set_option linter.unusedVariables false

theorem inC_length (rows : List (Ins × Value)) : (rows.flatMap inC).length = rows.length * 9 := by
 induction rows with
 | nil => rfl
 | cons r t ih =>
  rw [List.flatMap_cons, List.length_append, ih, List.length_cons]
  show 9 + _ = _
  omega
theorem ownsRow_blkG {W W' : World} {B : Nat} {e : TypeId} {z : Nat} {v : Value} {k : Nat} {xs : List Value} (h : W.ownsRow B e z v k xs) (hk : ∀ b, v.ownBlock = some b → W'.heap[b]? = W.heap[b]?) : W'.ownsRow B e z v k xs := by
 refine ⟨h.1, ?_⟩
 rcases h.2 with q | ⟨b, cap, cur, h1, h2, h3, h4⟩
 ·exact .inl q
 ·exact .inr ⟨b, cap, cur, h1, h2, by rw [hk b (by rw [h1]; rfl)]; exact h3, h4⟩
theorem IL.head {w : World} {v : Value} {l : List Int} (h : IL w v l) (hl : l ≠ []) {b : Nat} {o : Nat} {s : Option Nat} {k c : Nat} (e : v = .slice (some ⟨b, o, s⟩) k c) : b < w.heap.size := by
 obtain ⟨a, cap, hv, h1, h0, h2⟩ := h;obtain ⟨b2, off, rfl, hc⟩ := h2 hl;rw [hv] at e
 cases e
 cases l with
 | nil => exact absurd rfl hl
 | cons x t => exact block_lt_of_cell (hc 0 x rfl)
noncomputable def boxed (W : World) (b : Nat) (cs : Array Value) : World := W.putObj b (.cells cs 25 (0, 0))
structure ClR (h0 : Nat) (w : World) (f : Fn) (g cap : Nat) (pv : Value) (W : World) : Prop where
 bel : Below w.heap.size w W
 par : IL W pv f.params ∧ (f.params ≠ [] → ∀ b o s k c, pv = .slice (some ⟨b, o, s⟩) k c → w.heap.size ≤ b ∧ b < W.heap.size ∧ b ≠ g)
 row : ∀ (m : Nat) x, f.code[m]? = some x → InsW (fun k => (k < h0 ∨ w.heap.size ≤ k) ∧ k < W.heap.size ∧ k ≠ g) W g 0 m x
 ge : w.heap.size ≤ g
 lt : g < W.heap.size
def retCl (h0 : Nat) (w : World) (f : Fn) : Ending → World → Prop := fun e W => ∃ (g cap : Nat) (pa : Option Addr) (pn pc : Nat), e = .returned (.agg #[.string f.name, .slice pa pn pc, .int .i64 f.regs, .int .i64 f.frame, .int .i64 f.entry, .slice (some ⟨g, 0, none⟩) f.code.length cap]) ∧ ClR h0 w f g cap (.slice pa pn pc) W
theorem cl_start {w0 w W1 w3 w5 : World} {fname : ByteArray} {params : List Int} {regs frm ent : Int} {code : List Ins} {rows : List (Ins × Value)} {pa pa' a5 : Option Addr} {pn pc pn' pc' n c5 : Nat} {cv0 : Value} (hw0 : Below w0.heap.size w0 w) (hb1 : Below w.heap.size w W1) (hs1 : W1.heap.size = w.heap.size + 2) (hFB : W1.heap[w.heap.size]? = some (.cells #[.string fname, .slice pa pn pc, .int .i64 regs, .int .i64 frm, .int .i64 ent, cv0] 25 (0, 0)))
  (hn : code.length = n) (hn0 : 0 < n) (hil : IL w3 (.slice pa' pn' pc') params) (hfr : ∀ b o s n c, (.slice pa' pn' pc' : Value) = .slice (some ⟨b, o, s⟩) n c → W1.heap.size ≤ b) (hb3 : Below W1.heap.size W1 w3) (ho : w5.ownsRow w3.heap.size 38 9 (.slice a5 n c5) n (rows.flatMap inC)) (hb5 : Below w3.heap.size w3 w5) (hm : rows.map (·.1) = code) (hr : ∀ r ∈ rows, IL w0 r.2 r.1.args) :
  ∃ Wo CB, Wo.heap.size = w.heap.size + 2 ∧ Below w.heap.size w Wo ∧ CpJ w0.heap.size Wo ((w5.setCell ⟨w.heap.size, 1, none⟩ (.slice pa' pn' pc')).setCell ⟨w.heap.size, 5, none⟩ (.slice a5 n c5)) w.heap.size CB ⟨fname, params, regs, frm, ent, code⟩ (.slice pa' pn' pc') a5 n c5 ∧ (∀ k, k < w.heap.size + 2 → k ≠ w.heap.size → ((w5.setCell ⟨w.heap.size, 1, none⟩ (.slice pa' pn' pc')).setCell ⟨w.heap.size, 5, none⟩ (.slice a5 n c5)).heap[k]? = W1.heap[k]?) := by
 have z3 := hb3.size;have z5 := hb5.size;have hbW : Below W1.heap.size W1 w5 := bel_trans hb3 hb5;have hk : ∀ k, k ≠ w.heap.size → ((w5.setCell ⟨w.heap.size, 1, none⟩ (.slice pa' pn' pc')).setCell ⟨w.heap.size, 5, none⟩ (.slice a5 n c5)).heap[k]? = w5.heap[k]? := fun k q => (xheap_set_other q).trans (xheap_set_other q)
 have hbox : ((w5.setCell ⟨w.heap.size, 1, none⟩ (.slice pa' pn' pc')).setCell ⟨w.heap.size, 5, none⟩ (.slice a5 n c5)).heap[w.heap.size]? = some (.cells #[.string fname, (.slice pa' pn' pc'), .int .i64 regs, .int .i64 frm, .int .i64 ent, (.slice a5 n c5)] 25 (0, 0)) :=
  xheap_set_same (xheap_set_same (xkeep_heap hbW hFB) _) _
 have hsz : ((w5.setCell ⟨w.heap.size, 1, none⟩ (.slice pa' pn' pc')).setCell ⟨w.heap.size, 5, none⟩ (.slice a5 n c5)).heap.size = w5.heap.size := by rw [xsize_set, xsize_set]
 have hso : (boxed W1 w.heap.size #[.string fname, (.slice pa' pn' pc'), .int .i64 regs, .int .i64 frm, .int .i64 ent, (.slice a5 n c5)]).heap.size = w.heap.size + 2 := by unfold boxed; rw [World.putObj_size, hs1]
 have hot : ∀ k, k ≠ w.heap.size → (boxed W1 w.heap.size #[.string fname, (.slice pa' pn' pc'), .int .i64 regs, .int .i64 frm, .int .i64 ent, (.slice a5 n c5)]).heap[k]? = W1.heap[k]? := fun k q => put_otherF q;have hwW : Below w.heap.size w w5 := ⟨hbW.os.trans hb1.os, hbW.tape.trans hb1.tape, hbW.output.trans hb1.output, by omega, fun k q => (hbW.block k (by omega)).trans (hb1.block k q)⟩
 have hst : ∃ CB, CpJ w0.heap.size (boxed W1 w.heap.size #[.string fname, (.slice pa' pn' pc'), .int .i64 regs, .int .i64 frm, .int .i64 ent, (.slice a5 n c5)]) ((w5.setCell ⟨w.heap.size, 1, none⟩ (.slice pa' pn' pc')).setCell ⟨w.heap.size, 5, none⟩ (.slice a5 n c5)) w.heap.size CB ⟨fname, params, regs, frm, ent, code⟩ (.slice pa' pn' pc') a5 n c5 := by
  refine CpJ.start (h0 := w0.heap.size) (Wo := boxed W1 w.heap.size #[.string fname, (.slice pa' pn' pc'), .int .i64 regs, .int .i64 frm, .int .i64 ent, (.slice a5 n c5)]) (W := (w5.setCell ⟨w.heap.size, 1, none⟩ (.slice pa' pn' pc')).setCell ⟨w.heap.size, 5, none⟩ (.slice a5 n c5)) (FB := w.heap.size) (g := w3.heap.size) (f := ⟨fname, params, regs, frm, ent, code⟩) (pv := .slice pa' pn' pc') (ca := a5) (rows := rows) hn
   ⟨hbW.os, hbW.tape, hbW.output, by rw [hso, hsz]; omega, fun k q => by
    rw [hso] at q
    by_cases e : k = w.heap.size
    ·subst e
     rw [hbox];exact (World.putObj_heap_same (by omega)).symm
    ·rw [hk k e, hot k e]
     exact hbW.block k (by omega)⟩ hbox ?_ hm ?_ (by rw [hso]; have := hw0.size; omega) ?_ (by rw [hso]; omega) (by omega) ?_
  ·refine ⟨?_, fun hl b o s k c e => ?_⟩
   ·refine ((hil.keep hb5).set (fun b o s n c e => ?_)).set (fun b o s n c e => ?_)
    ·have := hfr b o s n c e; show b ≠ w.heap.size; omega
    ·have := hfr b o s n c e; show b ≠ w.heap.size; omega
   ·have h1 := hfr b o s k c e
    have h2 := hil.head hl e
    show (boxed W1 w.heap.size #[.string fname, (.slice pa' pn' pc'), .int .i64 regs, .int .i64 frm, .int .i64 ent, (.slice a5 n c5)]).heap.size ≤ b ∧ b < w3.heap.size
    rw [hso];exact ⟨by omega, h2⟩
  ·intro r hrm
   have hilr := hr r hrm;refine ⟨hilr.of4 (fun hl b o s k c e => ?_), fun hl b o s k c e => hilr.head hl e⟩;have := hilr.head hl e;have hz := hw0.size;exact (hk b (by omega)).trans ((hwW.block b (by omega)).trans (hw0.block b this))
  ·exact ownsRow_blkG ho (fun b q => hk b (by have := (ho.lt b q).1; omega))
  ·rw [hsz]
   rcases ho.2 with ⟨_, q⟩ | ⟨b, cp, cur, e, h2, h3, _⟩
   ·omega
   ·have := (ho.lt b (by rw [e]; rfl)); omega
 obtain ⟨CB, hj⟩ := hst;refine ⟨_, CB, hso, ⟨hb1.os, hb1.tape, hb1.output, by rw [hso]; omega, fun k q => (hot k (by omega)).trans (hb1.block k q)⟩, hj, fun k q1 q2 => (hk k q2).trans (hbW.block k (by omega))⟩
theorem cl_done {w0 w Wo W W' : World} {f : Fn} {CB FB n cc : Nat} {pv : Value} (h : CpJ w0.heap.size Wo W FB CB f pv (some ⟨CB, 0, none⟩) n cc) (hw0 : w0.heap.size ≤ w.heap.size) (hn0 : 0 < n) (hso : Wo.heap.size = w.heap.size + 2) (hbo : Below w.heap.size w Wo) (hos : W'.os = W.os ∧ W'.tape = W.tape ∧ W'.output = W.output) (hz : W'.heap.size = W.heap.size) (hk : ∀ k, k ≠ w.heap.size + 1 → W'.heap[k]? = W.heap[k]?) : ClR w0.heap.size w f CB cc pv W' := by
 obtain ⟨_, ⟨cur, hcur⟩, hrow⟩ := h.row hn0;have hge := h.ge;have hb := h.bel;have hbs := hb.size;have hlt : CB < W.heap.size := xheap_lt hcur
 have hK : ∀ Q : Nat → Prop, ¬ Q (w.heap.size + 1) → Kc Q W W' := fun Q hq p u hp hc => by
  rw [World.cell?_of_block (w := W) (hk p.block (fun e => hq (e ▸ hp)))]; exact hc
 have hp := h.par.keep (hK _ (fun q => by have := q.1.1; omega));have hr := hrow.keep (hK _ (fun q => by rcases q.2.1 with z | z <;> omega)) (hK _ (fun q => by have : w.heap.size + 1 = CB := q; omega));refine ⟨⟨hos.1.trans (hb.os.trans hbo.os), hos.2.1.trans (hb.tape.trans hbo.tape), hos.2.2.trans (hb.output.trans hbo.output), by omega, fun k q => (hk k (by omega)).trans ((hb.block k (by omega)).trans (hbo.block k q))⟩, ⟨hp.1, fun hl b o s k c e => ?_⟩, fun m x hx => ?_, by omega, by omega⟩
 ·have := hp.2 hl b o s k c e
  exact ⟨by omega, by omega, this.2⟩
 ·obtain ⟨v, hv, c0, c1, c2, c3, c4, c5, c6, c7, c8⟩ := hr m x hx
  have hz2 : ∀ o, W'.frozen? ⟨CB, o, none⟩ = false := fun o => xheap_frozen (by rw [hk CB (by omega)]; exact hcur);exact ⟨v, hv.1, fun hl b o s k c e => by have := hv.2 hl b o s k c e; exact ⟨by rcases this.2.1 with z | z <;> omega, by omega, this.2.2⟩, c0, c1, c2, c3, c4, c5, c6, c7, c8, hz2 _, hz2 _, hz2 _, hz2 _, hz2 _, hz2 _, hz2 _, hz2 _, hz2 _⟩
end Go.Proofs.YtncondlfngeilaaGreatDoor
namespace Go.Proofs.YtncondlfngeilaaGreatDoor
open Go.ChangeShapes Go.WideShapes Go.ChangeAt Go.RowKit Go.Proofs.Tryz
set_option linter.unusedSimpArgs false
set_option linter.unusedVariables false
set_option maxRecDepth 100000
set_option maxHeartbeats 16000000

theorem sc_os (w : World) (p : Addr) (u : Value) : (w.setCell p u).os = w.os := rfl
theorem sc_tape (w : World) (p : Addr) (u : Value) : (w.setCell p u).tape = w.tape := rfl
theorem sc_output (w : World) (p : Addr) (u : Value) : (w.setCell p u).output = w.output := rfl
theorem clone_walk (w0 w : World) (fname : ByteArray) (pa : Option Addr) (pn pc : Nat) (regs frm ent : Int) (ad : Addr) (n cap : Nat) (params : List Int) (code : List Ins) (HP : Hid (IL w (.slice pa pn pc) params)) (HW0 : Hid (Below w0.heap.size w0 w)) (HC : Hid (CodeAt w0 (.slice (some ad) n cap) code)) (HN : Hid (code.length = n)) (hn0 : 0 < n) :
  Calls prog 32 #[.agg #[.string fname, .slice pa pn pc, .int .i64 regs, .int .i64 frm, .int .i64 ent, .slice (some ad) n cap]] w (retCl w0.heap.size w ⟨fname, params, regs, frm, ent, code⟩) := by
 obtain ⟨rows, hm, hrl, hsr, h1⟩ := HC.out.srow;have h88 : n * 88 ≤ 140737488355328 := by obtain ⟨_, _, e, q, _⟩ := HC.out; rw [HN.out] at q; exact q
 have hnm : (n : Int) ≤ 9223372036854775807 := by omega
 rw [HN.out] at hsr;have hrn : (rows.flatMap inC).length = n * 9 := by rw [inC_length, ← HN.out, ← hm, List.length_map]
 have HM := hidF hm;have HRL := hidF hrl;have HSR0 := hidF hsr;have H1 := hidF h1;have HRN := hidF hrn;clear hm hrl hsr h1 hrn
 go_enter func32, ntmps32
 go_upto_region 1 with fail
 refine gwp_namedF (fun W => Below w.heap.size w W ∧ W.heap.size = w.heap.size + 2 ∧ W.heap[w.heap.size]? = some (.cells #[.string fname, .slice pa pn pc, .int .i64 regs, .int .i64 frm, .int .i64 ent, .slice (some ad) n cap] 25 (0, 0)) ∧ W.heap[w.heap.size + 1]? = some (.cells #[.string ⟨#[]⟩, .slice none 0 0, .int .i64 0, .int .i64 0, .int .i64 0, .slice none 0 0] 25 (0, 0))) ⟨bel_alloc (bel_alloc (Below.refl _ _) _) _, by simp, xkeep_heap (bel_alloc (Below.refl _ _) _) (xheap_new w _), by have := xheap_new (w.alloc (.cells #[.string fname, .slice pa pn pc, .int .i64 regs, .int .i64 frm, .int .i64 ent, .slice (some ad) n cap] 25 (0, 0))) (.cells #[.string ⟨#[]⟩, .slice none 0 0, .int .i64 0, .int .i64 0, .int .i64 0, .slice none 0 0] 25 (0, 0)); rw [World.size_alloc] at this; exact this⟩ ?_;rintro W1 ⟨hb1, hs1, hFB, hRB⟩;have HB1 := hidF hb1;have HS1 := hidF hs1;have HFB := hidF hFB;have HRB := hidF hRB;have f1 := xheap_cell (o := 1) hFB rfl;have f5 := xheap_cell (o := 5) hFB rfl;have z1 := xheap_frozen (o := 1) hFB;have z5 := xheap_frozen (o := 5) hFB;clear hb1 hs1 hFB hRB;refine wp_calmS ?_;refine cl_r1 w.heap.size n cap ad _ params (rows.flatMap inC) _ _ _ _ _ _ _ _ _ _ _ _ _ _ _ _ _ _ _ _ _ _ _ _ _ _ _ _ _ _ _ _ W1 f1 z1 f5 z5 ⟨_, _, _, rfl⟩ (HP.out.keep HB1.out) HRN.out (HSR0.out.keep (bel_trans HW0.out HB1.out)) H1.out h88 ?_;intro y4 y5 y6 y7 y8 y9 y10 y11 pa' pc' pn' a5 c5 w3 w5 hil hfr hb3 ho hb5;obtain ⟨Wo, CB, hso, hbo, hj, hk⟩ := cl_start (pa' := pa') (pn' := pn') (pc' := pc') HW0.out HB1.out HS1.out HFB.out HN.out hn0 hil hfr hb3 ho hb5 HM.out HRL.out;have hrb : ((w5.setCell ⟨w.heap.size, 1, none⟩ (.slice pa' pn' pc')).setCell ⟨w.heap.size, 5, none⟩ (.slice a5 n c5)).heap[w.heap.size + 1]? = some (.cells #[.string ⟨#[]⟩, .slice none 0 0, .int .i64 0, .int .i64 0, .int .i64 0, .slice none 0 0] 25 (0, 0)) := (hk _ (by omega) (by omega)).trans HRB.out
 generalize (w5.setCell ⟨w.heap.size, 1, none⟩ (.slice pa' pn' pc')).setCell ⟨w.heap.size, 5, none⟩ (.slice a5 n c5) = W2 at *
 obtain ⟨rfl, _, _⟩ := hj.row hn0;have HSO := hidF hso;have HBO := hidF hbo;have HJ0 := hidF hj;have HRB0 := hidF hrb;have x5 := xheap_cell (o := 5) hj.box rfl;clear hso hbo hj hrb hk hil hfr hb3 ho hb5 f1 f5 z1 z5 HFB HRB HSR0 HRL H1;go_wp2
 go_loopw [15] (fun vv wz => ∃ i : Nat, i ≤ n ∧ vv = .int .i64 i ∧ Hid (CpJ w0.heap.size Wo wz w.heap.size CB ⟨fname, params, regs, frm, ent, code⟩ (.slice pa' pn' pc') (some ⟨CB, 0, none⟩) n c5 ∧ wz.heap[w.heap.size + 1]? = some (.cells #[.string ⟨#[]⟩, .slice none 0 0, .int .i64 0, .int .i64 0, .int .i64 0, .slice none 0 0] 25 (0, 0)))) (fun vv _ => n - (intOf vv).toNat)
 case atStart => exact ⟨0, by omega, rfl, hidF ⟨HJ0.out, HRB0.out⟩⟩
 case round =>
  clear HJ0 HRB0 x5;obtain ⟨i, hi, rfl, HJ⟩ := hrel
  rename World => wz
  have x5 := xheap_cell (o := 5) HJ.out.1.box rfl
  by_cases hin : i < n
  ·have j0 : (0 : Int) ≤ i := by omega
   have j1 : (i : Int) < n := by omega
   have hget := List.getElem?_eq_getElem (l := code) (show i < code.length by rw [HN.out]; exact hin)
   generalize code[i]'(by rw [HN.out]; exact hin) = x at hget
   obtain ⟨_, ⟨cur, hcur⟩, hrow⟩ := HJ.out.1.row hn0;obtain ⟨v, hv, c0, c1, c2, c3, c4, c5', c6, c7, c8⟩ := hrow i x hget;have hv2 := hv.1;obtain ⟨aa, ac, rfl, _⟩ := hv2.partsF;have z6 := xheap_frozen (o := 0 + i * 9 + 6) hcur;have HG := hidF hget;have HNE : w.heap.size ≠ CB := by have := HJ.out.1.ge; have := HSO.out; omega
   have HNR : Hid (w.heap.size + 1 ≠ CB) := by show _ ≠ _; have := HJ.out.1.ge; have := HSO.out; omega
   have HV := hidF hv2
   generalize x.args.length = an at *
   clear hget hrow hv hv2 c0 c1 c2 c3 c4 c5' c7 c8 hcur
   go_upto_region 5 with fail
   refine wp_calm ?_;refine cl_r5 w.heap.size CB i n c5 an ac aa x.args _ _ _ _ _ _ _ _ _ _ _ _ _ _ _ _ _ _ _ _ _ _ _ _ _ _ _ _ _ _ _ wz (fun c a dd v x h => by cases h.1) x5 c6 z6 j0 j1 HV HNE ?_;intro y18 y19 y20 y21 y22 y23 y24 y25 y26 y27 y28 y29 pb pd pm w4 hb4 hil4 hfr4
   have HJ2 : Hid (CpJ w0.heap.size Wo (w4.setCell ⟨CB, 0 + i * 9 + 6, none⟩ (.slice pb pm pd)) w.heap.size CB ⟨fname, params, regs, frm, ent, code⟩ (.slice pa' pn' pc') (some ⟨CB, 0, none⟩) n c5 ∧ (w4.setCell ⟨CB, 0 + i * 9 + 6, none⟩ (.slice pb pm pd)).heap[w.heap.size + 1]? = some (.cells #[.string ⟨#[]⟩, .slice none 0 0, .int .i64 0, .int .i64 0, .int .i64 0, .slice none 0 0] 25 (0, 0))) :=
    ⟨HJ.out.1.set HG.out hb4 ⟨hil4, fun hl b o s k c e => ⟨hfr4 b o s k c e, hil4.head hl e⟩⟩, (xheap_set_other HNR.out).trans (xkeep_heap hb4 HJ.out.2)⟩
   generalize w4.setCell ⟨CB, 0 + i * 9 + 6, none⟩ (.slice pb pm pd) = W6 at *
   clear hb4 hil4 hfr4 c6 z6 x5;refine ⟨rfl, ?_⟩;go_wp2
   go_roundw
   case rel => exact ⟨i + 1, by omega, by simp, HJ2⟩
   case measure => simp [intOf]; omega
  ·obtain rfl : n = i := by omega
   have hbx := HJ.out.1.box;have hrx := HJ.out.2;have b0 := xheap_cell (o := 0) hbx rfl;have b1 := xheap_cell (o := 1) hbx rfl;have b2 := xheap_cell (o := 2) hbx rfl;have b3 := xheap_cell (o := 3) hbx rfl;have b4 := xheap_cell (o := 4) hbx rfl;have b5 := xheap_cell (o := 5) hbx rfl;have r0 := xheap_cell (o := 0) hrx rfl;have r1 := xheap_cell (o := 1) hrx rfl;have r2 := xheap_cell (o := 2) hrx rfl;have r3 := xheap_cell (o := 3) hrx rfl;have r4 := xheap_cell (o := 4) hrx rfl;have r5 := xheap_cell (o := 5) hrx rfl;have u0 := xheap_frozen (o := 0) hrx;have u1 := xheap_frozen (o := 1) hrx;have u2 := xheap_frozen (o := 2) hrx;have u3 := xheap_frozen (o := 3) hrx;have u4 := xheap_frozen (o := 4) hrx;have u5 := xheap_frozen (o := 5) hrx;have hrl : w.heap.size + 1 < wz.heap.size := xheap_lt hrx;clear hbx hrx x5;go_wp2
   have hF : ((((((wz.setCell ⟨w.heap.size + 1, 0, none⟩ (.string fname)).setCell ⟨w.heap.size + 1, 1, none⟩ (.slice pa' pn' pc')).setCell ⟨w.heap.size + 1, 2, none⟩ (.int .i64 regs)).setCell ⟨w.heap.size + 1, 3, none⟩ (.int .i64 frm)).setCell ⟨w.heap.size + 1, 4, none⟩ (.int .i64 ent)).setCell ⟨w.heap.size + 1, 5, none⟩ (.slice (some ⟨CB, 0, none⟩) n c5)).heap[w.heap.size + 1]? = some (.cells #[.string fname, (.slice pa' pn' pc'), .int .i64 regs, .int .i64 frm, .int .i64 ent, (.slice (some ⟨CB, 0, none⟩) n c5)] 25 (0, 0)) := by
    have hrx := HJ.out.2;exact xheap_set_same (xheap_set_same (xheap_set_same (xheap_set_same (xheap_set_same (xheap_set_same hrx _) _) _) _) _) _
   have hd : ClR w0.heap.size w ⟨fname, params, regs, frm, ent, code⟩ CB c5 (.slice pa' pn' pc') ((((((wz.setCell ⟨w.heap.size + 1, 0, none⟩ (.string fname)).setCell ⟨w.heap.size + 1, 1, none⟩ (.slice pa' pn' pc')).setCell ⟨w.heap.size + 1, 2, none⟩ (.int .i64 regs)).setCell ⟨w.heap.size + 1, 3, none⟩ (.int .i64 frm)).setCell ⟨w.heap.size + 1, 4, none⟩ (.int .i64 ent)).setCell ⟨w.heap.size + 1, 5, none⟩ (.slice (some ⟨CB, 0, none⟩) n c5)) := by
    refine cl_done HJ.out.1 HW0.out.size hn0 HSO.out HBO.out ⟨by rw [sc_os, sc_os, sc_os, sc_os, sc_os, sc_os], by rw [sc_tape, sc_tape, sc_tape, sc_tape, sc_tape, sc_tape], by rw [sc_output, sc_output, sc_output, sc_output, sc_output, sc_output]⟩ ?_ (fun k q => ?_)
    ·rw [xsize_set, xsize_set, xsize_set, xsize_set, xsize_set, xsize_set]
    ·rw [xheap_set_other q, xheap_set_other q, xheap_set_other q, xheap_set_other q, xheap_set_other q, xheap_set_other q]
   generalize ((((((wz.setCell ⟨w.heap.size + 1, 0, none⟩ (.string fname)).setCell ⟨w.heap.size + 1, 1, none⟩ (.slice pa' pn' pc')).setCell ⟨w.heap.size + 1, 2, none⟩ (.int .i64 regs)).setCell ⟨w.heap.size + 1, 3, none⟩ (.int .i64 frm)).setCell ⟨w.heap.size + 1, 4, none⟩ (.int .i64 ent)).setCell ⟨w.heap.size + 1, 5, none⟩ (.slice (some ⟨CB, 0, none⟩) n c5)) = W9 at *
   have HD := hidF hd;have e0 := xheap_cell (o := 0) hF rfl;have e1 := xheap_cell (o := 1) hF rfl;have e2 := xheap_cell (o := 2) hF rfl;have e3 := xheap_cell (o := 3) hF rfl;have e4 := xheap_cell (o := 4) hF rfl;have e5 := xheap_cell (o := 5) hF rfl;clear hd hF HJ b0 b1 b2 b3 b4 b5 r0 r1 r2 r3 r4 r5 u0 u1 u2 u3 u4 u5;refine bodyPost_ret (v := .agg #[.string fname, (.slice pa' pn' pc'), .int .i64 regs, .int .i64 frm, .int .i64 ent, (.slice (some ⟨CB, 0, none⟩) n c5)]) (by simp [results, results32, go_sem, e0, e1, e2, e3, e4, e5]) rfl ⟨CB, c5, pa', pn', pc', ?_, HD.out⟩;rw [show (⟨fname, params, regs, frm, ent, code⟩ : Fn).code.length = n from HN.out]
theorem clone_any {w0 w : World} {v : Value} {f : Fn} (h : FnV w0 v f) (hw : Below w0.heap.size w0 w) (hn : 0 < f.code.length) : Calls prog 32 #[v] w (retCl w0.heap.size w f) := by
 obtain ⟨pv, cv, rfl, hp, hc, _⟩ := h;obtain ⟨pa, pc, rfl, _⟩ := hp.partsF;have hc2 := hc;obtain ⟨ca, cap, rfl, _, _, hcc⟩ := hc;obtain ⟨b, off, rfl, _⟩ := hcc (fun e => by rw [e] at hn; simp at hn);exact clone_walk w0 w f.name pa _ pc f.regs f.frame f.entry ⟨b, off, none⟩ _ cap f.params f.code (hp.keep hw) hw hc2 rfl hn
end Go.Proofs.YtncondlfngeilaaGreatDoor
