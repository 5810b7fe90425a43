import Derived.Test.YtaimifnppackgaaGreatDoorOzM
import Derived.Test.YtaimifnppackgaaGreatDoorOzN
namespace Go.Proofs.YtaimifnppackgaaGreatDoor
open Go.ChangeShapes Go.WideShapes Go.ChangeAt Go.RowKit Go.Proofs.Tryz
set_option linter.all false
set_option maxRecDepth 100000
set_option maxHeartbeats 8000000
def retIc (n:Nat) (news:List Value) (w:World):Ending→World→Prop:=fun e w'=>∃ (a:Option Addr) (c:Nat),e=.returned (.slice a n c)∧w'.ownsRow w.heap.size 35 9 (.slice a n c) n news∧Below w.heap.size w w'
theorem iclone_any (ad:Addr) (n cap:Nat) (news:List Value) (w:World) (hl:news.length=n*9) (hs:Srow w (.slice (some ad) n cap) n news) (h1:∀ u∈news,u.oneCell'=true) (h88:n*88≤140737488355328) :
  Calls prog 48 #[.slice (some ad) n cap] w (retIc n news w):=by
 have hq:∀ w,(binOp .eql 23 (.slice (some ad) n cap) (.slice none 0 0)).run prog w=.ok (.bool false) w:=fun w=>Lib.run_eql_slice_nil w 23 35 (some ad) n cap 0 0 underlying23;obtain⟨i0,hi,hz0,hz1,hz2⟩:∃ i0,prog.info? 35=some i0∧i0.zero=some (.agg #[.int .i64 0,.int .i64 0,.int .i64 0,.int .i64 0,.int .i64 0,.int .i64 0,.slice none 0 0,.int .i64 0,.int .i64 0])∧i0.size=9∧i0.bytes=88:=info_parts (by kernel_rfl);have HI:=hidF (And.intro hi (And.intro hz0 (And.intro hz1 hz2)));have HSR:=hidF (hs.keep (bel_alloc (Below.refl w.heap.size w) (.cells #[] 35)));have HL:=hidF hl;have H1:=hidF h1;clear hi hz0 hz1 hz2 hs hl h1
 go_enter func48,ntmps48
 go_wp2_with (at_builtin;refine wpList_append_fresh _ (by rfl) _ _ 23 (by rfl) 35 i0 (.agg #[.int .i64 0,.int .i64 0,.int .i64 0,.int .i64 0,.int .i64 0,.int .i64 0,.slice none 0 0,.int .i64 0,.int .i64 0]) 9 88 underlying23 HI.out.1 HI.out.2.1 HI.out.2.2.1 HI.out.2.2.2 rfl (by decide) w.heap.size (by rfl) (xheap_new w _) (.slice (some ad) n cap) n news (by rfl) HL.out HSR.out H1.out (by unfold maxLen;omega) h88 ?_)
 intro a2 c2 w3 hown hgrow;have HO:=hidF hown;have HB:Hid (Below w.heap.size w w3):=(bel_alloc (Below.refl w.heap.size w) _).trans (grown_below hgrow (by simp));clear hown hgrow;go_wp2;go_ret;exact⟨_,_,rfl,HO.out,HB.out⟩
noncomputable def clR1:Code:=((Tryz.f28.body.bind (regionNS 1)).getD .skip)
noncomputable def clR5:Code:=((Tryz.f28.body.bind (regionNS 5)).getD .skip)
theorem cl_r1 (FB n cap:Nat) (ad:Addr) (pv0:Value) (params:List Int) (news:List Value) (d0 d2 d3 d4 d5 d6 d7 d8 d9 d10 d11 d12 d13 d14 d15 d16 d17 d18 d19 d20 d21 d22 d23 d24 d25 d26 d27 d28 d29 d30 d31:Value) (K:Act→World→Prop) (w1:World)
  (f1:w1.cell? ⟨FB,1,none⟩=some pv0) (z1:w1.frozen? ⟨FB,1,none⟩=false) (f5:w1.cell? ⟨FB,5,none⟩=some (.slice (some ad) n cap)) (z5:w1.frozen? ⟨FB,5,none⟩=false) (hpv:∃ pa pn pc,pv0=.slice pa pn pc) (HP:Hid (IL w1 pv0 params)) (HL:Hid (news.length=n*9)) (HSR:Hid (Srow w1 (.slice (some ad) n cap) n news)) (H1:Hid (∀ u∈news,u.oneCell'=true)) (h88:n*88≤140737488355328)
  (HK:Hid (∀ (y4 y5 y6 y7 y8 y9 y10 y11:Value) pa pc pn a5 c5 w3 w5,IL w3 (.slice pa pn pc) params→(∀ b o s n c,(.slice pa pn pc:Value)=.slice (some ⟨b,o,s⟩) n c→w1.heap.size≤b)→Below w1.heap.size w1 w3→w5.ownsRow w3.heap.size 35 9 (.slice a5 n c5) n news→Below w3.heap.size w3 w5→K ⟨#[d0,.pointer (some ⟨FB,0,none⟩),d2,d3,y4,y5,y6,y7,y8,y9,y10,y11,d12,d13,d14,d15,d16,d17,d18,d19,d20,d21,d22,d23,d24,d25,d26,d27,d28,d29,d30,d31],[]⟩ ((w5.setCell ⟨FB,1,none⟩ (.slice pa pn pc)).setCell ⟨FB,5,none⟩ (.slice a5 n c5)))) :
  Code.wp prog clR1 (Exit.then K (fun _ _ _=>False)) ⟨#[d0,.pointer (some ⟨FB,0,none⟩),d2,d3,d4,d5,d6,d7,d8,d9,d10,d11,d12,d13,d14,d15,d16,d17,d18,d19,d20,d21,d22,d23,d24,d25,d26,d27,d28,d29,d30,d31],[]⟩ w1:=by
 obtain⟨pa0,pn0,pc0,rfl⟩:=hpv;have HSRd:Hid (Srow w1.drew (.slice (some ad) n cap) n news):=HSR
 conv=>arg 2;whnf
 refine wp_region_held_drew (S:=(fun _=>True)) (by kernel_rfl) (trivial) (fun hH=>?_);refine wpAnyH_take (i:=0) (oi:=?o0) (v:=?v0) ?i0 (by kernel_rfl) (by kernel_rfl) (by kernel_rfl) ?q0 ?y0 hH ?_
 case i0=>simp only[zga,zgs,zgz];rfl
 case q0=>exact fun _ _ _ h=>h.elim
 case y0=>refine .inl ⟨by rfl,?_⟩;intro w' hSw;(try dsimp only at hSw);go_simp;try with_reducible rfl
 simp only[Act.put,zsa,zsz,zss];refine wpAnyH_take (i:=3) (oi:=?o1) (v:=?v1) ?i1 (by kernel_rfl) (by kernel_rfl) (by kernel_rfl) ?q1 ?y1 hH ?_
 case i1=>simp only[zga,zgs,zgz];rfl
 case q1=>exact fun _ _ _ h=>h.elim
 case y1=>refine .inl ⟨by rfl,?_⟩;intro w' hSw;(try dsimp only at hSw);go_simp;try with_reducible rfl
 simp only[Act.put,zsa,zsz,zss];refine wpAnyH_ready (rs:=[1,4]) (by kernel_rfl) (by simp) ?_;refine(AllReadyH.cons (o:=?o2) ?i2 (fun K hK=>?g2) (AllReadyH.cons (o:=?o3) ?i3 (fun K hK=>?g3) AllReadyH.nil))
 case i2=>simp only[zga,zgs,zgz];rfl
 case i3=>simp only[zga,zgs,zgz];rfl
 case g2 =>
  go_simp;refine hK.out _ _ (trivial) (fun hN=>?_);clear hK K hH;have hH:=hN;clear hN
  try simp only[Act.put,zsa,zsz,zss]
  refine wpAnyH_ready (rs:=[2,4]) (by kernel_rfl) (by simp) ?_;refine(AllReadyH.cons (o:=?o4) ?i4 (fun K hK=>?g4) (AllReadyH.cons (o:=?o5) ?i5 (fun K hK=>?g5) AllReadyH.nil))
  case i4=>simp only[zga,zgs,zgz];rfl
  case i5=>simp only[zga,zgs,zgz];rfl
  case g4 =>
   go_simp;refine(gclone_any (HP.out.keep (Below.drew (Below.refl _ _)))).mono ?_;rintro e w3 ⟨pv,rfl,hil,hfr,hb3⟩;obtain⟨pa,pc,rfl,_⟩:=hil.partsF
   generalize hpn:params.length=pn at *
   have HIL:=hidF hil;have HFR:=hidF hfr;have HB3:Hid (Below w1.heap.size w1 w3):=bel_trans (Below.drew (Below.refl _ _)) hb3;have g1:=keep_cell HB3.out f1;have g5:=keep_cell HB3.out f5;have u1:=keep_frozen HB3.out f1 z1;have u5:=keep_frozen HB3.out f5 z5;have HSR3:=hidF (HSR.out.keep HB3.out);clear hil hfr hb3;go_wp2_with fail
   refine hK.out _ _ (trivial) (fun hN=>?_);clear hK K hH;have hH:=hN;clear hN
   try simp only[Act.put,zsa,zsz,zss]
   refine zr (r:=4) (o:=?o6) (by kernel_rfl) ?i6 (fun K hK=>?g6)
   case i6=>simp only[zga,zgs,zgz];rfl
   case g6 =>
    go_simp;refine hK.out _ _ (trivial) (fun hN=>?_);clear hK K hH;have hH:=hN;clear hN
    try simp only[Act.put,zsa,zsz,zss]
    refine wpAnyH_take (i:=6) (oi:=?o7) (v:=?v7) ?i7 (by kernel_rfl) (by kernel_rfl) (by kernel_rfl) ?q7 ?y7 hH ?_
    case i7=>simp only[zga,zgs,zgz];rfl
    case q7=>exact fun _ _ _ h=>h.elim
    case y7=>refine .inl ⟨by rfl,?_⟩;intro w' hSw;(try dsimp only at hSw);go_simp;try with_reducible rfl
    simp only[Act.put,zsa,zsz,zss];refine zr (r:=5) (o:=?o8) (by kernel_rfl) ?i8 (fun K hK=>?g8)
    case i8=>simp only[zga,zgs,zgz];rfl
    case g8 =>
     go_simp;refine(iclone_any ad n cap news _ HL.out HSR3.out H1.out h88).mono ?_;rintro e w5 ⟨a5,c5,rfl,hown,hb5⟩;have HOW:=hidF hown;have HB5:=hidF hb5;have t1:=keep_cell HB5.out g1;have t5:=keep_cell HB5.out g5;have s1:=keep_frozen HB5.out g1 u1;have s5:=keep_frozen HB5.out g5 u5;clear hown hb5;go_wp2_with fail
     refine hK.out _ _ (trivial) (fun hN=>?_);clear hK K hH;have hH:=hN;clear hN
     try simp only[Act.put,zsa,zsz,zss]
     refine zr (r:=7) (o:=?o9) (by kernel_rfl) ?i9 (fun K hK=>?g9)
     case i9=>simp only[zga,zgs,zgz];rfl
     case g9 =>
      go_simp;refine hK.out _ _ (trivial) (fun hN=>?_);clear hK K hH;have hH:=hN;clear hN
      try simp only[Act.put,zsa,zsz,zss]
      refine wpAnyH_take (i:=8) (oi:=?o10) (v:=?v10) ?i10 (by kernel_rfl) (by kernel_rfl) (by kernel_rfl) ?q10 ?y10 hH ?_
      case i10=>simp only[zga,zgs,zgz];rfl
      case q10=>exact fun _ _ _ h=>h.elim
      case y10=>refine .inl ⟨by rfl,?_⟩;intro w' hSw;(try dsimp only at hSw);go_simp;try with_reducible rfl
      simp only[Act.put,zsa,zsz,zss];refine zr (r:=9) (o:=?o11) (by kernel_rfl) ?i11 (fun K hK=>?g11)
      case i11=>simp only[zga,zgs,zgz];rfl
      case g11 =>
       go_simp;refine hK.out _ _ (trivial) (fun hN=>?_);clear hK K hH;have hH:=hN;clear hN
       try simp only[Act.put,zsa,zsz,zss]
       refine wpAnyH_done (by kernel_rfl) ?_ _;exact HK.out _ _ _ _ _ _ _ _ pa pc pn a5 c5 w3 w5 HIL.out HFR.out HB3.out HOW.out HB5.out
  case g5 =>
   go_simp;refine hK.out _ _ (trivial) (fun hN=>?_);clear hK K hH;have hH:=hN;clear hN
   try simp only[Act.put,zsa,zsz,zss]
   refine zr (r:=2) (o:=?o12) (by kernel_rfl) ?i12 (fun K hK=>?g12)
   case i12=>simp only[zga,zgs,zgz];rfl
   case g12 =>
    go_simp;refine(gclone_any (HP.out.keep (Below.drew (Below.refl _ _)))).mono ?_;rintro e w3 ⟨pv,rfl,hil,hfr,hb3⟩;obtain⟨pa,pc,rfl,_⟩:=hil.partsF
    generalize hpn:params.length=pn at *
    have HIL:=hidF hil;have HFR:=hidF hfr;have HB3:Hid (Below w1.heap.size w1 w3):=bel_trans (Below.drew (Below.refl _ _)) hb3;have g1:=keep_cell HB3.out f1;have g5:=keep_cell HB3.out f5;have u1:=keep_frozen HB3.out f1 z1;have u5:=keep_frozen HB3.out f5 z5;have HSR3:=hidF (HSR.out.keep HB3.out);clear hil hfr hb3;go_wp2_with fail
    refine hK.out _ _ (trivial) (fun hN=>?_);clear hK K hH;have hH:=hN;clear hN
    try simp only[Act.put,zsa,zsz,zss]
    refine wpAnyH_take (i:=6) (oi:=?o13) (v:=?v13) ?i13 (by kernel_rfl) (by kernel_rfl) (by kernel_rfl) ?q13 ?y13 hH ?_
    case i13=>simp only[zga,zgs,zgz];rfl
    case q13=>exact fun _ _ _ h=>h.elim
    case y13=>refine .inl ⟨by rfl,?_⟩;intro w' hSw;(try dsimp only at hSw);go_simp;try with_reducible rfl
    simp only[Act.put,zsa,zsz,zss];refine zr (r:=5) (o:=?o14) (by kernel_rfl) ?i14 (fun K hK=>?g14)
    case i14=>simp only[zga,zgs,zgz];rfl
    case g14 =>
     go_simp;refine(iclone_any ad n cap news _ HL.out HSR3.out H1.out h88).mono ?_;rintro e w5 ⟨a5,c5,rfl,hown,hb5⟩;have HOW:=hidF hown;have HB5:=hidF hb5;have t1:=keep_cell HB5.out g1;have t5:=keep_cell HB5.out g5;have s1:=keep_frozen HB5.out g1 u1;have s5:=keep_frozen HB5.out g5 u5;clear hown hb5;go_wp2_with fail
     refine hK.out _ _ (trivial) (fun hN=>?_);clear hK K hH;have hH:=hN;clear hN
     try simp only[Act.put,zsa,zsz,zss]
     refine zr (r:=7) (o:=?o15) (by kernel_rfl) ?i15 (fun K hK=>?g15)
     case i15=>simp only[zga,zgs,zgz];rfl
     case g15 =>
      go_simp;refine hK.out _ _ (trivial) (fun hN=>?_);clear hK K hH;have hH:=hN;clear hN
      try simp only[Act.put,zsa,zsz,zss]
      refine wpAnyH_take (i:=8) (oi:=?o16) (v:=?v16) ?i16 (by kernel_rfl) (by kernel_rfl) (by kernel_rfl) ?q16 ?y16 hH ?_
      case i16=>simp only[zga,zgs,zgz];rfl
      case q16=>exact fun _ _ _ h=>h.elim
      case y16=>refine .inl ⟨by rfl,?_⟩;intro w' hSw;(try dsimp only at hSw);go_simp;try with_reducible rfl
      simp only[Act.put,zsa,zsz,zss];refine zr (r:=9) (o:=?o17) (by kernel_rfl) ?i17 (fun K hK=>?g17)
      case i17=>simp only[zga,zgs,zgz];rfl
      case g17 =>
       go_simp;refine hK.out _ _ (trivial) (fun hN=>?_);clear hK K hH;have hH:=hN;clear hN
       try simp only[Act.put,zsa,zsz,zss]
       refine wpAnyH_done (by kernel_rfl) ?_ _;exact HK.out _ _ _ _ _ _ _ _ pa pc pn a5 c5 w3 w5 HIL.out HFR.out HB3.out HOW.out HB5.out
 case g3 =>
  go_simp;refine hK.out _ _ (trivial) (fun hN=>?_);clear hK K hH;have hH:=hN;clear hN
  try simp only[Act.put,zsa,zsz,zss]
  refine zr (r:=1) (o:=?o18) (by kernel_rfl) ?i18 (fun K hK=>?g18)
  case i18=>simp only[zga,zgs,zgz];rfl
  case g18 =>
   go_simp;refine hK.out _ _ (trivial) (fun hN=>?_);clear hK K hH;have hH:=hN;clear hN
   try simp only[Act.put,zsa,zsz,zss]
   refine zr (r:=2) (o:=?o19) (by kernel_rfl) ?i19 (fun K hK=>?g19)
   case i19=>simp only[zga,zgs,zgz];rfl
   case g19 =>
    go_simp;refine(gclone_any (HP.out.keep (Below.drew (Below.refl _ _)))).mono ?_;rintro e w3 ⟨pv,rfl,hil,hfr,hb3⟩;obtain⟨pa,pc,rfl,_⟩:=hil.partsF
    generalize hpn:params.length=pn at *
    have HIL:=hidF hil;have HFR:=hidF hfr;have HB3:Hid (Below w1.heap.size w1 w3):=bel_trans (Below.drew (Below.refl _ _)) hb3;have g1:=keep_cell HB3.out f1;have g5:=keep_cell HB3.out f5;have u1:=keep_frozen HB3.out f1 z1;have u5:=keep_frozen HB3.out f5 z5;have HSR3:=hidF (HSR.out.keep HB3.out);clear hil hfr hb3;go_wp2_with fail
    refine hK.out _ _ (trivial) (fun hN=>?_);clear hK K hH;have hH:=hN;clear hN
    try simp only[Act.put,zsa,zsz,zss]
    refine wpAnyH_take (i:=6) (oi:=?o20) (v:=?v20) ?i20 (by kernel_rfl) (by kernel_rfl) (by kernel_rfl) ?q20 ?y20 hH ?_
    case i20=>simp only[zga,zgs,zgz];rfl
    case q20=>exact fun _ _ _ h=>h.elim
    case y20=>refine .inl ⟨by rfl,?_⟩;intro w' hSw;(try dsimp only at hSw);go_simp;try with_reducible rfl
    simp only[Act.put,zsa,zsz,zss];refine zr (r:=5) (o:=?o21) (by kernel_rfl) ?i21 (fun K hK=>?g21)
    case i21=>simp only[zga,zgs,zgz];rfl
    case g21 =>
     go_simp;refine(iclone_any ad n cap news _ HL.out HSR3.out H1.out h88).mono ?_;rintro e w5 ⟨a5,c5,rfl,hown,hb5⟩;have HOW:=hidF hown;have HB5:=hidF hb5;have t1:=keep_cell HB5.out g1;have t5:=keep_cell HB5.out g5;have s1:=keep_frozen HB5.out g1 u1;have s5:=keep_frozen HB5.out g5 u5;clear hown hb5;go_wp2_with fail
     refine hK.out _ _ (trivial) (fun hN=>?_);clear hK K hH;have hH:=hN;clear hN
     try simp only[Act.put,zsa,zsz,zss]
     refine zr (r:=7) (o:=?o22) (by kernel_rfl) ?i22 (fun K hK=>?g22)
     case i22=>simp only[zga,zgs,zgz];rfl
     case g22 =>
      go_simp;refine hK.out _ _ (trivial) (fun hN=>?_);clear hK K hH;have hH:=hN;clear hN
      try simp only[Act.put,zsa,zsz,zss]
      refine wpAnyH_take (i:=8) (oi:=?o23) (v:=?v23) ?i23 (by kernel_rfl) (by kernel_rfl) (by kernel_rfl) ?q23 ?y23 hH ?_
      case i23=>simp only[zga,zgs,zgz];rfl
      case q23=>exact fun _ _ _ h=>h.elim
      case y23=>refine .inl ⟨by rfl,?_⟩;intro w' hSw;(try dsimp only at hSw);go_simp;try with_reducible rfl
      simp only[Act.put,zsa,zsz,zss];refine zr (r:=9) (o:=?o24) (by kernel_rfl) ?i24 (fun K hK=>?g24)
      case i24=>simp only[zga,zgs,zgz];rfl
      case g24 =>
       go_simp;refine hK.out _ _ (trivial) (fun hN=>?_);clear hK K hH;have hH:=hN;clear hN
       try simp only[Act.put,zsa,zsz,zss]
       refine wpAnyH_done (by kernel_rfl) ?_ _;exact HK.out _ _ _ _ _ _ _ _ pa pc pn a5 c5 w3 w5 HIL.out HFR.out HB3.out HOW.out HB5.out
theorem cl_r5 (FB CB k n cc an ac:Nat) (aa:Option Addr) (args:List Int) (d0 d2 d4 d5 d6 d7 d8 d9 d10 d11 d12 d13 d14 d15 d16 d17 d18 d19 d20 d21 d22 d23 d24 d25 d26 d27 d28 d29 d30 d31:Value) (Q0:Exit→Act→World→Prop) (w1:World) (hQ0:∀ c (a:Act) (dd:Option Tmp) v x,Q0 (.panic c) (a.put dd v) x→Q0 (.panic c) a x)
  (f5:w1.cell? ⟨FB,5,none⟩=some (.slice (some ⟨CB,0,none⟩) n cc)) (c6:w1.cell? ⟨CB,0+k*9+6,none⟩=some (.slice aa an ac)) (z6:w1.frozen? ⟨CB,0+k*9+6,none⟩=false)
  (j0:(0:Int)≤k) (j1:(k:Int)<n) (HIL:Hid (IL w1 (.slice aa an ac) args)) (HNE:FB≠CB)
  (HK:Hid (∀ (y18 y19 y20 y21 y22 y23 y24 y25 y26 y27 y28 y29:Value) pa pc pn w3,Below w1.heap.size w1 w3→IL w3 (.slice pa pn pc) args→(∀ b o s n c,(.slice pa pn pc:Value)=.slice (some ⟨b,o,s⟩) n c→w1.heap.size≤b)→Q0 .normal ⟨#[d0,.pointer (some ⟨FB,0,none⟩),d2,.int .i64 (k:Int),d4,d5,d6,d7,d8,d9,d10,d11,d12,d13,d14,d15,d16,d17,y18,y19,y20,y21,y22,y23,y24,y25,y26,y27,y28,y29,d30,d31],[]⟩ (w3.setCell ⟨CB,0+k*9+6,none⟩ (.slice pa pn pc)))) :
  Code.wp prog clR5 Q0 ⟨#[d0,.pointer (some ⟨FB,0,none⟩),d2,.int .i64 (k:Int),d4,d5,d6,d7,d8,d9,d10,d11,d12,d13,d14,d15,d16,d17,d18,d19,d20,d21,d22,d23,d24,d25,d26,d27,d28,d29,d30,d31],[]⟩ w1:=by
 rw[Nat.zero_add] at c6 z6 HK
 conv=>arg 2;whnf
 refine wp_region_held_drew (S:=(fun w'=>w'.cell? ⟨FB,5,none⟩=some (.slice (some ⟨CB,0,none⟩) n cc))) (by kernel_rfl) (f5) (fun hH=>?_);refine wpAnyH_take (i:=0) (oi:=?o0) (v:=?v0) ?i0 (by kernel_rfl) (by kernel_rfl) (by kernel_rfl) ?q0 ?y0 hH ?_
 case i0=>simp only[zga,zgs,zgz];rfl
 case q0=>exact fun _ _ _=>hQ0 _ _ _ _ _
 case y0=>refine .inl ⟨by rfl,?_⟩;intro w' hSw;(try dsimp only at hSw);go_simp;try with_reducible rfl
 simp only[Act.put,zsa,zsz,zss];refine wpAnyH_take (i:=1) (oi:=?o1) (v:=?v1) ?i1 (by kernel_rfl) (by kernel_rfl) (by kernel_rfl) ?q1 ?y1 hH ?_
 case i1=>simp only[zga,zgs,zgz];rfl
 case q1=>exact fun _ _ _=>hQ0 _ _ _ _ _
 case y1=>refine .inl ⟨by rfl,?_⟩;intro w' hSw;(try dsimp only at hSw);go_simp;try with_reducible rfl
 simp only[Act.put,zsa,zsz,zss];refine wpAnyH_take (i:=2) (oi:=?o2) (v:=?v2) ?i2 (by kernel_rfl) (by kernel_rfl) (by kernel_rfl) ?q2 ?y2 hH ?_
 case i2=>simp only[zga,zgs,zgz];rfl
 case q2=>exact fun _ _ _=>hQ0 _ _ _ _ _
 case y2=>refine .inl ⟨by rfl,?_⟩;intro w' hSw;(try dsimp only at hSw);go_simp;try with_reducible rfl
 simp only[Act.put,zsa,zsz,zss];refine wpAnyH_take (i:=3) (oi:=?o3) (v:=?v3) ?i3 (by kernel_rfl) (by kernel_rfl) (by kernel_rfl) ?q3 ?y3 hH ?_
 case i3=>simp only[zga,zgs,zgz];rfl
 case q3=>exact fun _ _ _=>hQ0 _ _ _ _ _
 case y3=>refine .inl ⟨by rfl,?_⟩;intro w' hSw;(try dsimp only at hSw);go_simp;try with_reducible rfl
 simp only[Act.put,zsa,zsz,zss];refine wpAnyH_take (i:=4) (oi:=?o4) (v:=?v4) ?i4 (by kernel_rfl) (by kernel_rfl) (by kernel_rfl) ?q4 ?y4 hH ?_
 case i4=>simp only[zga,zgs,zgz];rfl
 case q4=>exact fun _ _ _=>hQ0 _ _ _ _ _
 case y4=>refine .inl ⟨by rfl,?_⟩;intro w' hSw;(try dsimp only at hSw);go_simp;try with_reducible rfl
 simp only[Act.put,zsa,zsz,zss];refine wpAnyH_take (i:=5) (oi:=?o5) (v:=?v5) ?i5 (by kernel_rfl) (by kernel_rfl) (by kernel_rfl) ?q5 ?y5 hH ?_
 case i5=>simp only[zga,zgs,zgz];rfl
 case q5=>exact fun _ _ _=>hQ0 _ _ _ _ _
 case y5=>refine .inl ⟨by rfl,?_⟩;intro w' hSw;(try dsimp only at hSw);go_simp;try with_reducible rfl
 simp only[Act.put,zsa,zsz,zss];refine wpAnyH_take (i:=6) (oi:=?o6) (v:=?v6) ?i6 (by kernel_rfl) (by kernel_rfl) (by kernel_rfl) ?q6 ?y6 hH ?_
 case i6=>simp only[zga,zgs,zgz];rfl
 case q6=>exact fun _ _ _=>hQ0 _ _ _ _ _
 case y6=>refine .inl ⟨by rfl,?_⟩;intro w' hSw;(try dsimp only at hSw);go_simp;try with_reducible rfl
 simp only[Act.put,zsa,zsz,zss];refine wpAnyH_take (i:=7) (oi:=?o7) (v:=?v7) ?i7 (by kernel_rfl) (by kernel_rfl) (by kernel_rfl) ?q7 ?y7 hH ?_
 case i7=>simp only[zga,zgs,zgz];rfl
 case q7=>exact fun _ _ _=>hQ0 _ _ _ _ _
 case y7=>refine .inl ⟨by rfl,?_⟩;intro w' hSw;(try dsimp only at hSw);go_simp;try with_reducible rfl
 simp only[Act.put,zsa,zsz,zss];refine zr (r:=8) (o:=?o8) (by kernel_rfl) ?i8 (fun K hK=>?g8)
 case i8=>simp only[zga,zgs,zgz];rfl
 case g8 =>
  go_simp;refine hK.out _ _ (hH) (fun hN=>?_);clear hK K hH;have hH:=hN;clear hN
  try simp only[Act.put,zsa,zsz,zss]
  refine zr (r:=9) (o:=?o9) (by kernel_rfl) ?i9 (fun K hK=>?g9)
  case i9=>simp only[zga,zgs,zgz];rfl
  case g9 =>
   go_simp;refine(gclone_any (HIL.out.keep (Below.drew (Below.refl _ _)))).mono ?_;rintro e w3 ⟨pv,rfl,hil,hfr,hb3⟩;obtain⟨pa,pc,rfl,_⟩:=hil.partsF
   generalize hpn:args.length=pn at *
   have HI2:=hidF hil;have HFR:=hidF hfr;have HB3:Hid (Below w1.heap.size w1 w3):=bel_trans (Below.drew (Below.refl _ _)) hb3;have y5:=keep_cell HB3.out f5;have y6:=keep_cell HB3.out c6;have yz:=keep_frozen HB3.out c6 z6;clear hil hfr hb3;go_wp2_with fail
   refine hK.out _ _ (keep_cell HB3.out f5) (fun hN=>?_);clear hK K hH;have hH:=hN;clear hN
   try simp only[Act.put,zsa,zsz,zss]
   refine wpAnyH_take (i:=10) (oi:=?o10) (v:=?v10) ?i10 (by kernel_rfl) (by kernel_rfl) (by kernel_rfl) ?q10 ?y10 hH ?_
   case i10=>simp only[zga,zgs,zgz];rfl
   case q10=>exact fun _ _ _=>hQ0 _ _ _ _ _
   case y10=>refine .inl ⟨by rfl,?_⟩;intro w' hSw;(try dsimp only at hSw);go_simp;try with_reducible rfl
   simp only[Act.put,zsa,zsz,zss];refine wpAnyH_take (i:=11) (oi:=?o11) (v:=?v11) ?i11 (by kernel_rfl) (by kernel_rfl) (by kernel_rfl) ?q11 ?y11 hH ?_
   case i11=>simp only[zga,zgs,zgz];rfl
   case q11=>exact fun _ _ _=>hQ0 _ _ _ _ _
   case y11=>refine .inl ⟨by rfl,?_⟩;intro w' hSw;(try dsimp only at hSw);go_simp;try with_reducible rfl
   simp only[Act.put,zsa,zsz,zss];refine zr (r:=12) (o:=?o12) (by kernel_rfl) ?i12 (fun K hK=>?g12)
   case i12=>simp only[zga,zgs,zgz];rfl
   case g12 =>
    go_simp;refine hK.out _ _ (keep_set y5 HNE) (fun hN=>?_);clear hK K hH;have hH:=hN;clear hN
    try simp only[Act.put,zsa,zsz,zss]
    refine wpAnyH_done (by kernel_rfl) ?_ _;clear hH;exact HK.out _ _ _ _ _ _ _ _ _ _ _ _ pa pc pn w3 HB3.out HI2.out HFR.out
theorem inC_length (rows:List (Ins×Value)):(rows.flatMap inC).length=rows.length*9:=by
 induction rows with
 |nil=>rfl
 |cons r t ih =>
  rw[List.flatMap_cons,List.length_append,ih,List.length_cons]
  show 9+_=_
  omega
theorem ownsRow_blkG {W W':World} {B:Nat} {e:TypeId} {z:Nat} {v:Value} {k:Nat} {xs:List Value} (h:W.ownsRow B e z v k xs) (hk:∀ b,v.ownBlock=some b→W'.heap[b]? = W.heap[b]?):W'.ownsRow B e z v k xs:=by
 refine⟨h.1,?_⟩
 rcases h.2 with q|⟨b,cap,cur,h1,h2,h3,h4⟩
 ·exact .inl q
 ·exact .inr ⟨b,cap,cur,h1,h2,by rw[hk b (by rw[h1];rfl)];exact h3,h4⟩
theorem IL.head {w:World} {v:Value} {l:List Int} (h:IL w v l) (hl:l≠[]) {b:Nat} {o:Nat} {s:Option Nat} {k c:Nat} (e:v=.slice (some ⟨b,o,s⟩) k c):b<w.heap.size:=by
 obtain⟨a,cap,hv,h1,h0,h2⟩:=h;obtain⟨b2,off,rfl,hc⟩:=h2 hl;rw[hv] at e
 cases e
 cases l with
 |nil=>exact absurd rfl hl
 |cons x t=>exact block_lt_of_cell (hc 0 x rfl)
noncomputable def boxed (W:World) (b:Nat) (cs:Array Value):World:=W.putObj b (.cells cs 25 (0,0))
structure ClR (h0:Nat) (w:World) (f:Fn) (g cap:Nat) (pv:Value) (W:World):Prop where
 bel:Below w.heap.size w W
 par:IL W pv f.params∧(f.params≠[]→∀ b o s k c,pv=.slice (some ⟨b,o,s⟩) k c→w.heap.size≤b∧b<W.heap.size∧b≠g)
 row:∀ (m:Nat) x,f.code[m]? = some x→InsW (fun k=>(k<h0∨w.heap.size≤k)∧k<W.heap.size∧k≠g) W g 0 m x
 ge:w.heap.size≤g
 lt:g<W.heap.size
def retCl (h0:Nat) (w:World) (f:Fn):Ending→World→Prop:=fun e W=>∃ (g cap:Nat) (pa:Option Addr) (pn pc:Nat),e=.returned (.agg #[.string f.name,.slice pa pn pc,.int .i64 f.regs,.int .i64 f.frame,.int .i64 f.entry,.slice (some ⟨g,0,none⟩) f.code.length cap])∧ClR h0 w f g cap (.slice pa pn pc) W
theorem cl_start {w0 w W1 w3 w5:World} {fname:ByteArray} {params:List Int} {regs frm ent:Int} {code:List Ins} {rows:List (Ins×Value)} {pa pa' a5:Option Addr} {pn pc pn' pc' n c5:Nat} {cv0:Value} (hw0:Below w0.heap.size w0 w) (hb1:Below w.heap.size w W1) (hs1:W1.heap.size=w.heap.size+2) (hFB:W1.heap[w.heap.size]? = some (.cells #[.string fname,.slice pa pn pc,.int .i64 regs,.int .i64 frm,.int .i64 ent,cv0] 25 (0,0)))
  (hn:code.length=n) (hn0:0<n) (hil:IL w3 (.slice pa' pn' pc') params) (hfr:∀ b o s n c,(.slice pa' pn' pc':Value)=.slice (some ⟨b,o,s⟩) n c→W1.heap.size≤b) (hb3:Below W1.heap.size W1 w3) (ho:w5.ownsRow w3.heap.size 35 9 (.slice a5 n c5) n (rows.flatMap inC)) (hb5:Below w3.heap.size w3 w5) (hm:rows.map (·.1)=code) (hr:∀ r∈rows,IL w0 r.2 r.1.args) :
  ∃ Wo CB,Wo.heap.size=w.heap.size+2∧Below w.heap.size w Wo∧CpJ w0.heap.size Wo ((w5.setCell ⟨w.heap.size,1,none⟩ (.slice pa' pn' pc')).setCell ⟨w.heap.size,5,none⟩ (.slice a5 n c5)) w.heap.size CB ⟨fname,params,regs,frm,ent,code⟩ (.slice pa' pn' pc') a5 n c5∧(∀ k,k<w.heap.size+2→k≠w.heap.size→((w5.setCell ⟨w.heap.size,1,none⟩ (.slice pa' pn' pc')).setCell ⟨w.heap.size,5,none⟩ (.slice a5 n c5)).heap[k]? = W1.heap[k]?):=by
 have z3:=hb3.size;have z5:=hb5.size;have hbW:Below W1.heap.size W1 w5:=bel_trans hb3 hb5;have hk:∀ k,k≠w.heap.size→((w5.setCell ⟨w.heap.size,1,none⟩ (.slice pa' pn' pc')).setCell ⟨w.heap.size,5,none⟩ (.slice a5 n c5)).heap[k]? = w5.heap[k]? := fun k q=>(xheap_set_other q).trans (xheap_set_other q)
 have hbox:((w5.setCell ⟨w.heap.size,1,none⟩ (.slice pa' pn' pc')).setCell ⟨w.heap.size,5,none⟩ (.slice a5 n c5)).heap[w.heap.size]? = some (.cells #[.string fname,(.slice pa' pn' pc'),.int .i64 regs,.int .i64 frm,.int .i64 ent,(.slice a5 n c5)] 25 (0,0)) :=
  xheap_set_same (xheap_set_same (xkeep_heap hbW hFB) _) _
 have hsz:((w5.setCell ⟨w.heap.size,1,none⟩ (.slice pa' pn' pc')).setCell ⟨w.heap.size,5,none⟩ (.slice a5 n c5)).heap.size=w5.heap.size:=by rw[xsize_set,xsize_set]
 have hso:(boxed W1 w.heap.size #[.string fname,(.slice pa' pn' pc'),.int .i64 regs,.int .i64 frm,.int .i64 ent,(.slice a5 n c5)]).heap.size=w.heap.size+2:=by unfold boxed;rw[World.putObj_size,hs1]
 have hot:∀ k,k≠w.heap.size→(boxed W1 w.heap.size #[.string fname,(.slice pa' pn' pc'),.int .i64 regs,.int .i64 frm,.int .i64 ent,(.slice a5 n c5)]).heap[k]? = W1.heap[k]? := fun k q=>put_otherF q;have hwW:Below w.heap.size w w5:=⟨hbW.os.trans hb1.os,hbW.tape.trans hb1.tape,hbW.output.trans hb1.output,by omega,fun k q=>(hbW.block k (by omega)).trans (hb1.block k q)⟩
 have hst:∃ CB,CpJ w0.heap.size (boxed W1 w.heap.size #[.string fname,(.slice pa' pn' pc'),.int .i64 regs,.int .i64 frm,.int .i64 ent,(.slice a5 n c5)]) ((w5.setCell ⟨w.heap.size,1,none⟩ (.slice pa' pn' pc')).setCell ⟨w.heap.size,5,none⟩ (.slice a5 n c5)) w.heap.size CB ⟨fname,params,regs,frm,ent,code⟩ (.slice pa' pn' pc') a5 n c5:=by
  refine CpJ.start (h0:=w0.heap.size) (Wo:=boxed W1 w.heap.size #[.string fname,(.slice pa' pn' pc'),.int .i64 regs,.int .i64 frm,.int .i64 ent,(.slice a5 n c5)]) (W:=(w5.setCell ⟨w.heap.size,1,none⟩ (.slice pa' pn' pc')).setCell ⟨w.heap.size,5,none⟩ (.slice a5 n c5)) (FB:=w.heap.size) (g:=w3.heap.size) (f:=⟨fname,params,regs,frm,ent,code⟩) (pv:=.slice pa' pn' pc') (ca:=a5) (rows:=rows) hn
   ⟨hbW.os,hbW.tape,hbW.output,by rw[hso,hsz];omega,fun k q=>by
    rw[hso] at q
    by_cases e:k=w.heap.size
    ·subst e
     rw[hbox];exact(World.putObj_heap_same (by omega)).symm
    ·rw[hk k e,hot k e]
     exact hbW.block k (by omega)⟩ hbox ?_ hm ?_ (by rw[hso];have:=hw0.size;omega) ?_ (by rw[hso];omega) (by omega) ?_
  ·refine⟨?_,fun hl b o s k c e=>?_⟩
   ·refine((hil.keep hb5).set (fun b o s n c e=>?_)).set (fun b o s n c e=>?_)
    ·have:=hfr b o s n c e;show b≠w.heap.size;omega
    ·have:=hfr b o s n c e;show b≠w.heap.size;omega
   ·have h1:=hfr b o s k c e
    have h2:=hil.head hl e
    show (boxed W1 w.heap.size #[.string fname,(.slice pa' pn' pc'),.int .i64 regs,.int .i64 frm,.int .i64 ent,(.slice a5 n c5)]).heap.size≤b∧b<w3.heap.size
    rw[hso];exact⟨by omega,h2⟩
  ·intro r hrm
   have hilr:=hr r hrm;refine⟨hilr.of4 (fun hl b o s k c e=>?_),fun hl b o s k c e=>hilr.head hl e⟩;have:=hilr.head hl e;have hz:=hw0.size;exact(hk b (by omega)).trans ((hwW.block b (by omega)).trans (hw0.block b this))
  ·exact ownsRow_blkG ho (fun b q=>hk b (by have:=(ho.lt b q).1;omega))
  ·rw[hsz]
   rcases ho.2 with ⟨_,q⟩|⟨b,cp,cur,e,h2,h3,_⟩
   ·omega
   ·have:=(ho.lt b (by rw[e];rfl));omega
 obtain⟨CB,hj⟩:=hst;refine⟨_,CB,hso,⟨hb1.os,hb1.tape,hb1.output,by rw[hso];omega,fun k q=>(hot k (by omega)).trans (hb1.block k q)⟩,hj,fun k q1 q2=>(hk k q2).trans (hbW.block k (by omega))⟩
theorem cl_done {w0 w Wo W W':World} {f:Fn} {CB FB n cc:Nat} {pv:Value} (h:CpJ w0.heap.size Wo W FB CB f pv (some ⟨CB,0,none⟩) n cc) (hw0:w0.heap.size≤w.heap.size) (hn0:0<n) (hso:Wo.heap.size=w.heap.size+2) (hbo:Below w.heap.size w Wo) (hos:W'.os=W.os∧W'.tape=W.tape∧W'.output=W.output) (hz:W'.heap.size=W.heap.size) (hk:∀ k,k≠w.heap.size+1→W'.heap[k]? = W.heap[k]?):ClR w0.heap.size w f CB cc pv W':=by
 obtain⟨_,⟨cur,hcur⟩,hrow⟩:=h.row hn0;have hge:=h.ge;have hb:=h.bel;have hbs:=hb.size;have hlt:CB<W.heap.size:=xheap_lt hcur
 have hK:∀ Q:Nat→Prop,¬ Q (w.heap.size+1)→Kc Q W W':=fun Q hq p u hp hc=>by
  rw[World.cell?_of_block (w:=W) (hk p.block (fun e=>hq (e▸hp)))];exact hc
 have hp:=h.par.keep (hK _ (fun q=>by have:=q.1.1;omega));have hr:=hrow.keep (hK _ (fun q=>by rcases q.2.1 with z|z<;>omega)) (hK _ (fun q=>by have:w.heap.size+1=CB:=q;omega));refine⟨⟨hos.1.trans (hb.os.trans hbo.os),hos.2.1.trans (hb.tape.trans hbo.tape),hos.2.2.trans (hb.output.trans hbo.output),by omega,fun k q=>(hk k (by omega)).trans ((hb.block k (by omega)).trans (hbo.block k q))⟩,⟨hp.1,fun hl b o s k c e=>?_⟩,fun m x hx=>?_,by omega,by omega⟩
 ·have:=hp.2 hl b o s k c e
  exact⟨by omega,by omega,this.2⟩
 ·obtain⟨v,hv,c0,c1,c2,c3,c4,c5,c6,c7,c8⟩:=hr m x hx
  have hz2:∀ o,W'.frozen? ⟨CB,o,none⟩=false:=fun o=>xheap_frozen (by rw[hk CB (by omega)];exact hcur);exact⟨v,hv.1,fun hl b o s k c e=>by have:=hv.2 hl b o s k c e;exact⟨by rcases this.2.1 with z|z<;>omega,by omega,this.2.2⟩,c0,c1,c2,c3,c4,c5,c6,c7,c8,hz2 _,hz2 _,hz2 _,hz2 _,hz2 _,hz2 _,hz2 _,hz2 _,hz2 _⟩
set_option maxHeartbeats 16000000
theorem sc_os (w:World) (p:Addr) (u:Value):(w.setCell p u).os=w.os:=rfl
theorem sc_tape (w:World) (p:Addr) (u:Value):(w.setCell p u).tape=w.tape:=rfl
theorem sc_output (w:World) (p:Addr) (u:Value):(w.setCell p u).output=w.output:=rfl
theorem clone_walk (w0 w:World) (fname:ByteArray) (pa:Option Addr) (pn pc:Nat) (regs frm ent:Int) (ad:Addr) (n cap:Nat) (params:List Int) (code:List Ins) (HP:Hid (IL w (.slice pa pn pc) params)) (HW0:Hid (Below w0.heap.size w0 w)) (HC:Hid (CodeAt w0 (.slice (some ad) n cap) code)) (HN:Hid (code.length=n)) (hn0:0<n) :
  Calls prog 28 #[.agg #[.string fname,.slice pa pn pc,.int .i64 regs,.int .i64 frm,.int .i64 ent,.slice (some ad) n cap]] w (retCl w0.heap.size w ⟨fname,params,regs,frm,ent,code⟩):=by
 obtain⟨rows,hm,hrl,hsr,h1⟩:=HC.out.srow;have h88:n*88≤140737488355328:=by obtain⟨_,_,e,q,_⟩:=HC.out;rw[HN.out] at q;exact q
 have hnm:(n:Int)≤9223372036854775807:=by omega
 rw[HN.out] at hsr;have hrn:(rows.flatMap inC).length=n*9:=by rw[inC_length,←HN.out,←hm,List.length_map]
 have HM:=hidF hm;have HRL:=hidF hrl;have HSR0:=hidF hsr;have H1:=hidF h1;have HRN:=hidF hrn;clear hm hrl hsr h1 hrn
 go_enter func28,ntmps28
 go_upto_region 1 with fail
 refine gwp_namedF (fun W=>Below w.heap.size w W∧W.heap.size=w.heap.size+2∧W.heap[w.heap.size]? = some (.cells #[.string fname,.slice pa pn pc,.int .i64 regs,.int .i64 frm,.int .i64 ent,.slice (some ad) n cap] 25 (0,0))∧W.heap[w.heap.size+1]? = some (.cells #[.string ⟨#[]⟩,.slice none 0 0,.int .i64 0,.int .i64 0,.int .i64 0,.slice none 0 0] 25 (0,0))) ⟨bel_alloc (bel_alloc (Below.refl _ _) _) _,by simp,xkeep_heap (bel_alloc (Below.refl _ _) _) (xheap_new w _),by have:=xheap_new (w.alloc (.cells #[.string fname,.slice pa pn pc,.int .i64 regs,.int .i64 frm,.int .i64 ent,.slice (some ad) n cap] 25 (0,0))) (.cells #[.string ⟨#[]⟩,.slice none 0 0,.int .i64 0,.int .i64 0,.int .i64 0,.slice none 0 0] 25 (0,0));rw[World.size_alloc] at this;exact this⟩ ?_;rintro W1 ⟨hb1,hs1,hFB,hRB⟩;have HB1:=hidF hb1;have HS1:=hidF hs1;have HFB:=hidF hFB;have HRB:=hidF hRB;have f1:=xheap_cell (o:=1) hFB rfl;have f5:=xheap_cell (o:=5) hFB rfl;have z1:=xheap_frozen (o:=1) hFB;have z5:=xheap_frozen (o:=5) hFB;clear hb1 hs1 hFB hRB;refine wp_calmS ?_;refine cl_r1 w.heap.size n cap ad _ params (rows.flatMap inC) _ _ _ _ _ _ _ _ _ _ _ _ _ _ _ _ _ _ _ _ _ _ _ _ _ _ _ _ _ _ _ _ W1 f1 z1 f5 z5 ⟨_,_,_,rfl⟩ (HP.out.keep HB1.out) HRN.out (HSR0.out.keep (bel_trans HW0.out HB1.out)) H1.out h88 ?_;intro y4 y5 y6 y7 y8 y9 y10 y11 pa' pc' pn' a5 c5 w3 w5 hil hfr hb3 ho hb5;obtain⟨Wo,CB,hso,hbo,hj,hk⟩:=cl_start (pa':=pa') (pn':=pn') (pc':=pc') HW0.out HB1.out HS1.out HFB.out HN.out hn0 hil hfr hb3 ho hb5 HM.out HRL.out;have hrb:((w5.setCell ⟨w.heap.size,1,none⟩ (.slice pa' pn' pc')).setCell ⟨w.heap.size,5,none⟩ (.slice a5 n c5)).heap[w.heap.size+1]? = some (.cells #[.string ⟨#[]⟩,.slice none 0 0,.int .i64 0,.int .i64 0,.int .i64 0,.slice none 0 0] 25 (0,0)):=(hk _ (by omega) (by omega)).trans HRB.out
 generalize (w5.setCell ⟨w.heap.size,1,none⟩ (.slice pa' pn' pc')).setCell ⟨w.heap.size,5,none⟩ (.slice a5 n c5)=W2 at *
 obtain⟨rfl,_,_⟩:=hj.row hn0;have HSO:=hidF hso;have HBO:=hidF hbo;have HJ0:=hidF hj;have HRB0:=hidF hrb;have x5:=xheap_cell (o:=5) hj.box rfl;clear hso hbo hj hrb hk hil hfr hb3 ho hb5 f1 f5 z1 z5 HFB HRB HSR0 HRL H1;go_wp2
 go_loopw [15] (fun vv wz=>∃ i:Nat,i≤n∧vv=.int .i64 i∧Hid (CpJ w0.heap.size Wo wz w.heap.size CB ⟨fname,params,regs,frm,ent,code⟩ (.slice pa' pn' pc') (some ⟨CB,0,none⟩) n c5∧wz.heap[w.heap.size+1]? = some (.cells #[.string ⟨#[]⟩,.slice none 0 0,.int .i64 0,.int .i64 0,.int .i64 0,.slice none 0 0] 25 (0,0)))) (fun vv _=>n - (intOf vv).toNat)
 case atStart=>exact⟨0,by omega,rfl,hidF ⟨HJ0.out,HRB0.out⟩⟩
 case round =>
  clear HJ0 HRB0 x5;obtain⟨i,hi,rfl,HJ⟩:=hrel
  rename World=>wz
  have x5:=xheap_cell (o:=5) HJ.out.1.box rfl
  by_cases hin:i<n
  ·have j0:(0:Int)≤i:=by omega
   have j1:(i:Int)<n:=by omega
   have hget:=List.getElem?_eq_getElem (l:=code) (show i<code.length by rw[HN.out];exact hin)
   generalize code[i]'(by rw[HN.out];exact hin)=x at hget
   obtain⟨_,⟨cur,hcur⟩,hrow⟩:=HJ.out.1.row hn0;obtain⟨v,hv,c0,c1,c2,c3,c4,c5',c6,c7,c8⟩:=hrow i x hget;have hv2:=hv.1;obtain⟨aa,ac,rfl,_⟩:=hv2.partsF;have z6:=xheap_frozen (o:=0+i*9+6) hcur;have HG:=hidF hget;have HNE:w.heap.size≠CB:=by have:=HJ.out.1.ge;have:=HSO.out;omega
   have HNR:Hid (w.heap.size+1≠CB):=by show _≠_;have:=HJ.out.1.ge;have:=HSO.out;omega
   have HV:=hidF hv2
   generalize x.args.length=an at *
   clear hget hrow hv hv2 c0 c1 c2 c3 c4 c5' c7 c8 hcur
   go_upto_region 5 with fail
   refine wp_calm ?_;refine cl_r5 w.heap.size CB i n c5 an ac aa x.args _ _ _ _ _ _ _ _ _ _ _ _ _ _ _ _ _ _ _ _ _ _ _ _ _ _ _ _ _ _ _ wz (fun c a dd v x h=>by cases h.1) x5 c6 z6 j0 j1 HV HNE ?_;intro y18 y19 y20 y21 y22 y23 y24 y25 y26 y27 y28 y29 pb pd pm w4 hb4 hil4 hfr4
   have HJ2:Hid (CpJ w0.heap.size Wo (w4.setCell ⟨CB,0+i*9+6,none⟩ (.slice pb pm pd)) w.heap.size CB ⟨fname,params,regs,frm,ent,code⟩ (.slice pa' pn' pc') (some ⟨CB,0,none⟩) n c5∧(w4.setCell ⟨CB,0+i*9+6,none⟩ (.slice pb pm pd)).heap[w.heap.size+1]? = some (.cells #[.string ⟨#[]⟩,.slice none 0 0,.int .i64 0,.int .i64 0,.int .i64 0,.slice none 0 0] 25 (0,0))) :=
    ⟨HJ.out.1.set HG.out hb4 ⟨hil4,fun hl b o s k c e=>⟨hfr4 b o s k c e,hil4.head hl e⟩⟩,(xheap_set_other HNR.out).trans (xkeep_heap hb4 HJ.out.2)⟩
   generalize w4.setCell ⟨CB,0+i*9+6,none⟩ (.slice pb pm pd)=W6 at *
   clear hb4 hil4 hfr4 c6 z6 x5;refine⟨rfl,?_⟩;go_wp2
   go_roundw
   case rel=>exact⟨i+1,by omega,by simp,HJ2⟩
   case measure=>simp[intOf];omega
  ·obtain rfl:n=i:=by omega
   have hbx:=HJ.out.1.box;have hrx:=HJ.out.2;have b0:=xheap_cell (o:=0) hbx rfl;have b1:=xheap_cell (o:=1) hbx rfl;have b2:=xheap_cell (o:=2) hbx rfl;have b3:=xheap_cell (o:=3) hbx rfl;have b4:=xheap_cell (o:=4) hbx rfl;have b5:=xheap_cell (o:=5) hbx rfl;have r0:=xheap_cell (o:=0) hrx rfl;have r1:=xheap_cell (o:=1) hrx rfl;have r2:=xheap_cell (o:=2) hrx rfl;have r3:=xheap_cell (o:=3) hrx rfl;have r4:=xheap_cell (o:=4) hrx rfl;have r5:=xheap_cell (o:=5) hrx rfl;have u0:=xheap_frozen (o:=0) hrx;have u1:=xheap_frozen (o:=1) hrx;have u2:=xheap_frozen (o:=2) hrx;have u3:=xheap_frozen (o:=3) hrx;have u4:=xheap_frozen (o:=4) hrx;have u5:=xheap_frozen (o:=5) hrx;have hrl:w.heap.size+1<wz.heap.size:=xheap_lt hrx;clear hbx hrx x5;go_wp2
   have hF:((((((wz.setCell ⟨w.heap.size+1,0,none⟩ (.string fname)).setCell ⟨w.heap.size+1,1,none⟩ (.slice pa' pn' pc')).setCell ⟨w.heap.size+1,2,none⟩ (.int .i64 regs)).setCell ⟨w.heap.size+1,3,none⟩ (.int .i64 frm)).setCell ⟨w.heap.size+1,4,none⟩ (.int .i64 ent)).setCell ⟨w.heap.size+1,5,none⟩ (.slice (some ⟨CB,0,none⟩) n c5)).heap[w.heap.size+1]? = some (.cells #[.string fname,(.slice pa' pn' pc'),.int .i64 regs,.int .i64 frm,.int .i64 ent,(.slice (some ⟨CB,0,none⟩) n c5)] 25 (0,0)):=by
    have hrx:=HJ.out.2;exact xheap_set_same (xheap_set_same (xheap_set_same (xheap_set_same (xheap_set_same (xheap_set_same hrx _) _) _) _) _) _
   have hd:ClR w0.heap.size w ⟨fname,params,regs,frm,ent,code⟩ CB c5 (.slice pa' pn' pc') ((((((wz.setCell ⟨w.heap.size+1,0,none⟩ (.string fname)).setCell ⟨w.heap.size+1,1,none⟩ (.slice pa' pn' pc')).setCell ⟨w.heap.size+1,2,none⟩ (.int .i64 regs)).setCell ⟨w.heap.size+1,3,none⟩ (.int .i64 frm)).setCell ⟨w.heap.size+1,4,none⟩ (.int .i64 ent)).setCell ⟨w.heap.size+1,5,none⟩ (.slice (some ⟨CB,0,none⟩) n c5)):=by
    refine cl_done HJ.out.1 HW0.out.size hn0 HSO.out HBO.out ⟨by rw[sc_os,sc_os,sc_os,sc_os,sc_os,sc_os],by rw[sc_tape,sc_tape,sc_tape,sc_tape,sc_tape,sc_tape],by rw[sc_output,sc_output,sc_output,sc_output,sc_output,sc_output]⟩ ?_ (fun k q=>?_)
    ·rw[xsize_set,xsize_set,xsize_set,xsize_set,xsize_set,xsize_set]
    ·rw[xheap_set_other q,xheap_set_other q,xheap_set_other q,xheap_set_other q,xheap_set_other q,xheap_set_other q]
   generalize ((((((wz.setCell ⟨w.heap.size+1,0,none⟩ (.string fname)).setCell ⟨w.heap.size+1,1,none⟩ (.slice pa' pn' pc')).setCell ⟨w.heap.size+1,2,none⟩ (.int .i64 regs)).setCell ⟨w.heap.size+1,3,none⟩ (.int .i64 frm)).setCell ⟨w.heap.size+1,4,none⟩ (.int .i64 ent)).setCell ⟨w.heap.size+1,5,none⟩ (.slice (some ⟨CB,0,none⟩) n c5))=W9 at *
   have HD:=hidF hd;have e0:=xheap_cell (o:=0) hF rfl;have e1:=xheap_cell (o:=1) hF rfl;have e2:=xheap_cell (o:=2) hF rfl;have e3:=xheap_cell (o:=3) hF rfl;have e4:=xheap_cell (o:=4) hF rfl;have e5:=xheap_cell (o:=5) hF rfl;clear hd hF HJ b0 b1 b2 b3 b4 b5 r0 r1 r2 r3 r4 r5 u0 u1 u2 u3 u4 u5;refine bodyPost_ret (v:=.agg #[.string fname,(.slice pa' pn' pc'),.int .i64 regs,.int .i64 frm,.int .i64 ent,(.slice (some ⟨CB,0,none⟩) n c5)]) (by simp[results,results28,go_sem,e0,e1,e2,e3,e4,e5]) rfl ⟨CB,c5,pa',pn',pc',?_,HD.out⟩;rw[show (⟨fname,params,regs,frm,ent,code⟩:Fn).code.length=n from HN.out]
theorem clone_any {w0 w:World} {v:Value} {f:Fn} (h:FnV w0 v f) (hw:Below w0.heap.size w0 w) (hn:0<f.code.length):Calls prog 28 #[v] w (retCl w0.heap.size w f):=by
 obtain⟨pv,cv,rfl,hp,hc,_⟩:=h;obtain⟨pa,pc,rfl,_⟩:=hp.partsF;have hc2:=hc;obtain⟨ca,cap,rfl,_,_,hcc⟩:=hc;obtain⟨b,off,rfl,_⟩:=hcc (fun e=>by rw[e] at hn;simp at hn);exact clone_walk w0 w f.name pa _ pc f.regs f.frame f.entry ⟨b,off,none⟩ _ cap f.params f.code (hp.keep hw) hw hc2 rfl hn
theorem infoBRow:(prog.info? 37).map (fun i=>(i.zero,i.size,i.bytes))=some (some (.slice none 0 0),1,24):=by kernel_rfl
theorem mk_brows (n:Nat) (hn:n≤1000000) (w:World):(Instr.makeSlice 32 (.int .i64 n) (.int .i64 n)).run prog w=.ok (.slice (some ⟨w.heap.size,0,none⟩) n n) (w.alloc (.cells (madeCells #[.slice none 0 0] n) 37)):=by
 obtain⟨i0,hi,hz0,hz1,hz2⟩:=info_parts infoBRow;have:=run_make (P:=prog) w 32 37 i0 (.slice none 0 0) underlying32 hi hz0 .i64 .i64 n n (by omega) (by omega) (by rw[hz2];omega) (by omega);rw[this,hz1];simp[Value.cells]
structure TB (B LB N R:Nat) (rb:Nat→Nat) (t:Nat→Nat→Bool) (W:World):Prop where
 c:∀ i,i<N→W.cell? ⟨LB,i,none⟩=some (.slice (some ⟨rb i,0,none⟩) R R)
 v:∀ i,i<N→MetAt W (rb i) R (t i)
 ne:∀ i,i<N→rb i≠LB
 inj:∀ i j,i<N→j<N→i≠j→rb i≠rb j
 lo:∀ i,i<N→B≤rb i∧rb i<W.heap.size
 ll:B≤LB
theorem TB.of {B LB N R:Nat} {rb:Nat→Nat} {t:Nat→Nat→Bool} {W W':World} (h:TB B LB N R rb t W) (hk:∀ k,k<W.heap.size→(k=LB∨∃ i,i<N∧rb i=k)→W'.heap[k]? = W.heap[k]?) (hs:W.heap.size≤W'.heap.size):TB B LB N R rb t W' :=
 ⟨fun i hi=>cell_of (h.c i hi) (fun hl=>hk _ hl (.inl rfl)),fun i hi=>(h.v i hi).of (hk _ (h.lo i hi).2 (.inr ⟨i,hi,rfl⟩)),h.ne,h.inj,fun i hi=>⟨(h.lo i hi).1,Nat.lt_of_lt_of_le (h.lo i hi).2 hs⟩,h.ll⟩
theorem TB.below {B LB N R:Nat} {rb:Nat→Nat} {t:Nat→Nat→Bool} {W W':World} (h:TB B LB N R rb t W) (hb:Below W.heap.size W W'):TB B LB N R rb t W':=h.of (fun k hk _=>hb.block k hk) hb.size
theorem MetAt.ext {W:World} {mb n:Nat} {m m':Nat→Bool} (h:MetAt W mb n m) (e:∀ i,i<n→m i=m' i):MetAt W mb n m':=fun i hi=>by rw[←e i hi];exact h i hi
def AllB (W:World) (b:Nat):Prop:=∀ j v,W.cell? ⟨b,j,none⟩=some v→∃ c,v=.bool c
theorem AllB.set {W:World} {b o:Nat} {c:Bool} (h:AllB W b) (hc:∃ v,W.cell? ⟨b,o,none⟩=some v):AllB (W.setCell ⟨b,o,none⟩ (.bool c)) b:=fun j v hv=>by
 by_cases e:j=o
 ·subst e
  obtain⟨u,hu⟩:=hc;rw[World.cell?_setCell_same _ _ _ hu] at hv
  injection hv with hv
  exact⟨c,hv.symm⟩
 ·rw[World.cell?_setCell_other _ _ _ _ (fun e2=>e (by cases e2;rfl))] at hv
  exact h j v hv
theorem AllB.of {W W':World} {b:Nat} (h:AllB W b) (hk:W'.heap[b]? = W.heap[b]?):AllB W' b:=fun j v hv=>h j v (by rw[←World.cell?_of_block (w:=W) hk];exact hv)
def retM (R:Nat) (m:Nat→Bool) (w:World):Ending→World→Prop:=fun e W=>∃ b,e=.returned (.slice (some ⟨b,0,none⟩) R R)∧w.heap.size≤b∧b<W.heap.size∧MetAt W b R m∧AllB W b∧Below w.heap.size w W
def anyF (t:Nat→Nat→Bool) (l:List Int) (r:Nat):Bool:=l.any fun s=>t s.toNat r
theorem anyF_snoc (t:Nat→Nat→Bool) (l:List Int) (s:Int) (r:Nat):anyF t (l++[s]) r=(anyF t l r||t s.toNat r):=by simp[anyF]
def midM (a b:Nat→Bool) (r:Nat):Nat→Bool:=fun j=>if j<r then a j else b j
theorem midM_succ (a b:Nat→Bool) (r j:Nat):midM a b (r+1) j=if j=r then a r else midM a b r j:=by
 unfold midM
 by_cases h:j=r
 ·subst h;simp
 ·by_cases h2:j<r
  ·rw[if_pos (by omega),if_neg h,if_pos h2]
  ·rw[if_neg (by omega),if_neg h,if_neg h2]
theorem new_blk (w:World) (o:Obj) (k:Nat) (hk:w.heap.size=k):(w.alloc o).heap[k]? = some o:=by
 rw[←hk]
 show (w.heap.push _)[w.heap.size]? = _
 simp
theorem made_some {x v:Value} {n j:Nat} (h:(madeCells #[x] n)[j]? = some v):v=x:=by
 by_cases hj:j<n
 ·rw[made_get x n j hj] at h
  injection h with h
  exact h.symm
 ·rw[Array.getElem?_eq_none (by rw[size_madeCells];simpa using hj)] at h
  cases h
theorem behind_walk (w:World) (fname:ByteArray) (pa:Option Addr) (pn pc:Nat) (frm ent:Int) (R N cap cb co LB B n:Nat) (ca:Option Addr) (x:Ins) (rb:Nat→Nat) (t:Nat→Nat→Bool) (hR:R≤1000000) (hN:N≤100000) (hn:n<N) (HCA:Hid (ca=some ⟨cb,co,none⟩)) (HIN:Hid (InsAt w cb (co+n*9) x)) (HT:Hid (TB B LB N R rb t w)) (HLB:Hid (LB<w.heap.size)) (HSX:Hid (∀ y∈sxF x,0≤y∧y<N)) :
  Calls prog 20 #[.agg #[.string fname,.slice pa pn pc,.int .i64 (R:Int),.int .i64 frm,.int .i64 ent,.slice ca N cap],.slice (some ⟨LB,0,none⟩) N N,.int .i64 (n:Int)] w (retM R (anyF t (sxF x)) w):=by
 obtain rfl:=HCA.out;obtain⟨v,hil,e0,e1,e2,e3,e4,e5,e6,e7,e8⟩:=HIN.out;obtain⟨va,vc,rfl,_⟩:=hil.partsF
 generalize x.args.length=vn at *
 have mk1:=mk_bools R (by omega);have j0:(0:Int)≤n:=by omega
 have j1:(n:Int)<N:=by omega
 have hcb:cb<w.heap.size:=block_lt_of_cell e0
 go_enter func20,ntmps20
 go_upto_region 3 with (go_at_call 35;refine(rSuccs_any x.op x.sub x.a x.b x.d x.k (.slice va vn vc) x.s x.t _).mono ?_;rintro e W3 ⟨sv,rfl,hsl,hb3⟩)
 obtain⟨sa,sc,sb,so,rfl,hs8,hsa,hsc⟩:=hsl.parts;have hb4:Below w.heap.size w W3:=bel_trans (bel_alloc (bel_alloc (Below.refl _ _) _) _) hb3;have hbz:W3.heap[w.heap.size+1]? = some (.cells (madeCells #[.bool false] R) 4 (0,0)):=(hb3.block _ (by simp)).trans (new_blk _ _ _ (World.size_alloc _ _));have c2:W3.cell? ⟨w.heap.size,2,none⟩=some (.int .i64 (R:Int)):=keep_cell hb3 (keep_alloc (by simp) _)
 have HM3:Hid (MetAt W3 (w.heap.size+1) R (fun _=>false)):=fun i hi=>by
  have:=made_at (w.alloc (.cells #[.string fname,.slice pa pn pc,.int .i64 (R:Int),.int .i64 frm,.int .i64 ent,.slice (some ⟨cb,co,none⟩) N cap] 25)) (.bool false) R 4 i hi;rw[World.size_alloc] at this;exact⟨keep_cell hb3 this.1,keep_frozen hb3 this.1 this.2⟩
 have HA3:Hid (AllB W3 (w.heap.size+1)):=fun j v hv=>by
  unfold World.cell? at hv;rw[hbz] at hv;exact⟨false,made_some (by simpa using hv)⟩
 have HT3:Hid (TB B LB N R rb t W3∧∀ i,i<N→rb i<w.heap.size):=⟨HT.out.below hb4,fun i hi=>(HT.out.lo i hi).2⟩;have HB4:=hidF hb4;have hs3:w.heap.size+2≤W3.heap.size:=by have:=hb3.size;simp at this;omega
 obtain⟨sl,hsq⟩:∃ sl,sxF x=sl:=⟨_,rfl⟩;have hsq2:succsF x.op x.s x.t=sl:=hsq;have HSQ:=hidF hsq;rw[hsq2] at hsa hsc hs8;rw[hsq] at HSX;rw[hsq2];obtain⟨ns,hns⟩:∃ ns,sl.length=ns:=⟨_,rfl⟩;rw[hns] at hsa hs8;rw[hns]
 have HSB:Hid (0<ns→sb≠w.heap.size+1):=fun h0 e=>by
  have hg:=List.getElem?_eq_getElem (l:=sl) (show 0<sl.length by omega);have:=hsc 0 _ hg;rw[e] at this;unfold World.cell? at this;rw[hbz] at this;have:=made_some (by simpa using this)
  cases this
 have HSA:=hidF hsa;have HSC:=hidF hsc;have HNS:=hidF hns;have hLB:LB<w.heap.size:=HLB.out;clear hsl hb3 hb4 hbz hsa hsc hns hsq hsq2 HT HIN e0 e1 e2 e3 e4 e5 e6 e7 e8;go_wp2
 go_loopw [9] (fun v9 wz=>∃ k:Nat,k≤ns∧v9=.int .i64 k∧Hid (MetAt wz (w.heap.size+1) R (anyF t (sl.take k))∧AllB wz (w.heap.size+1))∧Hid (Only (w.heap.size+1) W3 wz)) (fun v9 _=>ns - (intOf v9).toNat)
 case atStart=>exact⟨0,by omega,rfl,hidF ⟨HM3.out.ext (fun i _=>by simp[anyF]),HA3.out⟩,hidF (Only.refl _ _)⟩
 case round =>
  obtain⟨k,hk,rfl,HM,HO⟩:=hrel
  rename World=>wz
  have c2z:=HO.out.cell (show w.heap.size≠w.heap.size+1 by omega) c2
  by_cases hin:k<ns
  ·have k0:(0:Int)≤k:=by omega
   have k1:(k:Int)<ns:=by omega
   have hget:=List.getElem?_eq_getElem (l:=sl) (show k<sl.length by rw[HNS.out];exact hin)
   generalize sl[k]'(by rw[HNS.out];exact hin)=y at hget
   have hy:=HSX.out y (List.mem_of_getElem? hget);obtain⟨z,rfl⟩:∃ z:Nat,y=z:=⟨y.toNat,by omega⟩;obtain rfl:=HSA.out (by omega);have cs:=HO.out.cell (HSB.out (by omega)) (HSC.out k z hget)
   have HTK:Hid (∀ j,anyF t (sl.take (k+1)) j=(anyF t (sl.take k) j||t z j)):=fun j=>by
    rw[List.take_add_one,hget];exact anyF_snoc t (sl.take k) (z:Int) j
   have hzN:z<N:=by omega
   have HCS:=hidF (HSC.out k z hget);clear hget;go_wp2
   go_loopw [10] (fun v10 wq=>∃ r:Nat,r≤R∧v10=.int .i64 r∧Hid (MetAt wq (w.heap.size+1) R (midM (anyF t (sl.take (k+1))) (anyF t (sl.take k)) r)∧AllB wq (w.heap.size+1))∧Hid (Only (w.heap.size+1) W3 wq)) (fun v10 _=>R - (intOf v10).toNat)
   case atStart=>exact⟨0,by omega,rfl,hidF ⟨HM.out.1.ext (fun i _=>by simp[midM]),HM.out.2⟩,HO⟩
   case round =>
    obtain⟨r,hr,rfl,HMq,HOq⟩:=hrel
    rename World=>wq
    have c2q:=HOq.out.cell (show w.heap.size≠w.heap.size+1 by omega) c2;have csq:=HOq.out.cell (HSB.out (by omega)) HCS.out
    by_cases hrn:r<R
    ·have r0:(0:Int)≤r:=by omega
     have r1:(r:Int)<R:=by omega
     obtain⟨hm1,hf1⟩:=HMq.out.1 r hrn;have HEX:Hid (∃ v,wq.cell? ⟨w.heap.size+1,r,none⟩=some v):=⟨_,hm1⟩;have hmid:midM (anyF t (sl.take (k+1))) (anyF t (sl.take k)) r r=anyF t (sl.take k) r:=by simp[midM]
     rw[hmid] at hm1
     have hTq:=HT3.out.1.of (W':=wq) (fun q _ hq=>HOq.out.block q (by
      rcases hq with e|⟨i,hi,e⟩
      ·omega
      ·have:=HT3.out.2 i hi;omega)) (by rw[HOq.out.size];exact Nat.le_refl _)
     have cl:=hTq.c z hzN;have cv:=(hTq.v z hzN r hrn).1;clear hTq hmid
     cases hq:anyF t (sl.take k) r with
     |true =>
      rw[hq] at hm1;have HNX:Hid (∀ j,midM (anyF t (sl.take (k+1))) (anyF t (sl.take k)) (r+1) j=if j=r then true else midM (anyF t (sl.take (k+1))) (anyF t (sl.take k)) r j):=fun j=>by rw[midM_succ,HTK.out r,hq];rfl
      clear hq;go_wp2
      go_roundw
      case rel=>exact⟨r+1,by omega,by simp,hidF ⟨HMq.out.1.setB HNX.out,HMq.out.2.set HEX.out⟩,hidF (HOq.out.set _ _)⟩
      case measure=>simp[intOf];omega
     |false =>
      rw[hq] at hm1;have HNX:Hid (∀ j,midM (anyF t (sl.take (k+1))) (anyF t (sl.take k)) (r+1) j=if j=r then t z r else midM (anyF t (sl.take (k+1))) (anyF t (sl.take k)) r j):=fun j=>by rw[midM_succ,HTK.out r,hq];rfl
      clear hq
      generalize t z r=bv at *
      go_wp2
      go_roundw
      case rel=>exact⟨r+1,by omega,by simp,hidF ⟨HMq.out.1.setB HNX.out,HMq.out.2.set HEX.out⟩,hidF (HOq.out.set _ _)⟩
      case measure=>simp[intOf];omega
    ·obtain rfl:R=r:=by omega
     have HMZ:Hid (MetAt wq (w.heap.size+1) R (anyF t (sl.take (k+1)))∧AllB wq (w.heap.size+1)):=hidF ⟨HMq.out.1.ext (fun i hi=>by simp[midM,hi]),HMq.out.2⟩;go_wp2
     go_roundw
     case rel=>exact⟨k+1,by omega,by simp,HMZ,HOq⟩
     case measure=>simp[intOf];omega
  ·obtain rfl:ns=k:=by omega
   have HMZ:Hid (MetAt wz (w.heap.size+1) R (anyF t sl)):=hidF (HM.out.1.ext (fun i hi=>by rw[←HNS.out,List.take_length]));go_wp2;go_ret;have ho:=HO.out;have hb:=HB4.out;exact⟨_,rfl,by omega,by rw[ho.size];omega,by rw[HSQ.out];exact HMZ.out,HM.out.2,⟨ho.os.trans hb.os,ho.tape.trans hb.tape,ho.output.trans hb.output,by rw[ho.size];exact hb.size,fun q hq=>(ho.block q (by omega)).trans (hb.block q hq)⟩⟩
def usR (x:Ins):List Int:=usesF x.op x.a x.b x.args
def wrR (x:Ins):List Int:=if 0≤writesF x.op x.d then [writesF x.op x.d] else []
def nowR (t:Nat→Nat→Bool) (x:Ins) (r:Nat):Bool:=(usR x).contains (r:Int)||(!(wrR x).contains (r:Int)&&anyF t (sxF x) r)
abbrev LvR (code:List Ins):=LvP usR wrR sxF code
def SoundT (code:List Ins) (N R:Nat) (t:Nat→Nat→Bool):Prop:=∀ n r,n<N→r<R→t n r=true→LvR code r n
def ClosedT (code:List Ins) (R:Nat) (t:Nat→Nat→Bool) (n:Nat):Prop:=∀ x r,code[n]? = some x→r<R→nowR t x r=true→t n r=true
theorem now_sound {code:List Ins} {N R n r:Nat} {t:Nat→Nat→Bool} {x:Ins} (h:SoundT code N R t) (hx:code[n]? = some x) (hr:r<R) (hs:∀ y∈sxF x,0≤y∧y<N) (hn:nowR t x r=true):LvR code r n:=by
 unfold nowR at hn;rw[Bool.or_eq_true,Bool.and_eq_true] at hn
 rcases hn with h1|⟨h1,h2⟩
 ·exact .use hx (by simpa using h1)
 ·unfold anyF at h2
  obtain⟨y,hy,ht⟩:=List.any_eq_true.1 h2;obtain⟨q1,q2⟩:=hs y hy;obtain⟨z,rfl⟩:∃ z:Nat,y=z:=⟨y.toNat,by omega⟩;exact .pass hx (by simpa using h1) hy (h z r (by omega) hr (by simpa using ht))
theorem closed_live {code:List Ins} {N R r n:Nat} {t:Nat→Nat→Bool} (hN:code.length=N) (hs:∀ x∈code,∀ y∈sxF x,0≤y∧y<N) (h:∀ n,n<N→ClosedT code R t n) (hr:r<R) (hl:LvR code r n):t n r=true:=by
 have hlt:∀ {n:Nat} {x:Ins},code[n]? = some x→n<N:=fun hx=>by have:=(List.getElem?_eq_some_iff.1 hx).1;omega
 induction hl with
 | @use n x hx hu=>exact h n (hlt hx) x r hx hr (by unfold nowR;rw[show (usR x).contains (r:Int)=true by simpa using hu];rfl)
 | @pass n s x hx hw hsx hl ih =>
  refine h n (hlt hx) x r hx hr ?_;unfold nowR anyF;rw[Bool.or_eq_true,Bool.and_eq_true]
  right
  refine⟨by simpa using hw,List.any_eq_true.2 ⟨(s:Int),hsx,by simpa using ih⟩⟩
def cntT (R:Nat) (t:Nat→Nat→Bool):Nat→Nat
 |0=>0
 |n+1=>cntT R t n+unm (t n) R
theorem unm_mono {m m':Nat→Bool}:∀ {n:Nat},(∀ i,i<n→m i=true→m' i=true)→unm m' n≤unm m n
 |0,_=>Nat.le_refl _
 |n+1,h=>by
  simp only[unm];have h1:=unm_mono (n:=n) (fun i hi=>h i (by omega));have h2:=h n (by omega)
  cases hm:m n with
  |true=>rw[h2 hm];simpa using h1
  |false=>split<;>simp<;>omega
theorem unm_lt {m m':Nat→Bool}:∀ {n:Nat},(∀ i,i<n→m i=true→m' i=true)→(∃ i,i<n∧m i=false∧m' i=true)→unm m' n<unm m n
 |0,_,⟨i,hi,_⟩=>by omega
 |n+1,h,⟨i,hi,h1,h2⟩=>by
  simp only[unm];have hm:=unm_mono (n:=n) (fun i hi=>h i (by omega))
  by_cases e:i=n
  ·subst e
   rw[h1,h2];simp
   omega
  ·have:=unm_lt (n:=n) (fun i hi=>h i (by omega)) ⟨i,by omega,h1,h2⟩
   have h3:=h n (by omega)
   cases hq:m n with
   |true=>rw[h3 hq];simpa using this
   |false=>split<;>simp<;>omega
theorem cntT_mono {R:Nat} {t t':Nat→Nat→Bool}:∀ {N:Nat},(∀ i j,i<N→j<R→t i j=true→t' i j=true)→cntT R t' N≤cntT R t N
 |0,_=>Nat.le_refl _
 |N+1,h=>by
  simp only[cntT];have h1:=cntT_mono (N:=N) (fun i j hi=>h i j (by omega));have h2:=unm_mono (n:=R) (fun j hj=>h N j (by omega) hj)
  omega
theorem cntT_lt {R:Nat} {t t':Nat→Nat→Bool}:∀ {N:Nat},(∀ i j,i<N→j<R→t i j=true→t' i j=true)→(∃ i j,i<N∧j<R∧t i j=false∧t' i j=true)→cntT R t' N<cntT R t N
 |0,_,⟨i,j,hi,_⟩=>by omega
 |N+1,h,⟨i,j,hi,hj,h1,h2⟩=>by
  simp only[cntT];have h3:=cntT_mono (N:=N) (fun i j hi=>h i j (by omega));have h4:=unm_mono (n:=R) (fun j hj=>h N j (by omega) hj)
  by_cases e:i=N
  ·subst e
   have:=unm_lt (n:=R) (fun j hj=>h i j (by omega) hj) ⟨j,hj,h1,h2⟩
   omega
  ·have:=cntT_lt (N:=N) (fun i j hi=>h i j (by omega)) ⟨i,j,by omega,hj,h1,h2⟩
   omega
def upT (t:Nat→Nat→Bool) (n:Nat) (now:Nat→Bool) (r:Nat):Nat→Nat→Bool:=fun i j=>if i=n∧j<r then (t i j||now j) else t i j
theorem upT_zero (t:Nat→Nat→Bool) (n:Nat) (now:Nat→Bool):upT t n now 0=t:=by
 funext i j
 simp[upT]
theorem upT_yes {t:Nat→Nat→Bool} {n r:Nat} {now:Nat→Bool} (h:(t n r||now r)=true) (i j:Nat):upT t n now (r+1) i j=if i=n∧j=r then true else upT t n now r i j:=by
 unfold upT
 by_cases h1:i=n
 ·subst h1
  by_cases h2:j=r
  ·subst h2;simp[h]
  ·by_cases h3:j<r
   ·rw[if_pos ⟨rfl,by omega⟩,if_neg (by simp[h2]),if_pos ⟨rfl,h3⟩]
   ·rw[if_neg (by simp;omega),if_neg (by simp[h2]),if_neg (by simp;omega)]
 ·simp[h1]
theorem upT_no {t:Nat→Nat→Bool} {n r:Nat} {now:Nat→Bool} (h:(t n r||now r)=t n r) (i j:Nat):upT t n now (r+1) i j=upT t n now r i j:=by
 unfold upT
 by_cases h1:i=n
 ·subst h1
  by_cases h2:j=r
  ·subst h2
   rw[if_pos ⟨rfl,by omega⟩,if_neg (by simp),h]
  ·by_cases h3:j<r
   ·rw[if_pos ⟨rfl,by omega⟩,if_pos ⟨rfl,h3⟩]
   ·rw[if_neg (by simp;omega),if_neg (by simp;omega)]
 ·simp[h1]
theorem upT_at (t:Nat→Nat→Bool) (n r:Nat) (now:Nat→Bool):upT t n now r n r=t n r:=by simp[upT]
def agF (ag:Bool) (t:Nat→Nat→Bool) (n:Nat) (now:Nat→Bool) (r:Nat):Bool:=ag||(List.range r).any fun j=>now j && !t n j
theorem agF_succ (ag:Bool) (t:Nat→Nat→Bool) (n:Nat) (now:Nat→Bool) (r:Nat):agF ag t n now (r+1)=(agF ag t n now r||(now r && !t n r)):=by
 unfold agF;rw[List.range_succ,List.any_append];simp[Bool.or_assoc]
structure PassT (code:List Ins) (N R:Nat) (t0:Nat→Nat→Bool) (c:Nat) (ag:Bool) (t:Nat→Nat→Bool):Prop where
 so:SoundT code N R t
 no:ag=false→(∀ i j,i<N→j<R→t i j=t0 i j)∧∀ m,c≤m→m<N→ClosedT code R t0 m
 le:cntT R t N≤cntT R t0 N
 lt:ag=true→cntT R t N<cntT R t0 N
theorem nowR_ext {t t':Nat→Nat→Bool} {x:Ins} {N R r:Nat} (hs:∀ y∈sxF x,0≤y∧y<N) (hr:r<R) (h:∀ i j,i<N→j<R→t i j=t' i j):nowR t x r=nowR t' x r:=by
 have:anyF t (sxF x) r=anyF t' (sxF x) r:=by
  unfold anyF;rw[Bool.eq_iff_iff,List.any_eq_true,List.any_eq_true]
  constructor
  ·rintro⟨y,hy,q⟩
   exact⟨y,hy,by rw[←h y.toNat r (by have:=hs y hy;omega) hr];exact q⟩
  ·rintro⟨y,hy,q⟩
   exact⟨y,hy,by rw[h y.toNat r (by have:=hs y hy;omega) hr];exact q⟩
 unfold nowR;rw[this]
theorem PassT.step {code:List Ins} {N R c:Nat} {t0 t:Nat→Nat→Bool} {ag:Bool} {x:Ins} {now:Nat→Bool} (h:PassT code N R t0 (c+1) ag t) (hc:c<N) (hx:code[c]? = some x) (hs:∀ y∈sxF x,0≤y∧y<N) (hnow:∀ r,r<R→now r=nowR t x r) :
  PassT code N R t0 c (agF ag t c now R) (upT t c now R):=by
 have hge:∀ i j,i<N→j<R→t i j=true→upT t c now R i j=true:=fun i j _ _ q=>by unfold upT;split<;>simp[q]
 refine⟨fun n r hn hr q=>?_,fun q=>?_,Nat.le_trans (cntT_mono hge) h.le,fun q=>?_⟩
 ·unfold upT at q
  split at q
  ·rename_i hq
   obtain⟨rfl,_⟩:=hq;rw[Bool.or_eq_true] at q
   rcases q with q|q
   ·exact h.so n r hn hr q
   ·exact now_sound h.so hx hr hs (by rw[←hnow r hr];exact q)
  ·exact h.so n r hn hr q
 ·unfold agF at q
  rw[Bool.or_eq_false_iff] at q;obtain⟨h1,h2⟩:=h.no q.1
  have h3:∀ j,j<R→now j=true→t c j=true:=fun j hj hq=>by
   have:=List.any_eq_false.1 q.2 j (List.mem_range.2 hj);rw[hq] at this;simpa using this
  refine⟨fun i j hi hj=>?_,fun m hm hmN=>?_⟩
  ·rw[←h1 i j hi hj]
   unfold upT
   split
   ·rename_i hq
    obtain⟨rfl,_⟩:=hq
    cases hj2:now j with
    |true=>rw[h3 j hj hj2];rfl
    |false=>simp
   ·rfl
  ·by_cases e:m=c
   ·subst e
    intro x2 r hx2 hr q2;rw[hx] at hx2
    cases hx2
    rw[←h1 m r hmN hr];refine h3 r hr ?_;rw[hnow r hr,nowR_ext hs hr h1];exact q2
   ·exact h2 m (by omega) hmN
 ·unfold agF at q
  rw[Bool.or_eq_true] at q
  rcases q with q|q
  ·exact Nat.lt_of_le_of_lt (cntT_mono hge) (h.lt q)
  ·obtain⟨j,hj,hq⟩:=List.any_eq_true.1 q
   rw[Bool.and_eq_true] at hq;have hjR:=List.mem_range.1 hj;refine Nat.lt_of_lt_of_le (cntT_lt hge ⟨c,j,hc,hjR,by simpa using hq.2,?_⟩) h.le;unfold upT;rw[if_pos ⟨rfl,hjR⟩,hq.1];simp
theorem TB.set {B LB N R n r:Nat} {rb:Nat→Nat} {t t':Nat→Nat→Bool} {W:World} (h:TB B LB N R rb t W) (hn:n<N) (hr:r<R) (ht:∀ i j,t' i j=if i=n∧j=r then true else t i j):TB B LB N R rb t' (W.setCell ⟨rb n,r,none⟩ (.bool true)) where
 c:=fun i hi=>by
  rw[World.cell?_setCell_other _ _ _ _ (fun e=>by injection e with e;exact h.ne n hn e)];exact h.c i hi
 v:=fun i hi=>by
  by_cases e:i=n
  ·subst e
   exact(h.v i hi).setB (fun j=>by rw[ht];simp)
  ·exact((h.v i hi).of (gset_otherF (h.inj i n hi hn e))).ext (fun j _=>by rw[ht,if_neg (by simp[e])])
 ne:=h.ne
 inj:=h.inj
 lo:=fun i hi=>by rw[gsize_setF];exact h.lo i hi
 ll:=h.ll
theorem TB.ext {B LB N R:Nat} {rb:Nat→Nat} {t t':Nat→Nat→Bool} {W:World} (h:TB B LB N R rb t W) (e:∀ i j,t' i j=t i j):TB B LB N R rb t' W:=by
 have:t'=t:=by funext i j;exact e i j
 rw[this];exact h
def rowOf (W:World) (LB i:Nat):Nat:=match W.cell? ⟨LB,i,none⟩ with
 |some (.slice (some a) _ _)=>a.block
 |_=>0
def cntTW (LB R:Nat) (W:World):Nat→Nat
 |0=>0
 |n+1=>cntTW LB R W n+cntW (rowOf W LB n) R W
theorem cntTW_eq {B LB N R:Nat} {rb:Nat→Nat} {t:Nat→Nat→Bool} {W:World} (h:TB B LB N R rb t W):∀ n,n≤N→cntTW LB R W n=cntT R t n
 |0,_=>rfl
 |n+1,hn=>by
  have h1:rowOf W LB n=rb n:=by unfold rowOf;rw[h.c n (by omega)]
  rw[cntTW,cntT,cntTW_eq h n (by omega),h1,cntW_eq (h.v n (by omega))]
def clrM (m:Nat→Bool) (l:List Int):Nat→Bool:=fun i=>if (i:Int)∈l then false else m i
def setI (m:Nat→Bool) (l:List Int):Nat→Bool:=fun i=>if (i:Int)∈l then true else m i
theorem now_eq (t:Nat→Nat→Bool) (x:Ins) (r:Nat):setI (clrM (anyF t (sxF x)) (wrR x)) (usR x) r=nowR t x r:=by
 unfold setI clrM nowR
 by_cases h1:(r:Int)∈usR x
 ·simp[h1]
 ·by_cases h2:(r:Int)∈wrR x<;>simp[h1,h2]
theorem setI_snoc (m:Nat→Bool) (l:List Int) (y i:Nat):setI m (l++[(y:Int)]) i=if i=y then true else setI m l i:=by
 unfold setI
 by_cases e:i=y
 ·simp[e]
 ·have:(i:Int)≠y:=by omega
  simp[e,this]
set_option maxHeartbeats 8000000
theorem gindex_walk (va:Option Addr) (n vc vb vo:Nat) (l:List Int) (x:Int) (w:World) (HN:Hid (n=l.length)) (hn:n*8≤140737488355328) (HA:Hid (0<n→va=some ⟨vb,vo,none⟩)) (HC:Hid (∀ (i:Nat) y,l[i]? = some y→w.cell? ⟨vb,vo+i,none⟩=some (.int .i64 y))) :
  Calls prog 122 #[.slice va n vc,.int .i64 x] w fun e w'=>(∃ k:Int,e=.returned (.int .i64 k)∧decide (0≤k)=l.contains x)∧w'=w:=by
 have hnm:(n:Int)≤9223372036854775807:=by omega
 go_enter func122,ntmps122
 go_wp2
 go_loopw [8] (fun vv wz=>∃ i:Nat,i≤n∧vv=.int .i64 i∧Hid (∀ (j:Nat) y,j<i→l[j]? = some y→y≠x)∧wz=w) (fun vv _=>n - (intOf vv).toNat)
 case atStart=>exact⟨0,by omega,rfl,fun j y hj=>by omega,rfl⟩
 case round =>
  obtain⟨i,hi,rfl,HI,rfl⟩:=hrel
  by_cases hin:i<n
  ·obtain rfl:=HA.out (by omega)
   have j0:(0:Int)≤i:=by omega
   have j1:(i:Int)<n:=by omega
   have hget:=List.getElem?_eq_getElem (l:=l) (show i<l.length by rw[←HN.out];exact hin)
   generalize l[i]'(by rw[←HN.out];exact hin)=y at hget
   have cx:=HC.out i y hget;have HG:=hid hget;clear hget
   cases hq:(x==y) with
   |true =>
    have hm:Hid (l.contains x=true):=by
     show _=_
     rw[List.contains_iff_mem];have e:x=y:=by simpa using hq
     rw[e];exact List.mem_of_getElem? HG.out
    go_wp2;go_ret;have hmm:x∈l:=List.contains_iff_mem.1 hm.out;exact⟨⟨_,rfl,by simp[hmm]⟩,rfl⟩
   |false =>
    have HI2:Hid (∀ (j:Nat) z,j<i+1→l[j]? = some z→z≠x):=fun j z hj hz=>by
     by_cases e:j=i
     ·subst e;rw[HG.out] at hz;cases hz
      intro e2;subst e2;simp at hq
     ·exact HI.out j z (by omega) hz
    go_wp2
    go_roundw
    case rel=>exact⟨i+1,by omega,by simp,HI2,trivial⟩
    case measure=>simp[intOf];omega
  ·obtain rfl:n=i:=by omega
   have hm:Hid (l.contains x=false):=by
    show _=_
    cases h:l.contains x with
    |false=>rfl
    |true =>
     rw[List.contains_iff_mem] at h;obtain⟨j,hj⟩:=List.getElem?_of_mem h;exact absurd rfl (HI.out j x (by rw[HN.out];exact(List.getElem?_eq_some_iff.1 hj).1) hj)
   go_wp2;go_ret;exact⟨⟨_,rfl,by rw[hm.out];rfl⟩,rfl⟩
theorem gcontains_any {w:World} {v:Value} {l:List Int} (h:IL w v l) (x:Int):Calls prog 100 #[v,.int .i64 x] w fun e w'=>e=.returned (.bool (l.contains x))∧w'=w:=by
 obtain⟨va,vc,vb,vo,rfl,hl,ha,hc⟩:=h.parts;have HI:Hid (∀ W,W=w→Calls prog 122 #[.slice va l.length vc,.int .i64 x] W fun e w'=>(∃ k:Int,e=.returned (.int .i64 k)∧decide (0≤k)=l.contains x)∧w'=W):=fun W hW=>by subst hW;exact gindex_walk va l.length vc vb vo l x _ rfl hl ha hc
 clear ha hc h
 go_enter func100,ntmps100
 go_wp2_with (go_at_call 122;refine(HI.out _ rfl).mono ?_;rintro e w1 ⟨⟨k,rfl,hk⟩,hw⟩;subst hw;have HK:=hid hk;clear hk)
 go_ret;exact⟨by rw[←HK.out];rfl,rfl⟩
def lackS (x:Sp) (a b:Int) (l:List Int):Bool:=lackB x.a a||lackB x.b b||(x.args&&l.contains (-1))
theorem lacksRegister_walk (nm:ByteArray) (xsb xa xb xd:Int) (xk xg xs xt:Bool) (ib io:Nat) (a b:Int) (va:Option Addr) (vn vc:Nat) (l:List Int) (w:World) (e2:w.cell? ⟨ib,io+2,none⟩=some (.int .i64 a)) (e3:w.cell? ⟨ib,io+3,none⟩=some (.int .i64 b)) (e6:w.cell? ⟨ib,io+6,none⟩=some (.slice va vn vc)) (hil:IL w (.slice va vn vc) l) :
  Calls prog 103 #[.agg #[.string nm,.int .i64 xsb,.int .i64 xa,.int .i64 xb,.int .i64 xd,.bool xk,.bool xg,.bool xs,.bool xt],.pointer (some ⟨ib,io,none⟩)] w (retP (.bool (lackB xa a||lackB xb b||(xg&&l.contains (-1)))) w):=by
 obtain⟨cc,hcc⟩:∃ c,l.contains (-1)=c:=⟨_,rfl⟩;rw[hcc];have HCT:Hid (∀ W,Below w.heap.size w W→Calls prog 100 #[.slice va vn vc,.int .i64 (-1)] W fun e w'=>e=.returned (.bool cc)∧w'=W):=fun W hW=>hcc▸gcontains_any (hil.keep hW) _;clear hcc;have HLA:Hid (∀ W,Calls prog 124 #[.int .i64 xa,.int .i64 a] W fun e w'=>e=.returned (.bool (lackB xa a))∧w'=W):=fun W=>lacks_any _ _ _;have HLB:Hid (∀ W,Calls prog 124 #[.int .i64 xb,.int .i64 b] W fun e w'=>e=.returned (.bool (lackB xb b))∧w'=W):=fun W=>lacks_any _ _ _;have d2:=keep_alloc e2 (.cells #[.string nm,.int .i64 xsb,.int .i64 xa,.int .i64 xb,.int .i64 xd,.bool xk,.bool xg,.bool xs,.bool xt] 128 (0,0));have d3:=keep_alloc e3 (.cells #[.string nm,.int .i64 xsb,.int .i64 xa,.int .i64 xb,.int .i64 xd,.bool xk,.bool xg,.bool xs,.bool xt] 128 (0,0));have d6:=keep_alloc e6 (.cells #[.string nm,.int .i64 xsb,.int .i64 xa,.int .i64 xb,.int .i64 xd,.bool xk,.bool xg,.bool xs,.bool xt] 128 (0,0));clear hil e2 e3 e6
 cases h7:lackB xa a with
 |true =>
  rw[h7] at HLA
  go_enter func103,ntmps103
  go_wp2_with fail
  refine wp_region_held_drew (S:=(fun w'=>w'.cell? ⟨w.heap.size,2,none⟩=some (.int .i64 xa)∧w'.cell? ⟨w.heap.size,3,none⟩=some (.int .i64 xb)∧w'.cell? ⟨w.heap.size,6,none⟩=some (.bool xg)∧w'.cell? ⟨ib,io+2,none⟩=some (.int .i64 a)∧w'.cell? ⟨ib,io+3,none⟩=some (.int .i64 b)∧w'.cell? ⟨ib,io+6,none⟩=some (.slice va vn vc)∧Below w.heap.size w w')) (by kernel_rfl) (⟨by simp,by simp,by simp,d2,d3,d6,Below.drew (bel_alloc (Below.refl _ _) _)⟩) (fun hH=>?_);refine wpAnyH_take (i:=0) (oi:=?oa0) (v:=?va0) ?ia0 (by kernel_rfl) (by kernel_rfl) (by kernel_rfl) ?qa0 ?ya0 hH ?_
  case ia0=>simp only[zga,zgs,zgz];rfl
  case qa0=>exact fun _ _ _ h=>h
  case ya0=>refine .inl ⟨by rfl,?_⟩;intro w' hSw;(try dsimp only at hSw);go_simp;try with_reducible rfl
  simp only[Act.put,zsa,zsz,zss];refine wpAnyH_take (i:=1) (oi:=?oa1) (v:=?va1) ?ia1 (by kernel_rfl) (by kernel_rfl) (by kernel_rfl) ?qa1 ?ya1 hH ?_
  case ia1=>simp only[zga,zgs,zgz];rfl
  case qa1=>exact fun _ _ _ h=>h
  case ya1=>refine .inl ⟨by rfl,?_⟩;intro w' hSw;(try dsimp only at hSw);go_simp;try with_reducible rfl
  simp only[Act.put,zsa,zsz,zss];refine wpAnyH_take (i:=2) (oi:=?oa2) (v:=?va2) ?ia2 (by kernel_rfl) (by kernel_rfl) (by kernel_rfl) ?qa2 ?ya2 hH ?_
  case ia2=>simp only[zga,zgs,zgz];rfl
  case qa2=>exact fun _ _ _ h=>h
  case ya2=>refine .inl ⟨by rfl,?_⟩;intro w' hSw;(try dsimp only at hSw);go_simp;try with_reducible rfl
  simp only[Act.put,zsa,zsz,zss];refine wpAnyH_take (i:=3) (oi:=?oa3) (v:=?va3) ?ia3 (by kernel_rfl) (by kernel_rfl) (by kernel_rfl) ?qa3 ?ya3 hH ?_
  case ia3=>simp only[zga,zgs,zgz];rfl
  case qa3=>exact fun _ _ _ h=>h
  case ya3=>refine .inl ⟨by rfl,?_⟩;intro w' hSw;(try dsimp only at hSw);go_simp;try with_reducible rfl
  simp only[Act.put,zsa,zsz,zss];refine wpAnyH_take (i:=4) (oi:=?oa4) (v:=?va4) ?ia4 (by kernel_rfl) (by kernel_rfl) (by kernel_rfl) ?qa4 ?ya4 hH ?_
  case ia4=>simp only[zga,zgs,zgz];rfl
  case qa4=>exact fun _ _ _ h=>h
  case ya4=>refine .inl ⟨by rfl,?_⟩;intro w' hSw;(try dsimp only at hSw);go_simp;try with_reducible rfl
  simp only[Act.put,zsa,zsz,zss];refine wpAnyH_take (i:=5) (oi:=?oa5) (v:=?va5) ?ia5 (by kernel_rfl) (by kernel_rfl) (by kernel_rfl) ?qa5 ?ya5 hH ?_
  case ia5=>simp only[zga,zgs,zgz];rfl
  case qa5=>exact fun _ _ _ h=>h
  case ya5=>refine .inl ⟨by rfl,?_⟩;intro w' hSw;(try dsimp only at hSw);go_simp;try with_reducible rfl
  simp only[Act.put,zsa,zsz,zss];refine wpAnyH_ready (rs:=[6]) (by kernel_rfl) (by simp) ?_;refine AllReadyH.cons (o:=?oa6) ?ia6 (fun K hK=>?_) AllReadyH.nil
  case ia6=>simp only[zga,zgs,zgz];rfl
  go_simp;refine(HLA.out _).mono ?_;rintro e v6 ⟨rfl,rfl⟩;go_wp2_with fail
  refine hK.out _ _ (hH) (fun hN=>?_);clear hK K hH;have hH:=hN;clear hN
  try simp only[Act.put,zsa,zsz,zss]
  refine wpAnyH_take (i:=7) (oi:=?oa7) (v:=?va7) ?ia7 (by kernel_rfl) (by kernel_rfl) (by kernel_rfl) ?qa7 ?ya7 hH ?_
  case ia7=>simp only[zga,zgs,zgz];rfl
  case qa7=>exact fun _ _ _ h=>h
  case ya7=>refine .inl ⟨by rfl,?_⟩;intro w' hSw;(try dsimp only at hSw);go_simp;try with_reducible rfl
  simp only[Act.put,zsa,zsz,zss];refine wpAnyH_take (i:=8) (oi:=?oa8) (v:=undef) ?ia8 (by kernel_rfl) (by kernel_rfl) (by kernel_rfl) ?qa8 ?ya8 hH ?_
  case ia8=>simp only[zga,zgs,zgz];rfl
  case qa8=>exact fun _ _ _ h=>h
  case ya8=>exact Or.inr ⟨by rfl,rfl⟩
  simp only[Act.put,zsa,zsz,zss];refine wpAnyH_take (i:=9) (oi:=?oa9) (v:=undef) ?ia9 (by kernel_rfl) (by kernel_rfl) (by kernel_rfl) ?qa9 ?ya9 hH ?_
  case ia9=>simp only[zga,zgs,zgz];rfl
  case qa9=>exact fun _ _ _ h=>h
  case ya9=>exact Or.inr ⟨by rfl,rfl⟩
  simp only[Act.put,zsa,zsz,zss];refine wpAnyH_take (i:=10) (oi:=?oa10) (v:=undef) ?ia10 (by kernel_rfl) (by kernel_rfl) (by kernel_rfl) ?qa10 ?ya10 hH ?_
  case ia10=>simp only[zga,zgs,zgz];rfl
  case qa10=>exact fun _ _ _ h=>h
  case ya10=>exact Or.inr ⟨by rfl,rfl⟩
  simp only[Act.put,zsa,zsz,zss];refine wpAnyH_take (i:=11) (oi:=?oa11) (v:=undef) ?ia11 (by kernel_rfl) (by kernel_rfl) (by kernel_rfl) ?qa11 ?ya11 hH ?_
  case ia11=>simp only[zga,zgs,zgz];rfl
  case qa11=>exact fun _ _ _ h=>h
  case ya11=>exact Or.inr ⟨by rfl,rfl⟩
  simp only[Act.put,zsa,zsz,zss];refine wpAnyH_take (i:=12) (oi:=?oa12) (v:=undef) ?ia12 (by kernel_rfl) (by kernel_rfl) (by kernel_rfl) ?qa12 ?ya12 hH ?_
  case ia12=>simp only[zga,zgs,zgz];rfl
  case qa12=>exact fun _ _ _ h=>h
  case ya12=>exact Or.inr ⟨by rfl,rfl⟩
  simp only[Act.put,zsa,zsz,zss];refine wpAnyH_take (i:=13) (oi:=?oa13) (v:=undef) ?ia13 (by kernel_rfl) (by kernel_rfl) (by kernel_rfl) ?qa13 ?ya13 hH ?_
  case ia13=>simp only[zga,zgs,zgz];rfl
  case qa13=>exact fun _ _ _ h=>h
  case ya13=>exact Or.inr ⟨by rfl,rfl⟩
  simp only[Act.put,zsa,zsz,zss];refine wpAnyH_ready (rs:=[14]) (by kernel_rfl) (by simp) ?_;refine AllReadyH.cons (o:=?oa14) ?ia14 (fun K hK=>?_) AllReadyH.nil
  case ia14=>simp only[zga,zgs,zgz];rfl
  go_simp;refine hK.out _ _ hH (fun hN=>?_);clear hK K hH;have hH:=hN;clear hN
  try simp only[Act.put,zsa,zsz,zss]
  refine wpAnyH_take (i:=15) (oi:=?oa15) (v:=?va15) ?ia15 (by kernel_rfl) (by kernel_rfl) (by kernel_rfl) ?qa15 ?ya15 hH ?_
  case ia15=>simp only[zga,zgs,zgz];rfl
  case qa15=>exact fun _ _ _ h=>h
  case ya15=>refine .inl ⟨by rfl,?_⟩;intro w' hSw;(try dsimp only at hSw);go_simp;try with_reducible rfl
  simp only[Act.put,zsa,zsz,zss];refine wpAnyH_take (i:=16) (oi:=?oa16) (v:=?va16) ?ia16 (by kernel_rfl) (by kernel_rfl) (by kernel_rfl) ?qa16 ?ya16 hH ?_
  case ia16=>simp only[zga,zgs,zgz];rfl
  case qa16=>exact fun _ _ _ h=>h
  case ya16=>refine .inl ⟨by rfl,?_⟩;intro w' hSw;(try dsimp only at hSw);go_simp;try with_reducible rfl
  simp only[Act.put,zsa,zsz,zss];refine wpAnyH_take (i:=17) (oi:=?oa17) (v:=undef) ?ia17 (by kernel_rfl) (by kernel_rfl) (by kernel_rfl) ?qa17 ?ya17 hH ?_
  case ia17=>simp only[zga,zgs,zgz];rfl
  case qa17=>exact fun _ _ _ h=>h
  case ya17=>exact Or.inr ⟨by rfl,rfl⟩
  simp only[Act.put,zsa,zsz,zss];refine wpAnyH_take (i:=18) (oi:=?oa18) (v:=undef) ?ia18 (by kernel_rfl) (by kernel_rfl) (by kernel_rfl) ?qa18 ?ya18 hH ?_
  case ia18=>simp only[zga,zgs,zgz];rfl
  case qa18=>exact fun _ _ _ h=>h
  case ya18=>exact Or.inr ⟨by rfl,rfl⟩
  simp only[Act.put,zsa,zsz,zss];refine wpAnyH_take (i:=19) (oi:=?oa19) (v:=undef) ?ia19 (by kernel_rfl) (by kernel_rfl) (by kernel_rfl) ?qa19 ?ya19 hH ?_
  case ia19=>simp only[zga,zgs,zgz];rfl
  case qa19=>exact fun _ _ _ h=>h
  case ya19=>exact Or.inr ⟨by rfl,rfl⟩
  simp only[Act.put,zsa,zsz,zss];refine wpAnyH_take (i:=20) (oi:=?oa20) (v:=undef) ?ia20 (by kernel_rfl) (by kernel_rfl) (by kernel_rfl) ?qa20 ?ya20 hH ?_
  case ia20=>simp only[zga,zgs,zgz];rfl
  case qa20=>exact fun _ _ _ h=>h
  case ya20=>exact Or.inr ⟨by rfl,rfl⟩
  simp only[Act.put,zsa,zsz,zss];refine wpAnyH_take (i:=21) (oi:=?oa21) (v:=undef) ?ia21 (by kernel_rfl) (by kernel_rfl) (by kernel_rfl) ?qa21 ?ya21 hH ?_
  case ia21=>simp only[zga,zgs,zgz];rfl
  case qa21=>exact fun _ _ _ h=>h
  case ya21=>exact Or.inr ⟨by rfl,rfl⟩
  simp only[Act.put,zsa,zsz,zss];refine wpAnyH_take (i:=22) (oi:=?oa22) (v:=undef) ?ia22 (by kernel_rfl) (by kernel_rfl) (by kernel_rfl) ?qa22 ?ya22 hH ?_
  case ia22=>simp only[zga,zgs,zgz];rfl
  case qa22=>exact fun _ _ _ h=>h
  case ya22=>exact Or.inr ⟨by rfl,rfl⟩
  simp only[Act.put,zsa,zsz,zss];refine wpAnyH_take (i:=23) (oi:=?oa23) (v:=undef) ?ia23 (by kernel_rfl) (by kernel_rfl) (by kernel_rfl) ?qa23 ?ya23 hH ?_
  case ia23=>simp only[zga,zgs,zgz];rfl
  case qa23=>exact fun _ _ _ h=>h
  case ya23=>exact Or.inr ⟨by rfl,rfl⟩
  simp only[Act.put,zsa,zsz,zss];refine wpAnyH_ready (rs:=[24]) (by kernel_rfl) (by simp) ?_;refine AllReadyH.cons (o:=?oa24) ?ia24 (fun K hK=>?_) AllReadyH.nil
  case ia24=>simp only[zga,zgs,zgz];rfl
  go_simp;refine hK.out _ _ hH (fun hN=>?_);clear hK K hH;have hH:=hN;clear hN
  try simp only[Act.put,zsa,zsz,zss]
  refine wpAnyH_take (i:=25) (oi:=?oa25) (v:=undef) ?ia25 (by kernel_rfl) (by kernel_rfl) (by kernel_rfl) ?qa25 ?ya25 hH ?_
  case ia25=>simp only[zga,zgs,zgz];rfl
  case qa25=>exact fun _ _ _ h=>h
  case ya25=>exact Or.inr ⟨by rfl,rfl⟩
  simp only[Act.put,zsa,zsz,zss];refine wpAnyH_take (i:=26) (oi:=?oa26) (v:=?va26) ?ia26 (by kernel_rfl) (by kernel_rfl) (by kernel_rfl) ?qa26 ?ya26 hH ?_
  case ia26=>simp only[zga,zgs,zgz];rfl
  case qa26=>exact fun _ _ _ h=>h
  case ya26=>refine .inl ⟨by rfl,?_⟩;intro w' hSw;(try dsimp only at hSw);go_simp;try with_reducible rfl
  simp only[Act.put,zsa,zsz,zss];refine wpAnyH_take (i:=27) (oi:=?oa27) (v:=?va27) ?ia27 (by kernel_rfl) (by kernel_rfl) (by kernel_rfl) ?qa27 ?ya27 hH ?_
  case ia27=>simp only[zga,zgs,zgz];rfl
  case qa27=>exact fun _ _ _ h=>h
  case ya27=>refine .inl ⟨by rfl,?_⟩;intro w' hSw;(try dsimp only at hSw);go_simp;try with_reducible rfl
  simp only[Act.put,zsa,zsz,zss];refine wpAnyH_done (by kernel_rfl) ?_ _;have hfin:=hH.2.2.2.2.2.2;go_wp2;go_ret;exact⟨by rfl,hfin⟩
 |false =>
  rw[h7] at HLA
  cases h16:lackB xb b with
  |true =>
   rw[h16] at HLB
   go_enter func103,ntmps103
   go_wp2_with fail
   refine wp_region_held_drew (S:=(fun w'=>w'.cell? ⟨w.heap.size,2,none⟩=some (.int .i64 xa)∧w'.cell? ⟨w.heap.size,3,none⟩=some (.int .i64 xb)∧w'.cell? ⟨w.heap.size,6,none⟩=some (.bool xg)∧w'.cell? ⟨ib,io+2,none⟩=some (.int .i64 a)∧w'.cell? ⟨ib,io+3,none⟩=some (.int .i64 b)∧w'.cell? ⟨ib,io+6,none⟩=some (.slice va vn vc)∧Below w.heap.size w w')) (by kernel_rfl) (⟨by simp,by simp,by simp,d2,d3,d6,Below.drew (bel_alloc (Below.refl _ _) _)⟩) (fun hH=>?_);refine wpAnyH_take (i:=0) (oi:=?oib0) (v:=?vvb0) ?hib0 (by kernel_rfl) (by kernel_rfl) (by kernel_rfl) ?hqb0 ?hyb0 hH ?_
   case hib0=>simp only[zga,zgs,zgz];rfl
   case hqb0=>exact fun _ _ _ h=>h
   case hyb0=>refine .inl ⟨by rfl,?_⟩;intro w' hSw;(try dsimp only at hSw);go_simp;try with_reducible rfl
   simp only[Act.put,zsa,zsz,zss];refine wpAnyH_take (i:=1) (oi:=?oib1) (v:=?vvb1) ?hib1 (by kernel_rfl) (by kernel_rfl) (by kernel_rfl) ?hqb1 ?hyb1 hH ?_
   case hib1=>simp only[zga,zgs,zgz];rfl
   case hqb1=>exact fun _ _ _ h=>h
   case hyb1=>refine .inl ⟨by rfl,?_⟩;intro w' hSw;(try dsimp only at hSw);go_simp;try with_reducible rfl
   simp only[Act.put,zsa,zsz,zss];refine wpAnyH_take (i:=2) (oi:=?oib2) (v:=?vvb2) ?hib2 (by kernel_rfl) (by kernel_rfl) (by kernel_rfl) ?hqb2 ?hyb2 hH ?_
   case hib2=>simp only[zga,zgs,zgz];rfl
   case hqb2=>exact fun _ _ _ h=>h
   case hyb2=>refine .inl ⟨by rfl,?_⟩;intro w' hSw;(try dsimp only at hSw);go_simp;try with_reducible rfl
   simp only[Act.put,zsa,zsz,zss];refine wpAnyH_take (i:=3) (oi:=?oib3) (v:=?vvb3) ?hib3 (by kernel_rfl) (by kernel_rfl) (by kernel_rfl) ?hqb3 ?hyb3 hH ?_
   case hib3=>simp only[zga,zgs,zgz];rfl
   case hqb3=>exact fun _ _ _ h=>h
   case hyb3=>refine .inl ⟨by rfl,?_⟩;intro w' hSw;(try dsimp only at hSw);go_simp;try with_reducible rfl
   simp only[Act.put,zsa,zsz,zss];refine wpAnyH_take (i:=4) (oi:=?oib4) (v:=?vvb4) ?hib4 (by kernel_rfl) (by kernel_rfl) (by kernel_rfl) ?hqb4 ?hyb4 hH ?_
   case hib4=>simp only[zga,zgs,zgz];rfl
   case hqb4=>exact fun _ _ _ h=>h
   case hyb4=>refine .inl ⟨by rfl,?_⟩;intro w' hSw;(try dsimp only at hSw);go_simp;try with_reducible rfl
   simp only[Act.put,zsa,zsz,zss];refine wpAnyH_take (i:=5) (oi:=?oib5) (v:=?vvb5) ?hib5 (by kernel_rfl) (by kernel_rfl) (by kernel_rfl) ?hqb5 ?hyb5 hH ?_
   case hib5=>simp only[zga,zgs,zgz];rfl
   case hqb5=>exact fun _ _ _ h=>h
   case hyb5=>refine .inl ⟨by rfl,?_⟩;intro w' hSw;(try dsimp only at hSw);go_simp;try with_reducible rfl
   simp only[Act.put,zsa,zsz,zss];refine wpAnyH_ready (rs:=[6]) (by kernel_rfl) (by simp) ?_;refine AllReadyH.cons (o:=?oib6) ?hib6 (fun K hK=>?_) AllReadyH.nil
   case hib6=>simp only[zga,zgs,zgz];rfl
   go_simp;refine(HLA.out _).mono ?_;rintro e v6 ⟨rfl,rfl⟩;go_wp2_with fail
   refine hK.out _ _ (hH) (fun hN=>?_);clear hK K hH;have hH:=hN;clear hN
   try simp only[Act.put,zsa,zsz,zss]
   refine wpAnyH_take (i:=7) (oi:=?oib7) (v:=?vvb7) ?hib7 (by kernel_rfl) (by kernel_rfl) (by kernel_rfl) ?hqb7 ?hyb7 hH ?_
   case hib7=>simp only[zga,zgs,zgz];rfl
   case hqb7=>exact fun _ _ _ h=>h
   case hyb7=>refine .inl ⟨by rfl,?_⟩;intro w' hSw;(try dsimp only at hSw);go_simp;try with_reducible rfl
   simp only[Act.put,zsa,zsz,zss];refine wpAnyH_take (i:=8) (oi:=?oib8) (v:=?vvb8) ?hib8 (by kernel_rfl) (by kernel_rfl) (by kernel_rfl) ?hqb8 ?hyb8 hH ?_
   case hib8=>simp only[zga,zgs,zgz];rfl
   case hqb8=>exact fun _ _ _ h=>h
   case hyb8=>refine .inl ⟨by rfl,?_⟩;intro w' hSw;(try dsimp only at hSw);go_simp;try with_reducible rfl
   simp only[Act.put,zsa,zsz,zss];refine wpAnyH_take (i:=9) (oi:=?oib9) (v:=?vvb9) ?hib9 (by kernel_rfl) (by kernel_rfl) (by kernel_rfl) ?hqb9 ?hyb9 hH ?_
   case hib9=>simp only[zga,zgs,zgz];rfl
   case hqb9=>exact fun _ _ _ h=>h
   case hyb9=>refine .inl ⟨by rfl,?_⟩;intro w' hSw;(try dsimp only at hSw);go_simp;try with_reducible rfl
   simp only[Act.put,zsa,zsz,zss];refine wpAnyH_take (i:=10) (oi:=?oib10) (v:=?vvb10) ?hib10 (by kernel_rfl) (by kernel_rfl) (by kernel_rfl) ?hqb10 ?hyb10 hH ?_
   case hib10=>simp only[zga,zgs,zgz];rfl
   case hqb10=>exact fun _ _ _ h=>h
   case hyb10=>refine .inl ⟨by rfl,?_⟩;intro w' hSw;(try dsimp only at hSw);go_simp;try with_reducible rfl
   simp only[Act.put,zsa,zsz,zss];refine wpAnyH_take (i:=11) (oi:=?oib11) (v:=?vvb11) ?hib11 (by kernel_rfl) (by kernel_rfl) (by kernel_rfl) ?hqb11 ?hyb11 hH ?_
   case hib11=>simp only[zga,zgs,zgz];rfl
   case hqb11=>exact fun _ _ _ h=>h
   case hyb11=>refine .inl ⟨by rfl,?_⟩;intro w' hSw;(try dsimp only at hSw);go_simp;try with_reducible rfl
   simp only[Act.put,zsa,zsz,zss];refine wpAnyH_take (i:=12) (oi:=?oib12) (v:=?vvb12) ?hib12 (by kernel_rfl) (by kernel_rfl) (by kernel_rfl) ?hqb12 ?hyb12 hH ?_
   case hib12=>simp only[zga,zgs,zgz];rfl
   case hqb12=>exact fun _ _ _ h=>h
   case hyb12=>refine .inl ⟨by rfl,?_⟩;intro w' hSw;(try dsimp only at hSw);go_simp;try with_reducible rfl
   simp only[Act.put,zsa,zsz,zss];refine wpAnyH_take (i:=13) (oi:=?oib13) (v:=?vvb13) ?hib13 (by kernel_rfl) (by kernel_rfl) (by kernel_rfl) ?hqb13 ?hyb13 hH ?_
   case hib13=>simp only[zga,zgs,zgz];rfl
   case hqb13=>exact fun _ _ _ h=>h
   case hyb13=>refine .inl ⟨by rfl,?_⟩;intro w' hSw;(try dsimp only at hSw);go_simp;try with_reducible rfl
   simp only[Act.put,zsa,zsz,zss];refine wpAnyH_ready (rs:=[14]) (by kernel_rfl) (by simp) ?_;refine AllReadyH.cons (o:=?oib14) ?hib14 (fun K hK=>?_) AllReadyH.nil
   case hib14=>simp only[zga,zgs,zgz];rfl
   go_simp;refine(HLB.out _).mono ?_;rintro e v14 ⟨rfl,rfl⟩;go_wp2_with fail
   refine hK.out _ _ (hH) (fun hN=>?_);clear hK K hH;have hH:=hN;clear hN
   try simp only[Act.put,zsa,zsz,zss]
   refine wpAnyH_take (i:=15) (oi:=?oib15) (v:=?vvb15) ?hib15 (by kernel_rfl) (by kernel_rfl) (by kernel_rfl) ?hqb15 ?hyb15 hH ?_
   case hib15=>simp only[zga,zgs,zgz];rfl
   case hqb15=>exact fun _ _ _ h=>h
   case hyb15=>refine .inl ⟨by rfl,?_⟩;intro w' hSw;(try dsimp only at hSw);go_simp;try with_reducible rfl
   simp only[Act.put,zsa,zsz,zss];refine wpAnyH_take (i:=16) (oi:=?oib16) (v:=?vvb16) ?hib16 (by kernel_rfl) (by kernel_rfl) (by kernel_rfl) ?hqb16 ?hyb16 hH ?_
   case hib16=>simp only[zga,zgs,zgz];rfl
   case hqb16=>exact fun _ _ _ h=>h
   case hyb16=>refine .inl ⟨by rfl,?_⟩;intro w' hSw;(try dsimp only at hSw);go_simp;try with_reducible rfl
   simp only[Act.put,zsa,zsz,zss];refine wpAnyH_take (i:=17) (oi:=?oib17) (v:=undef) ?hib17 (by kernel_rfl) (by kernel_rfl) (by kernel_rfl) ?hqb17 ?hyb17 hH ?_
   case hib17=>simp only[zga,zgs,zgz];rfl
   case hqb17=>exact fun _ _ _ h=>h
   case hyb17=>exact Or.inr ⟨by rfl,rfl⟩
   simp only[Act.put,zsa,zsz,zss];refine wpAnyH_take (i:=18) (oi:=?oib18) (v:=undef) ?hib18 (by kernel_rfl) (by kernel_rfl) (by kernel_rfl) ?hqb18 ?hyb18 hH ?_
   case hib18=>simp only[zga,zgs,zgz];rfl
   case hqb18=>exact fun _ _ _ h=>h
   case hyb18=>exact Or.inr ⟨by rfl,rfl⟩
   simp only[Act.put,zsa,zsz,zss];refine wpAnyH_take (i:=19) (oi:=?oib19) (v:=undef) ?hib19 (by kernel_rfl) (by kernel_rfl) (by kernel_rfl) ?hqb19 ?hyb19 hH ?_
   case hib19=>simp only[zga,zgs,zgz];rfl
   case hqb19=>exact fun _ _ _ h=>h
   case hyb19=>exact Or.inr ⟨by rfl,rfl⟩
   simp only[Act.put,zsa,zsz,zss];refine wpAnyH_take (i:=20) (oi:=?oib20) (v:=undef) ?hib20 (by kernel_rfl) (by kernel_rfl) (by kernel_rfl) ?hqb20 ?hyb20 hH ?_
   case hib20=>simp only[zga,zgs,zgz];rfl
   case hqb20=>exact fun _ _ _ h=>h
   case hyb20=>exact Or.inr ⟨by rfl,rfl⟩
   simp only[Act.put,zsa,zsz,zss];refine wpAnyH_take (i:=21) (oi:=?oib21) (v:=undef) ?hib21 (by kernel_rfl) (by kernel_rfl) (by kernel_rfl) ?hqb21 ?hyb21 hH ?_
   case hib21=>simp only[zga,zgs,zgz];rfl
   case hqb21=>exact fun _ _ _ h=>h
   case hyb21=>exact Or.inr ⟨by rfl,rfl⟩
   simp only[Act.put,zsa,zsz,zss];refine wpAnyH_take (i:=22) (oi:=?oib22) (v:=undef) ?hib22 (by kernel_rfl) (by kernel_rfl) (by kernel_rfl) ?hqb22 ?hyb22 hH ?_
   case hib22=>simp only[zga,zgs,zgz];rfl
   case hqb22=>exact fun _ _ _ h=>h
   case hyb22=>exact Or.inr ⟨by rfl,rfl⟩
   simp only[Act.put,zsa,zsz,zss];refine wpAnyH_take (i:=23) (oi:=?oib23) (v:=undef) ?hib23 (by kernel_rfl) (by kernel_rfl) (by kernel_rfl) ?hqb23 ?hyb23 hH ?_
   case hib23=>simp only[zga,zgs,zgz];rfl
   case hqb23=>exact fun _ _ _ h=>h
   case hyb23=>exact Or.inr ⟨by rfl,rfl⟩
   simp only[Act.put,zsa,zsz,zss];refine wpAnyH_ready (rs:=[24]) (by kernel_rfl) (by simp) ?_;refine AllReadyH.cons (o:=?oib24) ?hib24 (fun K hK=>?_) AllReadyH.nil
   case hib24=>simp only[zga,zgs,zgz];rfl
   go_simp;refine hK.out _ _ hH (fun hN=>?_);clear hK K hH;have hH:=hN;clear hN
   try simp only[Act.put,zsa,zsz,zss]
   refine wpAnyH_take (i:=25) (oi:=?oib25) (v:=undef) ?hib25 (by kernel_rfl) (by kernel_rfl) (by kernel_rfl) ?hqb25 ?hyb25 hH ?_
   case hib25=>simp only[zga,zgs,zgz];rfl
   case hqb25=>exact fun _ _ _ h=>h
   case hyb25=>exact Or.inr ⟨by rfl,rfl⟩
   simp only[Act.put,zsa,zsz,zss];refine wpAnyH_take (i:=26) (oi:=?oib26) (v:=?vvb26) ?hib26 (by kernel_rfl) (by kernel_rfl) (by kernel_rfl) ?hqb26 ?hyb26 hH ?_
   case hib26=>simp only[zga,zgs,zgz];rfl
   case hqb26=>exact fun _ _ _ h=>h
   case hyb26=>refine .inl ⟨by rfl,?_⟩;intro w' hSw;(try dsimp only at hSw);go_simp;try with_reducible rfl
   simp only[Act.put,zsa,zsz,zss];refine wpAnyH_take (i:=27) (oi:=?oib27) (v:=?vvb27) ?hib27 (by kernel_rfl) (by kernel_rfl) (by kernel_rfl) ?hqb27 ?hyb27 hH ?_
   case hib27=>simp only[zga,zgs,zgz];rfl
   case hqb27=>exact fun _ _ _ h=>h
   case hyb27=>refine .inl ⟨by rfl,?_⟩;intro w' hSw;(try dsimp only at hSw);go_simp;try with_reducible rfl
   simp only[Act.put,zsa,zsz,zss];refine wpAnyH_done (by kernel_rfl) ?_ _;have hfin:=hH.2.2.2.2.2.2;go_wp2;go_ret;exact⟨by rfl,hfin⟩
  |false =>
   rw[h16] at HLB
   cases xg with
   |true =>
    go_enter func103,ntmps103
    go_wp2_with fail
    refine wp_region_held_drew (S:=(fun w'=>w'.cell? ⟨w.heap.size,2,none⟩=some (.int .i64 xa)∧w'.cell? ⟨w.heap.size,3,none⟩=some (.int .i64 xb)∧w'.cell? ⟨w.heap.size,6,none⟩=some (.bool true)∧w'.cell? ⟨ib,io+2,none⟩=some (.int .i64 a)∧w'.cell? ⟨ib,io+3,none⟩=some (.int .i64 b)∧w'.cell? ⟨ib,io+6,none⟩=some (.slice va vn vc)∧Below w.heap.size w w')) (by kernel_rfl) (⟨by simp,by simp,by simp,d2,d3,d6,Below.drew (bel_alloc (Below.refl _ _) _)⟩) (fun hH=>?_);refine wpAnyH_take (i:=0) (oi:=?oic0) (v:=?vvc0) ?hic0 (by kernel_rfl) (by kernel_rfl) (by kernel_rfl) ?hqc0 ?hyc0 hH ?_
    case hic0=>simp only[zga,zgs,zgz];rfl
    case hqc0=>exact fun _ _ _ h=>h
    case hyc0=>refine .inl ⟨by rfl,?_⟩;intro w' hSw;(try dsimp only at hSw);go_simp;try with_reducible rfl
    simp only[Act.put,zsa,zsz,zss];refine wpAnyH_take (i:=1) (oi:=?oic1) (v:=?vvc1) ?hic1 (by kernel_rfl) (by kernel_rfl) (by kernel_rfl) ?hqc1 ?hyc1 hH ?_
    case hic1=>simp only[zga,zgs,zgz];rfl
    case hqc1=>exact fun _ _ _ h=>h
    case hyc1=>refine .inl ⟨by rfl,?_⟩;intro w' hSw;(try dsimp only at hSw);go_simp;try with_reducible rfl
    simp only[Act.put,zsa,zsz,zss];refine wpAnyH_take (i:=2) (oi:=?oic2) (v:=?vvc2) ?hic2 (by kernel_rfl) (by kernel_rfl) (by kernel_rfl) ?hqc2 ?hyc2 hH ?_
    case hic2=>simp only[zga,zgs,zgz];rfl
    case hqc2=>exact fun _ _ _ h=>h
    case hyc2=>refine .inl ⟨by rfl,?_⟩;intro w' hSw;(try dsimp only at hSw);go_simp;try with_reducible rfl
    simp only[Act.put,zsa,zsz,zss];refine wpAnyH_take (i:=3) (oi:=?oic3) (v:=?vvc3) ?hic3 (by kernel_rfl) (by kernel_rfl) (by kernel_rfl) ?hqc3 ?hyc3 hH ?_
    case hic3=>simp only[zga,zgs,zgz];rfl
    case hqc3=>exact fun _ _ _ h=>h
    case hyc3=>refine .inl ⟨by rfl,?_⟩;intro w' hSw;(try dsimp only at hSw);go_simp;try with_reducible rfl
    simp only[Act.put,zsa,zsz,zss];refine wpAnyH_take (i:=4) (oi:=?oic4) (v:=?vvc4) ?hic4 (by kernel_rfl) (by kernel_rfl) (by kernel_rfl) ?hqc4 ?hyc4 hH ?_
    case hic4=>simp only[zga,zgs,zgz];rfl
    case hqc4=>exact fun _ _ _ h=>h
    case hyc4=>refine .inl ⟨by rfl,?_⟩;intro w' hSw;(try dsimp only at hSw);go_simp;try with_reducible rfl
    simp only[Act.put,zsa,zsz,zss];refine wpAnyH_take (i:=5) (oi:=?oic5) (v:=?vvc5) ?hic5 (by kernel_rfl) (by kernel_rfl) (by kernel_rfl) ?hqc5 ?hyc5 hH ?_
    case hic5=>simp only[zga,zgs,zgz];rfl
    case hqc5=>exact fun _ _ _ h=>h
    case hyc5=>refine .inl ⟨by rfl,?_⟩;intro w' hSw;(try dsimp only at hSw);go_simp;try with_reducible rfl
    simp only[Act.put,zsa,zsz,zss];refine wpAnyH_ready (rs:=[6]) (by kernel_rfl) (by simp) ?_;refine AllReadyH.cons (o:=?oic6) ?hic6 (fun K hK=>?_) AllReadyH.nil
    case hic6=>simp only[zga,zgs,zgz];rfl
    go_simp;refine(HLA.out _).mono ?_;rintro e v6 ⟨rfl,rfl⟩;go_wp2_with fail
    refine hK.out _ _ (hH) (fun hN=>?_);clear hK K hH;have hH:=hN;clear hN
    try simp only[Act.put,zsa,zsz,zss]
    refine wpAnyH_take (i:=7) (oi:=?oic7) (v:=?vvc7) ?hic7 (by kernel_rfl) (by kernel_rfl) (by kernel_rfl) ?hqc7 ?hyc7 hH ?_
    case hic7=>simp only[zga,zgs,zgz];rfl
    case hqc7=>exact fun _ _ _ h=>h
    case hyc7=>refine .inl ⟨by rfl,?_⟩;intro w' hSw;(try dsimp only at hSw);go_simp;try with_reducible rfl
    simp only[Act.put,zsa,zsz,zss];refine wpAnyH_take (i:=8) (oi:=?oic8) (v:=?vvc8) ?hic8 (by kernel_rfl) (by kernel_rfl) (by kernel_rfl) ?hqc8 ?hyc8 hH ?_
    case hic8=>simp only[zga,zgs,zgz];rfl
    case hqc8=>exact fun _ _ _ h=>h
    case hyc8=>refine .inl ⟨by rfl,?_⟩;intro w' hSw;(try dsimp only at hSw);go_simp;try with_reducible rfl
    simp only[Act.put,zsa,zsz,zss];refine wpAnyH_take (i:=9) (oi:=?oic9) (v:=?vvc9) ?hic9 (by kernel_rfl) (by kernel_rfl) (by kernel_rfl) ?hqc9 ?hyc9 hH ?_
    case hic9=>simp only[zga,zgs,zgz];rfl
    case hqc9=>exact fun _ _ _ h=>h
    case hyc9=>refine .inl ⟨by rfl,?_⟩;intro w' hSw;(try dsimp only at hSw);go_simp;try with_reducible rfl
    simp only[Act.put,zsa,zsz,zss];refine wpAnyH_take (i:=10) (oi:=?oic10) (v:=?vvc10) ?hic10 (by kernel_rfl) (by kernel_rfl) (by kernel_rfl) ?hqc10 ?hyc10 hH ?_
    case hic10=>simp only[zga,zgs,zgz];rfl
    case hqc10=>exact fun _ _ _ h=>h
    case hyc10=>refine .inl ⟨by rfl,?_⟩;intro w' hSw;(try dsimp only at hSw);go_simp;try with_reducible rfl
    simp only[Act.put,zsa,zsz,zss];refine wpAnyH_take (i:=11) (oi:=?oic11) (v:=?vvc11) ?hic11 (by kernel_rfl) (by kernel_rfl) (by kernel_rfl) ?hqc11 ?hyc11 hH ?_
    case hic11=>simp only[zga,zgs,zgz];rfl
    case hqc11=>exact fun _ _ _ h=>h
    case hyc11=>refine .inl ⟨by rfl,?_⟩;intro w' hSw;(try dsimp only at hSw);go_simp;try with_reducible rfl
    simp only[Act.put,zsa,zsz,zss];refine wpAnyH_take (i:=12) (oi:=?oic12) (v:=?vvc12) ?hic12 (by kernel_rfl) (by kernel_rfl) (by kernel_rfl) ?hqc12 ?hyc12 hH ?_
    case hic12=>simp only[zga,zgs,zgz];rfl
    case hqc12=>exact fun _ _ _ h=>h
    case hyc12=>refine .inl ⟨by rfl,?_⟩;intro w' hSw;(try dsimp only at hSw);go_simp;try with_reducible rfl
    simp only[Act.put,zsa,zsz,zss];refine wpAnyH_take (i:=13) (oi:=?oic13) (v:=?vvc13) ?hic13 (by kernel_rfl) (by kernel_rfl) (by kernel_rfl) ?hqc13 ?hyc13 hH ?_
    case hic13=>simp only[zga,zgs,zgz];rfl
    case hqc13=>exact fun _ _ _ h=>h
    case hyc13=>refine .inl ⟨by rfl,?_⟩;intro w' hSw;(try dsimp only at hSw);go_simp;try with_reducible rfl
    simp only[Act.put,zsa,zsz,zss];refine wpAnyH_ready (rs:=[14]) (by kernel_rfl) (by simp) ?_;refine AllReadyH.cons (o:=?oic14) ?hic14 (fun K hK=>?_) AllReadyH.nil
    case hic14=>simp only[zga,zgs,zgz];rfl
    go_simp;refine(HLB.out _).mono ?_;rintro e v14 ⟨rfl,rfl⟩;go_wp2_with fail
    refine hK.out _ _ (hH) (fun hN=>?_);clear hK K hH;have hH:=hN;clear hN
    try simp only[Act.put,zsa,zsz,zss]
    refine wpAnyH_take (i:=15) (oi:=?oic15) (v:=?vvc15) ?hic15 (by kernel_rfl) (by kernel_rfl) (by kernel_rfl) ?hqc15 ?hyc15 hH ?_
    case hic15=>simp only[zga,zgs,zgz];rfl
    case hqc15=>exact fun _ _ _ h=>h
    case hyc15=>refine .inl ⟨by rfl,?_⟩;intro w' hSw;(try dsimp only at hSw);go_simp;try with_reducible rfl
    simp only[Act.put,zsa,zsz,zss];refine wpAnyH_take (i:=16) (oi:=?oic16) (v:=?vvc16) ?hic16 (by kernel_rfl) (by kernel_rfl) (by kernel_rfl) ?hqc16 ?hyc16 hH ?_
    case hic16=>simp only[zga,zgs,zgz];rfl
    case hqc16=>exact fun _ _ _ h=>h
    case hyc16=>refine .inl ⟨by rfl,?_⟩;intro w' hSw;(try dsimp only at hSw);go_simp;try with_reducible rfl
    simp only[Act.put,zsa,zsz,zss];refine wpAnyH_take (i:=17) (oi:=?oic17) (v:=?vvc17) ?hic17 (by kernel_rfl) (by kernel_rfl) (by kernel_rfl) ?hqc17 ?hyc17 hH ?_
    case hic17=>simp only[zga,zgs,zgz];rfl
    case hqc17=>exact fun _ _ _ h=>h
    case hyc17=>refine .inl ⟨by rfl,?_⟩;intro w' hSw;(try dsimp only at hSw);go_simp;try with_reducible rfl
    simp only[Act.put,zsa,zsz,zss];refine wpAnyH_take (i:=18) (oi:=?oic18) (v:=?vvc18) ?hic18 (by kernel_rfl) (by kernel_rfl) (by kernel_rfl) ?hqc18 ?hyc18 hH ?_
    case hic18=>simp only[zga,zgs,zgz];rfl
    case hqc18=>exact fun _ _ _ h=>h
    case hyc18=>refine .inl ⟨by rfl,?_⟩;intro w' hSw;(try dsimp only at hSw);go_simp;try with_reducible rfl
    simp only[Act.put,zsa,zsz,zss];refine wpAnyH_take (i:=19) (oi:=?oic19) (v:=?vvc19) ?hic19 (by kernel_rfl) (by kernel_rfl) (by kernel_rfl) ?hqc19 ?hyc19 hH ?_
    case hic19=>simp only[zga,zgs,zgz];rfl
    case hqc19=>exact fun _ _ _ h=>h
    case hyc19=>refine .inl ⟨by rfl,?_⟩;intro w' hSw;(try dsimp only at hSw);go_simp;try with_reducible rfl
    simp only[Act.put,zsa,zsz,zss];refine wpAnyH_take (i:=20) (oi:=?oic20) (v:=?vvc20) ?hic20 (by kernel_rfl) (by kernel_rfl) (by kernel_rfl) ?hqc20 ?hyc20 hH ?_
    case hic20=>simp only[zga,zgs,zgz];rfl
    case hqc20=>exact fun _ _ _ h=>h
    case hyc20=>refine .inl ⟨by rfl,?_⟩;intro w' hSw;(try dsimp only at hSw);go_simp;try with_reducible rfl
    simp only[Act.put,zsa,zsz,zss];refine wpAnyH_take (i:=21) (oi:=?oic21) (v:=?vvc21) ?hic21 (by kernel_rfl) (by kernel_rfl) (by kernel_rfl) ?hqc21 ?hyc21 hH ?_
    case hic21=>simp only[zga,zgs,zgz];rfl
    case hqc21=>exact fun _ _ _ h=>h
    case hyc21=>refine .inl ⟨by rfl,?_⟩;intro w' hSw;(try dsimp only at hSw);go_simp;try with_reducible rfl
    simp only[Act.put,zsa,zsz,zss];refine wpAnyH_take (i:=22) (oi:=?oic22) (v:=?vvc22) ?hic22 (by kernel_rfl) (by kernel_rfl) (by kernel_rfl) ?hqc22 ?hyc22 hH ?_
    case hic22=>simp only[zga,zgs,zgz];rfl
    case hqc22=>exact fun _ _ _ h=>h
    case hyc22=>refine .inl ⟨by rfl,?_⟩;intro w' hSw;(try dsimp only at hSw);go_simp;try with_reducible rfl
    simp only[Act.put,zsa,zsz,zss];refine wpAnyH_take (i:=23) (oi:=?oic23) (v:=?vvc23) ?hic23 (by kernel_rfl) (by kernel_rfl) (by kernel_rfl) ?hqc23 ?hyc23 hH ?_
    case hic23=>simp only[zga,zgs,zgz];rfl
    case hqc23=>exact fun _ _ _ h=>h
    case hyc23=>refine .inl ⟨by rfl,?_⟩;intro w' hSw;(try dsimp only at hSw);go_simp;try with_reducible rfl
    simp only[Act.put,zsa,zsz,zss];refine wpAnyH_ready (rs:=[24]) (by kernel_rfl) (by simp) ?_;refine AllReadyH.cons (o:=?oic24) ?hic24 (fun K hK=>?_) AllReadyH.nil
    case hic24=>simp only[zga,zgs,zgz];rfl
    go_simp;refine(HCT.out _ hH.2.2.2.2.2.2).mono ?_;rintro e v24 ⟨rfl,rfl⟩;go_wp2_with fail
    refine hK.out _ _ (hH) (fun hN=>?_);clear hK K hH;have hH:=hN;clear hN
    try simp only[Act.put,zsa,zsz,zss]
    refine wpAnyH_take (i:=25) (oi:=?oic25) (v:=?vvc25) ?hic25 (by kernel_rfl) (by kernel_rfl) (by kernel_rfl) ?hqc25 ?hyc25 hH ?_
    case hic25=>simp only[zga,zgs,zgz];rfl
    case hqc25=>exact fun _ _ _ h=>h
    case hyc25=>refine .inl ⟨by rfl,?_⟩;intro w' hSw;(try dsimp only at hSw);go_simp;try with_reducible rfl
    simp only[Act.put,zsa,zsz,zss];refine wpAnyH_take (i:=26) (oi:=?oic26) (v:=?vvc26) ?hic26 (by kernel_rfl) (by kernel_rfl) (by kernel_rfl) ?hqc26 ?hyc26 hH ?_
    case hic26=>simp only[zga,zgs,zgz];rfl
    case hqc26=>exact fun _ _ _ h=>h
    case hyc26=>refine .inl ⟨by rfl,?_⟩;intro w' hSw;(try dsimp only at hSw);go_simp;try with_reducible rfl
    simp only[Act.put,zsa,zsz,zss];refine wpAnyH_take (i:=27) (oi:=?oic27) (v:=?vvc27) ?hic27 (by kernel_rfl) (by kernel_rfl) (by kernel_rfl) ?hqc27 ?hyc27 hH ?_
    case hic27=>simp only[zga,zgs,zgz];rfl
    case hqc27=>exact fun _ _ _ h=>h
    case hyc27=>refine .inl ⟨by rfl,?_⟩;intro w' hSw;(try dsimp only at hSw);go_simp;try with_reducible rfl
    simp only[Act.put,zsa,zsz,zss];refine wpAnyH_done (by kernel_rfl) ?_ _;have hfin:=hH.2.2.2.2.2.2;go_wp2;go_ret;exact⟨by rfl,hfin⟩
   |false =>
    go_enter func103,ntmps103
    go_wp2_with fail
    refine wp_region_held_drew (S:=(fun w'=>w'.cell? ⟨w.heap.size,2,none⟩=some (.int .i64 xa)∧w'.cell? ⟨w.heap.size,3,none⟩=some (.int .i64 xb)∧w'.cell? ⟨w.heap.size,6,none⟩=some (.bool false)∧w'.cell? ⟨ib,io+2,none⟩=some (.int .i64 a)∧w'.cell? ⟨ib,io+3,none⟩=some (.int .i64 b)∧w'.cell? ⟨ib,io+6,none⟩=some (.slice va vn vc)∧Below w.heap.size w w')) (by kernel_rfl) (⟨by simp,by simp,by simp,d2,d3,d6,Below.drew (bel_alloc (Below.refl _ _) _)⟩) (fun hH=>?_);refine wpAnyH_take (i:=0) (oi:=?oid0) (v:=?vvd0) ?hid0 (by kernel_rfl) (by kernel_rfl) (by kernel_rfl) ?hqd0 ?hyd0 hH ?_
    case hid0=>simp only[zga,zgs,zgz];rfl
    case hqd0=>exact fun _ _ _ h=>h
    case hyd0=>refine .inl ⟨by rfl,?_⟩;intro w' hSw;(try dsimp only at hSw);go_simp;try with_reducible rfl
    simp only[Act.put,zsa,zsz,zss];refine wpAnyH_take (i:=1) (oi:=?oid1) (v:=?vvd1) ?hid1 (by kernel_rfl) (by kernel_rfl) (by kernel_rfl) ?hqd1 ?hyd1 hH ?_
    case hid1=>simp only[zga,zgs,zgz];rfl
    case hqd1=>exact fun _ _ _ h=>h
    case hyd1=>refine .inl ⟨by rfl,?_⟩;intro w' hSw;(try dsimp only at hSw);go_simp;try with_reducible rfl
    simp only[Act.put,zsa,zsz,zss];refine wpAnyH_take (i:=2) (oi:=?oid2) (v:=?vvd2) ?hid2 (by kernel_rfl) (by kernel_rfl) (by kernel_rfl) ?hqd2 ?hyd2 hH ?_
    case hid2=>simp only[zga,zgs,zgz];rfl
    case hqd2=>exact fun _ _ _ h=>h
    case hyd2=>refine .inl ⟨by rfl,?_⟩;intro w' hSw;(try dsimp only at hSw);go_simp;try with_reducible rfl
    simp only[Act.put,zsa,zsz,zss];refine wpAnyH_take (i:=3) (oi:=?oid3) (v:=?vvd3) ?hid3 (by kernel_rfl) (by kernel_rfl) (by kernel_rfl) ?hqd3 ?hyd3 hH ?_
    case hid3=>simp only[zga,zgs,zgz];rfl
    case hqd3=>exact fun _ _ _ h=>h
    case hyd3=>refine .inl ⟨by rfl,?_⟩;intro w' hSw;(try dsimp only at hSw);go_simp;try with_reducible rfl
    simp only[Act.put,zsa,zsz,zss];refine wpAnyH_take (i:=4) (oi:=?oid4) (v:=?vvd4) ?hid4 (by kernel_rfl) (by kernel_rfl) (by kernel_rfl) ?hqd4 ?hyd4 hH ?_
    case hid4=>simp only[zga,zgs,zgz];rfl
    case hqd4=>exact fun _ _ _ h=>h
    case hyd4=>refine .inl ⟨by rfl,?_⟩;intro w' hSw;(try dsimp only at hSw);go_simp;try with_reducible rfl
    simp only[Act.put,zsa,zsz,zss];refine wpAnyH_take (i:=5) (oi:=?oid5) (v:=?vvd5) ?hid5 (by kernel_rfl) (by kernel_rfl) (by kernel_rfl) ?hqd5 ?hyd5 hH ?_
    case hid5=>simp only[zga,zgs,zgz];rfl
    case hqd5=>exact fun _ _ _ h=>h
    case hyd5=>refine .inl ⟨by rfl,?_⟩;intro w' hSw;(try dsimp only at hSw);go_simp;try with_reducible rfl
    simp only[Act.put,zsa,zsz,zss];refine wpAnyH_ready (rs:=[6]) (by kernel_rfl) (by simp) ?_;refine AllReadyH.cons (o:=?oid6) ?hid6 (fun K hK=>?_) AllReadyH.nil
    case hid6=>simp only[zga,zgs,zgz];rfl
    go_simp;refine(HLA.out _).mono ?_;rintro e v6 ⟨rfl,rfl⟩;go_wp2_with fail
    refine hK.out _ _ (hH) (fun hN=>?_);clear hK K hH;have hH:=hN;clear hN
    try simp only[Act.put,zsa,zsz,zss]
    refine wpAnyH_take (i:=7) (oi:=?oid7) (v:=?vvd7) ?hid7 (by kernel_rfl) (by kernel_rfl) (by kernel_rfl) ?hqd7 ?hyd7 hH ?_
    case hid7=>simp only[zga,zgs,zgz];rfl
    case hqd7=>exact fun _ _ _ h=>h
    case hyd7=>refine .inl ⟨by rfl,?_⟩;intro w' hSw;(try dsimp only at hSw);go_simp;try with_reducible rfl
    simp only[Act.put,zsa,zsz,zss];refine wpAnyH_take (i:=8) (oi:=?oid8) (v:=?vvd8) ?hid8 (by kernel_rfl) (by kernel_rfl) (by kernel_rfl) ?hqd8 ?hyd8 hH ?_
    case hid8=>simp only[zga,zgs,zgz];rfl
    case hqd8=>exact fun _ _ _ h=>h
    case hyd8=>refine .inl ⟨by rfl,?_⟩;intro w' hSw;(try dsimp only at hSw);go_simp;try with_reducible rfl
    simp only[Act.put,zsa,zsz,zss];refine wpAnyH_take (i:=9) (oi:=?oid9) (v:=?vvd9) ?hid9 (by kernel_rfl) (by kernel_rfl) (by kernel_rfl) ?hqd9 ?hyd9 hH ?_
    case hid9=>simp only[zga,zgs,zgz];rfl
    case hqd9=>exact fun _ _ _ h=>h
    case hyd9=>refine .inl ⟨by rfl,?_⟩;intro w' hSw;(try dsimp only at hSw);go_simp;try with_reducible rfl
    simp only[Act.put,zsa,zsz,zss];refine wpAnyH_take (i:=10) (oi:=?oid10) (v:=?vvd10) ?hid10 (by kernel_rfl) (by kernel_rfl) (by kernel_rfl) ?hqd10 ?hyd10 hH ?_
    case hid10=>simp only[zga,zgs,zgz];rfl
    case hqd10=>exact fun _ _ _ h=>h
    case hyd10=>refine .inl ⟨by rfl,?_⟩;intro w' hSw;(try dsimp only at hSw);go_simp;try with_reducible rfl
    simp only[Act.put,zsa,zsz,zss];refine wpAnyH_take (i:=11) (oi:=?oid11) (v:=?vvd11) ?hid11 (by kernel_rfl) (by kernel_rfl) (by kernel_rfl) ?hqd11 ?hyd11 hH ?_
    case hid11=>simp only[zga,zgs,zgz];rfl
    case hqd11=>exact fun _ _ _ h=>h
    case hyd11=>refine .inl ⟨by rfl,?_⟩;intro w' hSw;(try dsimp only at hSw);go_simp;try with_reducible rfl
    simp only[Act.put,zsa,zsz,zss];refine wpAnyH_take (i:=12) (oi:=?oid12) (v:=?vvd12) ?hid12 (by kernel_rfl) (by kernel_rfl) (by kernel_rfl) ?hqd12 ?hyd12 hH ?_
    case hid12=>simp only[zga,zgs,zgz];rfl
    case hqd12=>exact fun _ _ _ h=>h
    case hyd12=>refine .inl ⟨by rfl,?_⟩;intro w' hSw;(try dsimp only at hSw);go_simp;try with_reducible rfl
    simp only[Act.put,zsa,zsz,zss];refine wpAnyH_take (i:=13) (oi:=?oid13) (v:=?vvd13) ?hid13 (by kernel_rfl) (by kernel_rfl) (by kernel_rfl) ?hqd13 ?hyd13 hH ?_
    case hid13=>simp only[zga,zgs,zgz];rfl
    case hqd13=>exact fun _ _ _ h=>h
    case hyd13=>refine .inl ⟨by rfl,?_⟩;intro w' hSw;(try dsimp only at hSw);go_simp;try with_reducible rfl
    simp only[Act.put,zsa,zsz,zss];refine wpAnyH_ready (rs:=[14]) (by kernel_rfl) (by simp) ?_;refine AllReadyH.cons (o:=?oid14) ?hid14 (fun K hK=>?_) AllReadyH.nil
    case hid14=>simp only[zga,zgs,zgz];rfl
    go_simp;refine(HLB.out _).mono ?_;rintro e v14 ⟨rfl,rfl⟩;go_wp2_with fail
    refine hK.out _ _ (hH) (fun hN=>?_);clear hK K hH;have hH:=hN;clear hN
    try simp only[Act.put,zsa,zsz,zss]
    refine wpAnyH_take (i:=15) (oi:=?oid15) (v:=?vvd15) ?hid15 (by kernel_rfl) (by kernel_rfl) (by kernel_rfl) ?hqd15 ?hyd15 hH ?_
    case hid15=>simp only[zga,zgs,zgz];rfl
    case hqd15=>exact fun _ _ _ h=>h
    case hyd15=>refine .inl ⟨by rfl,?_⟩;intro w' hSw;(try dsimp only at hSw);go_simp;try with_reducible rfl
    simp only[Act.put,zsa,zsz,zss];refine wpAnyH_take (i:=16) (oi:=?oid16) (v:=?vvd16) ?hid16 (by kernel_rfl) (by kernel_rfl) (by kernel_rfl) ?hqd16 ?hyd16 hH ?_
    case hid16=>simp only[zga,zgs,zgz];rfl
    case hqd16=>exact fun _ _ _ h=>h
    case hyd16=>refine .inl ⟨by rfl,?_⟩;intro w' hSw;(try dsimp only at hSw);go_simp;try with_reducible rfl
    simp only[Act.put,zsa,zsz,zss];refine wpAnyH_take (i:=17) (oi:=?oid17) (v:=?vvd17) ?hid17 (by kernel_rfl) (by kernel_rfl) (by kernel_rfl) ?hqd17 ?hyd17 hH ?_
    case hid17=>simp only[zga,zgs,zgz];rfl
    case hqd17=>exact fun _ _ _ h=>h
    case hyd17=>refine .inl ⟨by rfl,?_⟩;intro w' hSw;(try dsimp only at hSw);go_simp;try with_reducible rfl
    simp only[Act.put,zsa,zsz,zss];refine wpAnyH_take (i:=18) (oi:=?oid18) (v:=?vvd18) ?hid18 (by kernel_rfl) (by kernel_rfl) (by kernel_rfl) ?hqd18 ?hyd18 hH ?_
    case hid18=>simp only[zga,zgs,zgz];rfl
    case hqd18=>exact fun _ _ _ h=>h
    case hyd18=>refine .inl ⟨by rfl,?_⟩;intro w' hSw;(try dsimp only at hSw);go_simp;try with_reducible rfl
    simp only[Act.put,zsa,zsz,zss];refine wpAnyH_take (i:=19) (oi:=?oid19) (v:=?vvd19) ?hid19 (by kernel_rfl) (by kernel_rfl) (by kernel_rfl) ?hqd19 ?hyd19 hH ?_
    case hid19=>simp only[zga,zgs,zgz];rfl
    case hqd19=>exact fun _ _ _ h=>h
    case hyd19=>refine .inl ⟨by rfl,?_⟩;intro w' hSw;(try dsimp only at hSw);go_simp;try with_reducible rfl
    simp only[Act.put,zsa,zsz,zss];refine wpAnyH_take (i:=20) (oi:=?oid20) (v:=undef) ?hid20 (by kernel_rfl) (by kernel_rfl) (by kernel_rfl) ?hqd20 ?hyd20 hH ?_
    case hid20=>simp only[zga,zgs,zgz];rfl
    case hqd20=>exact fun _ _ _ h=>h
    case hyd20=>exact Or.inr ⟨by rfl,rfl⟩
    simp only[Act.put,zsa,zsz,zss];refine wpAnyH_take (i:=21) (oi:=?oid21) (v:=undef) ?hid21 (by kernel_rfl) (by kernel_rfl) (by kernel_rfl) ?hqd21 ?hyd21 hH ?_
    case hid21=>simp only[zga,zgs,zgz];rfl
    case hqd21=>exact fun _ _ _ h=>h
    case hyd21=>exact Or.inr ⟨by rfl,rfl⟩
    simp only[Act.put,zsa,zsz,zss];refine wpAnyH_take (i:=22) (oi:=?oid22) (v:=undef) ?hid22 (by kernel_rfl) (by kernel_rfl) (by kernel_rfl) ?hqd22 ?hyd22 hH ?_
    case hid22=>simp only[zga,zgs,zgz];rfl
    case hqd22=>exact fun _ _ _ h=>h
    case hyd22=>exact Or.inr ⟨by rfl,rfl⟩
    simp only[Act.put,zsa,zsz,zss];refine wpAnyH_take (i:=23) (oi:=?oid23) (v:=undef) ?hid23 (by kernel_rfl) (by kernel_rfl) (by kernel_rfl) ?hqd23 ?hyd23 hH ?_
    case hid23=>simp only[zga,zgs,zgz];rfl
    case hqd23=>exact fun _ _ _ h=>h
    case hyd23=>exact Or.inr ⟨by rfl,rfl⟩
    simp only[Act.put,zsa,zsz,zss];refine wpAnyH_ready (rs:=[24]) (by kernel_rfl) (by simp) ?_;refine AllReadyH.cons (o:=?oid24) ?hid24 (fun K hK=>?_) AllReadyH.nil
    case hid24=>simp only[zga,zgs,zgz];rfl
    go_simp;refine hK.out _ _ hH (fun hN=>?_);clear hK K hH;have hH:=hN;clear hN
    try simp only[Act.put,zsa,zsz,zss]
    refine wpAnyH_take (i:=25) (oi:=?oid25) (v:=?vvd25) ?hid25 (by kernel_rfl) (by kernel_rfl) (by kernel_rfl) ?hqd25 ?hyd25 hH ?_
    case hid25=>simp only[zga,zgs,zgz];rfl
    case hqd25=>exact fun _ _ _ h=>h
    case hyd25=>refine .inl ⟨by rfl,?_⟩;intro w' hSw;(try dsimp only at hSw);go_simp;try with_reducible rfl
    simp only[Act.put,zsa,zsz,zss];refine wpAnyH_take (i:=26) (oi:=?oid26) (v:=?vvd26) ?hid26 (by kernel_rfl) (by kernel_rfl) (by kernel_rfl) ?hqd26 ?hyd26 hH ?_
    case hid26=>simp only[zga,zgs,zgz];rfl
    case hqd26=>exact fun _ _ _ h=>h
    case hyd26=>refine .inl ⟨by rfl,?_⟩;intro w' hSw;(try dsimp only at hSw);go_simp;try with_reducible rfl
    simp only[Act.put,zsa,zsz,zss];refine wpAnyH_take (i:=27) (oi:=?oid27) (v:=?vvd27) ?hid27 (by kernel_rfl) (by kernel_rfl) (by kernel_rfl) ?hqd27 ?hyd27 hH ?_
    case hid27=>simp only[zga,zgs,zgz];rfl
    case hqd27=>exact fun _ _ _ h=>h
    case hyd27=>refine .inl ⟨by rfl,?_⟩;intro w' hSw;(try dsimp only at hSw);go_simp;try with_reducible rfl
    simp only[Act.put,zsa,zsz,zss];refine wpAnyH_done (by kernel_rfl) ?_ _;have hfin:=hH.2.2.2.2.2.2;go_wp2;go_ret;exact⟨by rfl,hfin⟩
theorem lacksRegister_any (x:Sp) (ib io:Nat) (a b:Int) (va:Option Addr) (vn vc:Nat) (l:List Int) (w:World) (e2:w.cell? ⟨ib,io+2,none⟩=some (.int .i64 a)) (e3:w.cell? ⟨ib,io+3,none⟩=some (.int .i64 b)) (e6:w.cell? ⟨ib,io+6,none⟩=some (.slice va vn vc)) (hil:IL w (.slice va vn vc) l) :
  Calls prog 103 #[spV x,.pointer (some ⟨ib,io,none⟩)] w (retP (.bool (lackS x a b l)) w):=by
 obtain⟨nm,xsb,xa,xb,xd,xk,xg,xs,xt⟩:=x;exact lacksRegister_walk nm xsb xa xb xd xk xg xs xt ib io a b va vn vc l w e2 e3 e6 hil
set_option maxHeartbeats 4000000
attribute [local go_sem] Oper.semAt_some
def rangesOf:Code→List (Array Tmp×Code×Code)
 |.rangeFunc _ ps a b=>[(ps,a,b)]
 |.seq a b=>rangesOf a++rangesOf b
 |.block _ c=>rangesOf c
 |.scope c=>rangesOf c
 |.loop c=>rangesOf c
 |.cond _ a b=>rangesOf a++rangesOf b
 |_=>[]
noncomputable def tkRanges:List (Array Tmp×Code×Code):=(Tryz.f77.body.map rangesOf).getD []
noncomputable def tkAssign (i:Nat):Code:=((tkRanges[i]?).map (·.2.1)).getD .skip
noncomputable def tkBody (i:Nat):Code:=((tkRanges[i]?).map (·.2.2)).getD .skip
theorem gset_other {w:World} {b b' o:Nat} {v:Value} (h:b≠b'):(w.setCell ⟨b',o,none⟩ v).heap[b]? = w.heap[b]? := Below.heap_setCell w ⟨b',o,none⟩ v b h
theorem gsize_set (w:World) (p:Addr) (u:Value):(w.setCell p u).heap.size=w.heap.size:=by simp[World.setCell]
theorem put_other {W:World} {l k:Nat} {o:Obj} (h:k≠l):(W.putObj l o).heap[k]? = W.heap[k]? := World.putObj_heap_other h
theorem cell_not_loop {W:World} {b o l:Nat} {r:Loop} {v:Value} (hl:W.heap[l]? = some (.loop r)) (hc:W.cell? ⟨b,o,none⟩=some v):b≠l:=by
 rintro rfl;simp[World.cell?,hl] at hc
theorem tk_round0 (l B0 B1 fb fo d:Nat) (fn:FuncId) (regs y:Int) (q0 q1 q3 q5 q6 q7 q8 q9 q10 q11 q12 q13 q14 q15 q16 q17 q18 q19 q20 q21 q22 q23 q24 q25 q26 q27 q28 q29 q30 q31 q32 q33 q34 q35 q36 q37 q38 q39 q40 q41 q42 q43 q44 q45 q46 q47 q48 q49 q50 q51 q52 q53 q54 q55 q56 q57 q58 q59 q60 q61 q62 q63 q64 q65 q66 q67 q68 q69 q70 q71 q72 q73:Value) (W:World) (R:Ending→World→Prop)
  (hl:W.heap[l]? = some (.loop (loopRec fn #[q0,q1,.pointer (some ⟨B0,0,none⟩),q3,.pointer (some ⟨B1,0,none⟩),q5,q6,q7,q8,q9,q10,q11,q12,q13,q14,q15,q16,q17,q18,q19,q20,q21,q22,q23,q24,q25,q26,q27,q28,q29,q30,q31,q32,q33,q34,q35,q36,q37,q38,q39,q40,q41,q42,q43,q44,q45,q46,q47,q48,q49,q50,q51,q52,q53,q54,q55,q56,q57,q58,q59,q60,q61,q62,q63,q64,q65,q66,q67,q68,q69,q70,q71,q72,q73] #[25] (tkAssign 0) (tkBody 0) d))) (h0:W.cell? ⟨B0,0,none⟩=some (.pointer (some ⟨fb,fo,none⟩))) (h1:W.cell? ⟨B1,0,none⟩=some (.bool false)) (z1:W.frozen? ⟨B1,0,none⟩=false) (k2:W.cell? ⟨fb,fo+2,none⟩=some (.int .i64 regs)) (r0 : -9223372036854775808<regs) (r1:regs≤9223372036854775807)
  (HT:Hid (inB regs y=true→∀ W':World,(∀ k,k≠l→W'.heap[k]? = W.heap[k]?)→W'.heap[l]? = some (.loop (loopRec fn #[q0,q1,.pointer (some ⟨B0,0,none⟩),q3,.pointer (some ⟨B1,0,none⟩),q5,q6,q7,q8,q9,q10,q11,q12,q13,q14,q15,q16,q17,q18,q19,q20,q21,q22,q23,q24,q25,q26,q27,q28,q29,q30,q31,q32,q33,q34,q35,q36,q37,q38,q39,q40,q41,q42,q43,q44,q45,q46,q47,q48,q49,q50,q51,q52,q53,q54,q55,q56,q57,q58,q59,q60,q61,q62,q63,q64,q65,q66,q67,q68,q69,q70,q71,q72,q73] #[25] (tkAssign 0) (tkBody 0) d))→W'.heap.size=W.heap.size→W'.os=W.os→W'.tape=W.tape→W'.output=W.output→R (.returned (.bool true)) W'))
  (HF:Hid (inB regs y=false→∀ W':World,(∀ k,k≠l→k≠B1→W'.heap[k]? = W.heap[k]?)→W'.cell? ⟨B1,0,none⟩=some (.bool false)→W'.heap[l]? = some (.loop { state:=.done,pending:=some .ret,fn:=fn,tmps:=#[q0,q1,.pointer (some ⟨B0,0,none⟩),q3,.pointer (some ⟨B1,0,none⟩),q5,q6,q7,q8,q9,q10,q11,q12,q13,q14,q15,q16,q17,q18,q19,q20,q21,q22,q23,q24,q25,q26,q27,q28,q29,q30,q31,q32,q33,q34,q35,q36,q37,q38,q39,q40,q41,q42,q43,q44,q45,q46,q47,q48,q49,q50,q51,q52,q53,q54,q55,q56,q57,q58,q59,q60,q61,q62,q63,q64,q65,q66,q67,q68,q69,q70,q71,q72,q73],params:=#[25],assign:=tkAssign 0,body:=tkBody 0,defers:=d })→W'.heap.size=W.heap.size→W'.os=W.os→W'.tape=W.tape→W'.output=W.output→R (.returned (.bool false)) W')) :
  YieldAt Fence.wide 0 prog l #[.int .i64 y] W R:=by
 have n0:=cell_not_loop hl h0;have n1:=cell_not_loop hl h1;have n2:=cell_not_loop hl k2;refine yield_round hl rfl rfl trivial ?_;simp only[loopRec]
 conv=>arg 4;whnf
 gi_wp2
 refine⟨(by first|exact hl|rfl),?_⟩
 conv=>arg 4;whnf
 have ll:l<W.heap.size:=(zge hl).1;obtain⟨W2,hW2⟩:∃ W2,W.putObj l (.loop { state:=.busy,pending:=none,fn:=fn,tmps:=#[q0,q1,.pointer (some ⟨B0,0,none⟩),q3,.pointer (some ⟨B1,0,none⟩),q5,q6,q7,q8,q9,q10,q11,q12,q13,q14,q15,q16,q17,q18,q19,q20,q21,q22,q23,q24,q25,q26,q27,q28,q29,q30,q31,q32,q33,q34,q35,q36,q37,q38,q39,q40,q41,q42,q43,q44,q45,q46,q47,q48,q49,q50,q51,q52,q53,q54,q55,q56,q57,q58,q59,q60,q61,q62,q63,q64,q65,q66,q67,q68,q69,q70,q71,q72,q73],params:=#[25],assign:=tkAssign 0,body:=tkBody 0,defers:=d })=W2:=⟨_,rfl⟩;have HO:Hid (∀ k,k≠l→W2.heap[k]? = W.heap[k]?):=fun k hk=>by rw[←hW2];exact put_other hk
 have HL:Hid (W2.heap[l]? = some (.loop { state:=.busy,pending:=none,fn:=fn,tmps:=#[q0,q1,.pointer (some ⟨B0,0,none⟩),q3,.pointer (some ⟨B1,0,none⟩),q5,q6,q7,q8,q9,q10,q11,q12,q13,q14,q15,q16,q17,q18,q19,q20,q21,q22,q23,q24,q25,q26,q27,q28,q29,q30,q31,q32,q33,q34,q35,q36,q37,q38,q39,q40,q41,q42,q43,q44,q45,q46,q47,q48,q49,q50,q51,q52,q53,q54,q55,q56,q57,q58,q59,q60,q61,q62,q63,q64,q65,q66,q67,q68,q69,q70,q71,q72,q73],params:=#[25],assign:=tkAssign 0,body:=tkBody 0,defers:=d })):=by show _=_;rw[←hW2];exact World.putObj_heap_same ll
 have HS:Hid (W2.heap.size=W.heap.size∧W2.os=W.os∧W2.tape=W.tape∧W2.output=W.output):=by rw[←hW2];exact⟨World.putObj_size ..,rfl,rfl,rfl⟩
 rw[hW2];clear hW2 hl;replace h0:W2.cell? ⟨B0,0,none⟩=some (.pointer (some ⟨fb,fo,none⟩)):=(World.cell?_of_block (HO.out B0 n0)).trans h0;replace h1:W2.cell? ⟨B1,0,none⟩=some (.bool false):=(World.cell?_of_block (HO.out B1 n1)).trans h1;replace z1:W2.frozen? ⟨B1,0,none⟩=false:=(World.frozen?_of_block (HO.out B1 n1)).trans z1;replace k2:=(World.cell?_of_block (HO.out fb n2)).trans k2;have HX:Hid (∀ m,CallsIn (Fence.wide.inRound l) m prog 102 #[.pointer (some ⟨fb,fo,none⟩),.int .i64 y] W2 fun e w'=>e=.returned (.bool (inB regs y))∧w'=W2):=fun m=>CallsIn.inRound l (callsIn_wide.2 (hasRegister_any fb fo regs y W2 k2 r0 r1));clear k2 r1 r0
 cases hq:inB regs y with
 |true =>
  rw[hq] at HX
  gi_wp2
  refine⟨trivial,rfl,(HX.out _).mono ?_⟩;rintro e wr ⟨rfl,hwr⟩;subst hwr
  gi_wp2
  refine⟨HL.out,HT.out hq _ (fun k hk=>(put_other hk).trans (HO.out k hk)) (World.putObj_heap_same (by rw[HS.out.1];exact ll)) (by rw[World.putObj_size,HS.out.1]) HS.out.2.1 HS.out.2.2.1 HS.out.2.2.2⟩
 |false =>
  rw[hq] at HX
  gi_wp2
  refine⟨trivial,rfl,(HX.out _).mono ?_⟩;rintro e wr ⟨rfl,hwr⟩;subst hwr
  gi_wp2
  refine⟨?_,HF.out hq _ (fun k hk hk1=>(put_other hk).trans ((gset_other hk1).trans (HO.out k hk))) ?_ (World.putObj_heap_same (by rw[gsize_set,HS.out.1];exact ll)) (by rw[World.putObj_size,gsize_set,HS.out.1]) HS.out.2.1 HS.out.2.2.1 HS.out.2.2.2⟩
  ·rw[gset_other (Ne.symm n1)];exact HL.out
  ·rw[World.cell?_of_block (put_other n1)];go_simp
theorem tk_round1 (l B0 B1 fb fo d:Nat) (fn:FuncId) (n cap:Nat) (ca:Option Addr) (y:Int) (q0 q1 q3 q5 q6 q7 q8 q9 q10 q11 q12 q13 q14 q15 q16 q17 q18 q19 q20 q21 q22 q23 q24 q25 q26 q27 q28 q29 q30 q31 q32 q33 q34 q35 q36 q37 q38 q39 q40 q41 q42 q43 q44 q45 q46 q47 q48 q49 q50 q51 q52 q53 q54 q55 q56 q57 q58 q59 q60 q61 q62 q63 q64 q65 q66 q67 q68 q69 q70 q71 q72 q73:Value) (W:World) (R:Ending→World→Prop)
  (hl:W.heap[l]? = some (.loop (loopRec fn #[q0,q1,.pointer (some ⟨B0,0,none⟩),q3,.pointer (some ⟨B1,0,none⟩),q5,q6,q7,q8,q9,q10,q11,q12,q13,q14,q15,q16,q17,q18,q19,q20,q21,q22,q23,q24,q25,q26,q27,q28,q29,q30,q31,q32,q33,q34,q35,q36,q37,q38,q39,q40,q41,q42,q43,q44,q45,q46,q47,q48,q49,q50,q51,q52,q53,q54,q55,q56,q57,q58,q59,q60,q61,q62,q63,q64,q65,q66,q67,q68,q69,q70,q71,q72,q73] #[34] (tkAssign 1) (tkBody 1) d))) (h0:W.cell? ⟨B0,0,none⟩=some (.pointer (some ⟨fb,fo,none⟩))) (h1:W.cell? ⟨B1,0,none⟩=some (.bool false)) (z1:W.frozen? ⟨B1,0,none⟩=false) (k2:W.cell? ⟨fb,fo+5,none⟩=some (.slice ca n cap)) (r1:(n:Int)≤9223372036854775807)
  (HT:Hid (inB (n:Int) y=true→∀ W':World,(∀ k,k≠l→W'.heap[k]? = W.heap[k]?)→W'.heap[l]? = some (.loop (loopRec fn #[q0,q1,.pointer (some ⟨B0,0,none⟩),q3,.pointer (some ⟨B1,0,none⟩),q5,q6,q7,q8,q9,q10,q11,q12,q13,q14,q15,q16,q17,q18,q19,q20,q21,q22,q23,q24,q25,q26,q27,q28,q29,q30,q31,q32,q33,q34,q35,q36,q37,q38,q39,q40,q41,q42,q43,q44,q45,q46,q47,q48,q49,q50,q51,q52,q53,q54,q55,q56,q57,q58,q59,q60,q61,q62,q63,q64,q65,q66,q67,q68,q69,q70,q71,q72,q73] #[34] (tkAssign 1) (tkBody 1) d))→W'.heap.size=W.heap.size→W'.os=W.os→W'.tape=W.tape→W'.output=W.output→R (.returned (.bool true)) W'))
  (HF:Hid (inB (n:Int) y=false→∀ W':World,(∀ k,k≠l→k≠B1→W'.heap[k]? = W.heap[k]?)→W'.cell? ⟨B1,0,none⟩=some (.bool false)→W'.heap[l]? = some (.loop { state:=.done,pending:=some .ret,fn:=fn,tmps:=#[q0,q1,.pointer (some ⟨B0,0,none⟩),q3,.pointer (some ⟨B1,0,none⟩),q5,q6,q7,q8,q9,q10,q11,q12,q13,q14,q15,q16,q17,q18,q19,q20,q21,q22,q23,q24,q25,q26,q27,q28,q29,q30,q31,q32,q33,q34,q35,q36,q37,q38,q39,q40,q41,q42,q43,q44,q45,q46,q47,q48,q49,q50,q51,q52,q53,q54,q55,q56,q57,q58,q59,q60,q61,q62,q63,q64,q65,q66,q67,q68,q69,q70,q71,q72,q73],params:=#[34],assign:=tkAssign 1,body:=tkBody 1,defers:=d })→W'.heap.size=W.heap.size→W'.os=W.os→W'.tape=W.tape→W'.output=W.output→R (.returned (.bool false)) W')) :
  YieldAt Fence.wide 0 prog l #[.int .i64 y] W R:=by
 have n0:=cell_not_loop hl h0;have n1:=cell_not_loop hl h1;have n2:=cell_not_loop hl k2;refine yield_round hl rfl rfl trivial ?_;simp only[loopRec]
 conv=>arg 4;whnf
 gi_wp2
 refine⟨(by first|exact hl|rfl),?_⟩
 conv=>arg 4;whnf
 have ll:l<W.heap.size:=(zge hl).1;obtain⟨W2,hW2⟩:∃ W2,W.putObj l (.loop { state:=.busy,pending:=none,fn:=fn,tmps:=#[q0,q1,.pointer (some ⟨B0,0,none⟩),q3,.pointer (some ⟨B1,0,none⟩),q5,q6,q7,q8,q9,q10,q11,q12,q13,q14,q15,q16,q17,q18,q19,q20,q21,q22,q23,q24,q25,q26,q27,q28,q29,q30,q31,q32,q33,q34,q35,q36,q37,q38,q39,q40,q41,q42,q43,q44,q45,q46,q47,q48,q49,q50,q51,q52,q53,q54,q55,q56,q57,q58,q59,q60,q61,q62,q63,q64,q65,q66,q67,q68,q69,q70,q71,q72,q73],params:=#[34],assign:=tkAssign 1,body:=tkBody 1,defers:=d })=W2:=⟨_,rfl⟩;have HO:Hid (∀ k,k≠l→W2.heap[k]? = W.heap[k]?):=fun k hk=>by rw[←hW2];exact put_other hk
 have HL:Hid (W2.heap[l]? = some (.loop { state:=.busy,pending:=none,fn:=fn,tmps:=#[q0,q1,.pointer (some ⟨B0,0,none⟩),q3,.pointer (some ⟨B1,0,none⟩),q5,q6,q7,q8,q9,q10,q11,q12,q13,q14,q15,q16,q17,q18,q19,q20,q21,q22,q23,q24,q25,q26,q27,q28,q29,q30,q31,q32,q33,q34,q35,q36,q37,q38,q39,q40,q41,q42,q43,q44,q45,q46,q47,q48,q49,q50,q51,q52,q53,q54,q55,q56,q57,q58,q59,q60,q61,q62,q63,q64,q65,q66,q67,q68,q69,q70,q71,q72,q73],params:=#[34],assign:=tkAssign 1,body:=tkBody 1,defers:=d })):=by show _=_;rw[←hW2];exact World.putObj_heap_same ll
 have HS:Hid (W2.heap.size=W.heap.size∧W2.os=W.os∧W2.tape=W.tape∧W2.output=W.output):=by rw[←hW2];exact⟨World.putObj_size ..,rfl,rfl,rfl⟩
 rw[hW2];clear hW2 hl;replace h0:W2.cell? ⟨B0,0,none⟩=some (.pointer (some ⟨fb,fo,none⟩)):=(World.cell?_of_block (HO.out B0 n0)).trans h0;replace h1:W2.cell? ⟨B1,0,none⟩=some (.bool false):=(World.cell?_of_block (HO.out B1 n1)).trans h1;replace z1:W2.frozen? ⟨B1,0,none⟩=false:=(World.frozen?_of_block (HO.out B1 n1)).trans z1;replace k2:=(World.cell?_of_block (HO.out fb n2)).trans k2;have HX:Hid (∀ m,CallsIn (Fence.wide.inRound l) m prog 75 #[.pointer (some ⟨fb,fo,none⟩),.int .i64 y] W2 fun e w'=>e=.returned (.bool (inB (n:Int) y))∧w'=W2):=fun m=>CallsIn.inRound l (callsIn_wide.2 (hasNode_any fb fo n cap ca y W2 k2 r1));clear k2 r1
 cases hq:inB (n:Int) y with
 |true =>
  rw[hq] at HX
  gi_wp2
  refine⟨trivial,rfl,(HX.out _).mono ?_⟩;rintro e wr ⟨rfl,hwr⟩;subst hwr
  gi_wp2
  refine⟨HL.out,HT.out hq _ (fun k hk=>(put_other hk).trans (HO.out k hk)) (World.putObj_heap_same (by rw[HS.out.1];exact ll)) (by rw[World.putObj_size,HS.out.1]) HS.out.2.1 HS.out.2.2.1 HS.out.2.2.2⟩
 |false =>
  rw[hq] at HX
  gi_wp2
  refine⟨trivial,rfl,(HX.out _).mono ?_⟩;rintro e wr ⟨rfl,hwr⟩;subst hwr
  gi_wp2
  refine⟨?_,HF.out hq _ (fun k hk hk1=>(put_other hk).trans ((gset_other hk1).trans (HO.out k hk))) ?_ (World.putObj_heap_same (by rw[gsize_set,HS.out.1];exact ll)) (by rw[World.putObj_size,gsize_set,HS.out.1]) HS.out.2.1 HS.out.2.2.1 HS.out.2.2.2⟩
  ·rw[gset_other (Ne.symm n1)];exact HL.out
  ·rw[World.cell?_of_block (put_other n1)];go_simp
end Go.Proofs.YtaimifnppackgaaGreatDoor
