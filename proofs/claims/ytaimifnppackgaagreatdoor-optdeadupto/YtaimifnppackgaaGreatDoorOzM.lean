import Derived.Test.YtaimifnppackgaaGreatDoorOzI
namespace Go.Proofs.YtaimifnppackgaaGreatDoor
open Go.ChangeShapes Go.WideShapes Go.ChangeAt Go.RowKit Go.Proofs.Tryz
set_option linter.all false
set_option maxRecDepth 100000
set_option maxHeartbeats 8000000
theorem NI.baseS {B B' NB n:Nat} {rv:Nat→Value} {g:Nat→List Nat} {W:World} (h:NI B NB n rv g W) (hb:B'≤B):NI B' NB n rv g W :=
 ⟨h.cell,fun i hi=>by
  refine⟨(h.own i hi).1,?_⟩
  rcases (h.own i hi).2 with z|⟨b,cap,cur,h1,h2,h3⟩
  ·exact .inl z
  ·exact .inr ⟨b,cap,cur,h1,Nat.le_trans hb h2,h3⟩,h.ne,h.dis⟩
theorem NI.ext2 {B NB n:Nat} {rv:Nat→Value} {e e':List (Nat×Nat)} {W:World} (h:NI B NB n rv (gOf e) W) (he:e=e'):NI B NB n rv (gOf e') W:=by rw[←he];exact h
structure CodeOkS (R N:Nat) (code:List Ins):Prop where
 len:code.length=N
 us:∀ x∈code,∀ y∈usX x,0≤y∧y<R
 wr:∀ x∈code,∀ y∈wrX x,0≤y∧y<R
 sx:∀ x∈code,∀ y∈sxF x,0≤y∧y<N
 lu:∀ i,i≤N→(esG usX code i).length≤1000000000000
theorem wrX_lengthS (x:Ins):(wrX x).length≤1:=by unfold wrX;split<;>simp
theorem esW_lengthS (code:List Ins):∀ i,(esG wrX code i).length≤i
 |0=>by simp[esG]
 |i+1=>by
  have h1:=esW_lengthS code i
  have h2:(edN i (((code[i]?).map wrX).getD [])).length≤1:=by
   unfold edN;rw[List.length_map]
   cases code[i]? with
   |none=>simp
   |some x=>simpa using wrX_lengthS x
  unfold esG;rw[List.length_append]
  omega
structure R1S (w1:World) (CB co cap N R:Nat) (code:List Ins) (SB XB NP MB WB:Nat) (rp:Nat→Value) (W:World):Prop where
 bel:Below w1.heap.size w1 W
 s0:W.cell? ⟨SB,0,none⟩=some (.slice (some ⟨CB,co,none⟩) N cap)
 s1:W.cell? ⟨SB,1,none⟩=some (.pointer (some ⟨XB,0,none⟩))
 s2:W.cell? ⟨SB,2,none⟩=some (.slice none 0 0)
 s3:W.cell? ⟨SB,3,none⟩=some (.slice none 0 0)
 s4:W.cell? ⟨SB,4,none⟩=some (.slice none 0 0)
 s5:W.cell? ⟨SB,5,none⟩=some (.slice (some ⟨WB,0,none⟩) R R)
 z2:W.frozen? ⟨SB,2,none⟩=false
 z3:W.frozen? ⟨SB,3,none⟩=false
 z4:W.frozen? ⟨SB,4,none⟩=false
 x0:W.cell? ⟨XB,0,none⟩=some (.slice (some ⟨NP,0,none⟩) N N)
 x1:W.cell? ⟨XB,1,none⟩=some (.slice (some ⟨MB,0,none⟩) N N)
 ni:NI w1.heap.size NP N rp (gOf (esG sxF code N)) W
 mb:MetAt W MB N (fun _=>false)
 wb:MetAt W WB R (fun _=>false)
 ge:w1.heap.size≤SB∧w1.heap.size≤XB∧w1.heap.size≤NP∧w1.heap.size≤MB∧w1.heap.size≤WB
 lt:SB<W.heap.size∧XB<W.heap.size∧NP<W.heap.size∧MB<W.heap.size∧WB<W.heap.size
 ne:SB≠XB∧SB≠NP∧SB≠MB∧SB≠WB∧XB≠NP∧XB≠MB∧XB≠WB∧NP≠MB∧NP≠WB∧MB≠WB
 row:∀ i,i<N→∀ b,(rp i).ownBlock=some b→b≠SB∧b≠MB∧b≠WB
theorem r1_mk {w1 W3 Wn Wm Wx W:World} {CB co cap N R B SB XB NP MB WB:Nat} {code:List Ins} {rp:Nat→Value} (hW:W=Wx.alloc (.cells #[.slice (some ⟨CB,co,none⟩) N cap,.pointer (some ⟨XB,0,none⟩),.slice none 0 0,.slice none 0 0,.slice none 0 0,.slice (some ⟨WB,0,none⟩) R R] 61)) (hSB:SB=Wx.heap.size) (hMB:MB=Wn.heap.size) (hXB:XB=Wn.heap.size+1) (hWB:WB=Wm.heap.size)
  (bn:Below ((Wn.alloc (.cells (madeCells #[.bool false] N) 4)).alloc (.cells #[.slice (some ⟨NP,0,none⟩) N N,.slice (some ⟨MB,0,none⟩) N N] 85)).heap.size ((Wn.alloc (.cells (madeCells #[.bool false] N) 4)).alloc (.cells #[.slice (some ⟨NP,0,none⟩) N N,.slice (some ⟨MB,0,none⟩) N N] 85)) Wx) (bm:Below (Wm.alloc (.cells (madeCells #[.bool false] R) 4)).heap.size (Wm.alloc (.cells (madeCells #[.bool false] R) 4)) Wx) (b3:Below W3.heap.size W3 Wx) (b1:Below w1.heap.size w1 Wx)
  (ni:NI B NP N rp (gOf (esG sxF code N)) W3) (hB:w1.heap.size≤B) (hNP:B≤NP) (h3:W3.heap.size≤Wn.heap.size) (hm:Wm.heap.size<B∨W3.heap.size≤Wm.heap.size) (hm1:w1.heap.size≤Wm.heap.size) (hmn:Wm.heap.size≠Wn.heap.size∧Wm.heap.size≠Wn.heap.size+1) (hN0:0<N):R1S w1 CB co cap N R code SB XB NP MB WB rp W:=by
 subst hW hSB hMB hXB hWB;have l1:=b1.size;have l2:=bn.size;have l3:=bm.size;have l4:=b3.size;have hNPl:NP<W3.heap.size:=block_lt_of_cell (ni.cell 0 hN0).1;have hB3:B<W3.heap.size∨B=W3.heap.size∨W3.heap.size<B:=by omega
 simp at l2 l3;have bx:Below Wx.heap.size Wx (Wx.alloc (.cells #[.slice (some ⟨CB,co,none⟩) N cap,.pointer (some ⟨(Wn.heap.size+1),0,none⟩),.slice none 0 0,.slice none 0 0,.slice none 0 0,.slice (some ⟨Wm.heap.size,0,none⟩) R R] 61)):=bel_alloc (Below.refl _ _) _;have ma:=fun i (hi:i<N)=>made_at Wn (.bool false) N 4 i hi;have mr:=fun i (hi:i<R)=>made_at Wm (.bool false) R 4 i hi;refine⟨bel_alloc b1 _,by simp,by simp,by simp,by simp,by simp,by simp,by simp,by simp,by simp,?_,?_,((ni.of b3).of bx).baseS hB,fun i hi=>?_,fun i hi=>?_,?_,?_,?_,fun i hi b hb=>?_⟩
 ·exact keep_cell bx (keep_cell bn (by simp))
 ·exact keep_cell bx (keep_cell bn (by simp))
 ·have h:=ma i hi
  have h1:=keep_alloc h.1 (.cells #[.slice (some ⟨NP,0,none⟩) N N,.slice (some ⟨Wn.heap.size,0,none⟩) N N] 85);have z1:=keep_frozen (bel_alloc (Below.refl _ _) (.cells #[.slice (some ⟨NP,0,none⟩) N N,.slice (some ⟨Wn.heap.size,0,none⟩) N N] 85)) h.1 h.2;exact⟨keep_cell bx (keep_cell bn h1),keep_frozen bx (keep_cell bn h1) (keep_frozen bn h1 z1)⟩
 ·have h:=mr i hi
  exact⟨keep_cell bx (keep_cell bm h.1),keep_frozen bx (keep_cell bm h.1) (keep_frozen bm h.1 h.2)⟩
 ·exact⟨by omega,by omega,by omega,by omega,by omega⟩
 ·rw[World.size_alloc]
  exact⟨by omega,by omega,by omega,by omega,by omega⟩
 ·exact⟨by omega,by omega,by omega,by omega,by omega,by omega,by omega,by omega,by omega,by omega⟩
 ·have h:=(ni.own i hi).lt b hb
  exact⟨by omega,by omega,by omega⟩
def regionNS (n:Nat):Code→Option Code
 |.region k o b=>if k=n then some (.region k o b) else none
 |.seq a b=>match regionNS n a with
  |some c=>some c
  |none=>regionNS n b
 |.block _ c=>regionNS n c
 |.scope c=>regionNS n c
 |.loop c=>regionNS n c
 |.cond _ a b=>match regionNS n a with
  |some c=>some c
  |none=>regionNS n b
 |_=>none
noncomputable def spR1:Code:=((Tryz.f18.body.bind (regionNS 1)).getD .skip)
theorem sp_r1 (FB CB co cap N R:Nat) (code:List Ins) (t0 t2 t3 t4 t5 t6 t7 t8 t9 t10 t11 t12 t13 t14 t15 t16 t17 t18 t19 t20 t21 t22 t23 t24 t25 t26 t27 t28 t29 t30 t31 t32 t33 t34 t35 t36 t37 t38 t39 t40 t41 t42 t43 t44 t45 t46 t47 t48 t49 t50 t51 t52 t53 t54 t55 t56 t57 t58 t59 t60 t61 t62 t63 t64 t65 t66 t67 t68 t69 t70 t71 t72 t73:Value) (K:Act→World→Prop) (w1:World) (hn:N≤100000) (hN0:0<N) (hR:R≤1000000) (HOK:Hid (CodeOkS R N code)) (HIN:Hid (∀ (i:Nat) x,code[i]? = some x→InsAt w1 CB (co+i*9) x))
  (c5:w1.cell? ⟨FB,5,none⟩=some (.slice (some ⟨CB,co,none⟩) N cap)) (c2:w1.cell? ⟨FB,2,none⟩=some (.int .i64 (R:Int)))
  (HK:Hid (∀ (y6 y7 y8 y9 y10 y11 y12 y13 y14 y15 y16:Value) (SB XB NP MB WB:Nat) (rp:Nat→Value) (W:World),R1S w1 CB co cap N R code SB XB NP MB WB rp W→K ⟨#[t0,.pointer (some ⟨FB,0,none⟩),.pointer (some ⟨SB,0,none⟩),t3,t4,t5,y6,y7,y8,y9,y10,y11,y12,y13,y14,y15,y16,t17,t18,t19,t20,t21,t22,t23,t24,t25,t26,t27,t28,t29,t30,t31,t32,t33,t34,t35,t36,t37,t38,t39,t40,t41,t42,t43,t44,t45,t46,t47,t48,t49,t50,t51,t52,t53,t54,t55,t56,t57,t58,t59,t60,t61,t62,t63,t64,t65,t66,t67,t68,t69,t70,t71,t72,t73],[]⟩ W)) :
  Code.wp prog spR1 (Exit.then K (fun _ _ _=>False)) ⟨#[t0,.pointer (some ⟨FB,0,none⟩),t2,t3,t4,t5,t6,t7,t8,t9,t10,t11,t12,t13,t14,t15,t16,t17,t18,t19,t20,t21,t22,t23,t24,t25,t26,t27,t28,t29,t30,t31,t32,t33,t34,t35,t36,t37,t38,t39,t40,t41,t42,t43,t44,t45,t46,t47,t48,t49,t50,t51,t52,t53,t54,t55,t56,t57,t58,t59,t60,t61,t62,t63,t64,t65,t66,t67,t68,t69,t70,t71,t72,t73],[]⟩ w1:=by
 conv=>arg 2;whnf
 have mkR:=mk_bools R hR;refine wp_region_held_drew (S:=(fun w'=>w'.cell? ⟨FB,5,none⟩=some (.slice (some ⟨CB,co,none⟩) N cap)∧w'.cell? ⟨FB,2,none⟩=some (.int .i64 (R:Int))∧Hid (Below w1.heap.size w1 w'))) (by kernel_rfl) (⟨by simpa using c5,by simpa using c2,hidF (Below.drew (Below.refl _ _))⟩) (fun hH=>?_);refine wpAnyH_take (i:=0) (oi:=?o0) (v:=?v0) ?i0 (by kernel_rfl) (by kernel_rfl) (by kernel_rfl) ?q0 ?y0 hH ?_
 case i0=>simp only[zga,zgs,zgz];rfl
 case q0=>exact fun _ _ _ h=>h.elim
 case y0=>refine .inl ⟨by rfl,?_⟩;intro w' hSw;(try dsimp only at hSw);go_simp;try with_reducible rfl
 simp only[Act.put,zsa,zsz,zss];refine wpAnyH_take (i:=1) (oi:=?o1) (v:=?v1) ?i1 (by kernel_rfl) (by kernel_rfl) (by kernel_rfl) ?q1 ?y1 hH ?_
 case i1=>simp only[zga,zgs,zgz];rfl
 case q1=>exact fun _ _ _ h=>h.elim
 case y1=>refine .inl ⟨by rfl,?_⟩;intro w' hSw;(try dsimp only at hSw);go_simp;try with_reducible rfl
 simp only[Act.put,zsa,zsz,zss];refine wpAnyH_take (i:=2) (oi:=?o2) (v:=?v2) ?i2 (by kernel_rfl) (by kernel_rfl) (by kernel_rfl) ?q2 ?y2 hH ?_
 case i2=>simp only[zga,zgs,zgz];rfl
 case q2=>exact fun _ _ _ h=>h.elim
 case y2=>refine .inl ⟨by rfl,?_⟩;intro w' hSw;(try dsimp only at hSw);go_simp;try with_reducible rfl
 simp only[Act.put,zsa,zsz,zss];refine wpAnyH_take (i:=3) (oi:=?o3) (v:=?v3) ?i3 (by kernel_rfl) (by kernel_rfl) (by kernel_rfl) ?q3 ?y3 hH ?_
 case i3=>simp only[zga,zgs,zgz];rfl
 case q3=>exact fun _ _ _ h=>h.elim
 case y3=>refine .inl ⟨by rfl,?_⟩;intro w' hSw;(try dsimp only at hSw);go_simp;try with_reducible rfl
 simp only[Act.put,zsa,zsz,zss];refine wpAnyH_take (i:=6) (oi:=?o4) (v:=?v4) ?i4 (by kernel_rfl) (by kernel_rfl) (by kernel_rfl) ?q4 ?y4 hH ?_
 case i4=>simp only[zga,zgs,zgz];rfl
 case q4=>exact fun _ _ _ h=>h.elim
 case y4=>refine .inl ⟨by rfl,?_⟩;intro w' hSw;(try dsimp only at hSw);go_simp;try with_reducible rfl
 simp only[Act.put,zsa,zsz,zss];refine wpAnyH_take (i:=7) (oi:=?o5) (v:=?v5) ?i5 (by kernel_rfl) (by kernel_rfl) (by kernel_rfl) ?q5 ?y5 hH ?_
 case i5=>simp only[zga,zgs,zgz];rfl
 case q5=>exact fun _ _ _ h=>h.elim
 case y5=>refine .inl ⟨by rfl,?_⟩;intro w' hSw;(try dsimp only at hSw);go_simp;try with_reducible rfl
 simp only[Act.put,zsa,zsz,zss];refine wpAnyH_ready (rs:=[4,8]) (by kernel_rfl) (by simp) ?_;refine(AllReadyH.cons (o:=?o6) ?i6 (fun K hK=>?g6) (AllReadyH.cons (o:=?o7) ?i7 (fun K hK=>?g7) AllReadyH.nil))
 case i6=>simp only[zga,zgs,zgz];rfl
 case i7=>simp only[zga,zgs,zgz];rfl
 case g6 =>
  go_simp;refine(backward_walk _ N cap CB co (some ⟨CB,co,none⟩) code hn HOK.out.len (fun _=>rfl) (fun i x hx=>(HIN.out i x hx).keep hH.2.2.out) HOK.out.sx).mono ?_;rintro e W3 ⟨NP,rp,rfl,niP,hb3,lp⟩;have HNP:=hidF niP;have HB3:=hidF hb3;have HLP:=hidF lp;clear niP hb3 lp;go_wp2_with fail
  refine hK.out _ _ (⟨keep_cell HB3.out hH.1,keep_cell HB3.out hH.2.1,hidF (bel_trans hH.2.2.out HB3.out)⟩) (fun hN=>?_);clear hK K hH;have hH:=hN;clear hN
  try simp only[Act.put,zsa,zsz,zss]
  refine wpAnyH_ready (rs:=[5,8]) (by kernel_rfl) (by simp) ?_;refine(AllReadyH.cons (o:=?o8) ?i8 (fun K hK=>?g8) (AllReadyH.cons (o:=?o9) ?i9 (fun K hK=>?g9) AllReadyH.nil))
  case i8=>simp only[zga,zgs,zgz];rfl
  case i9=>simp only[zga,zgs,zgz];rfl
  case g8 =>
   go_simp;refine(newSearch_any NP N N (by omega) _).mono ?_;rintro e W4 ⟨rfl,rfl⟩;go_wp2_with fail
   refine hK.out _ _ (⟨keep_alloc (keep_alloc hH.1 _) _,keep_alloc (keep_alloc hH.2.1 _) _,hidF (bel_alloc (bel_alloc hH.2.2.out _) _)⟩) (fun hN=>?_);clear hK K hH;have hH:=hN;clear hN
   try simp only[Act.put,zsa,zsz,zss]
   refine zr (r:=8) (o:=?o10) (by kernel_rfl) ?i10 (fun K hK=>?g10)
   case i10=>simp only[zga,zgs,zgz];rfl
   case g10 =>
    go_simp;refine hK.out _ _ (⟨keep_alloc hH.1 _,keep_alloc hH.2.1 _,hidF (bel_alloc hH.2.2.out _)⟩) (fun hN=>?_);clear hK K hH;have hH:=hN;clear hN
    try simp only[Act.put,zsa,zsz,zss]
    refine wpAnyH_take (i:=9) (oi:=?o11) (v:=?v11) ?i11 (by kernel_rfl) (by kernel_rfl) (by kernel_rfl) ?q11 ?y11 hH ?_
    case i11=>simp only[zga,zgs,zgz];rfl
    case q11=>exact fun _ _ _ h=>h.elim
    case y11=>refine .inl ⟨by rfl,?_⟩;intro w' hSw;(try dsimp only at hSw);go_simp;try with_reducible rfl
    simp only[Act.put,zsa,zsz,zss];refine zr (r:=10) (o:=?o12) (by kernel_rfl) ?i12 (fun K hK=>?g12)
    case i12=>simp only[zga,zgs,zgz];rfl
    case g12 =>
     go_simp;refine hK.out _ _ (⟨keep_alloc hH.1 _,keep_alloc hH.2.1 _,hidF (bel_alloc hH.2.2.out _)⟩) (fun hN=>?_);clear hK K hH;have hH:=hN;clear hN
     try simp only[Act.put,zsa,zsz,zss]
     refine wpAnyH_take (i:=11) (oi:=?o13) (v:=?v13) ?i13 (by kernel_rfl) (by kernel_rfl) (by kernel_rfl) ?q13 ?y13 hH ?_
     case i13=>simp only[zga,zgs,zgz];rfl
     case q13=>exact fun _ _ _ h=>h.elim
     case y13=>refine .inl ⟨by rfl,?_⟩;intro w' hSw;(try dsimp only at hSw);go_simp;try with_reducible rfl
     simp only[Act.put,zsa,zsz,zss];refine wpAnyH_done (by kernel_rfl) ?_ _;clear hH;have hz3:=HB3.out.size;have hlp:=HLP.out;simp at hz3 hlp;refine HK.out _ _ _ _ _ _ _ _ _ _ _ _ (W3.heap.size+1) NP W3.heap.size (W3.heap.size+1+1) rp _ (r1_mk (Wn:=W3) (Wm:=((W3.alloc (.cells (madeCells #[.bool false] N) 4)).alloc (.cells #[.slice (some ⟨NP,0,none⟩) N N,.slice (some ⟨W3.heap.size,0,none⟩) N N] 85))) (Wx:=(((W3.alloc (.cells (madeCells #[.bool false] N) 4)).alloc (.cells #[.slice (some ⟨NP,0,none⟩) N N,.slice (some ⟨W3.heap.size,0,none⟩) N N] 85)).alloc (.cells (madeCells #[.bool false] R) 4))) rfl (by first|rfl|(simp;done)|omega|(simp;omega)|(simp at *;omega)) (by first|rfl|(simp;done)|omega|(simp;omega)|(simp at *;omega)) (by first|rfl|(simp;done)|omega|(simp;omega)|(simp at *;omega)) (by first|rfl|(simp;done)|omega|(simp;omega)|(simp at *;omega)) (bel_alloc (Below.refl _ _) _) (Below.refl _ _) (bel_alloc (bel_alloc (bel_alloc (Below.refl _ _) _) _) _) (bel_alloc (bel_alloc (bel_alloc (bel_trans (Below.drew (Below.refl w1.heap.size w1)) HB3.out) _) _) _) (HNP.out.ext2 (esT_esG code N)) (by first|rfl|(simp;done)|omega|(simp;omega)|(simp at *;omega)) HLP.out (by first|rfl|(simp;done)|omega|(simp;omega)|(simp at *;omega)) (by first|rfl|(simp;done)|omega|(simp;omega)|(simp at *;omega)) (by first|rfl|(simp;done)|omega|(simp;omega)|(simp at *;omega)) (by first|rfl|(simp;done)|omega|(simp;omega)|(simp at *;omega)) hN0)
  case g9 =>
   go_simp;refine hK.out _ _ (⟨keep_alloc hH.1 _,keep_alloc hH.2.1 _,hidF (bel_alloc hH.2.2.out _)⟩) (fun hN=>?_);clear hK K hH;have hH:=hN;clear hN
   try simp only[Act.put,zsa,zsz,zss]
   refine zr (r:=5) (o:=?o14) (by kernel_rfl) ?i14 (fun K hK=>?g14)
   case i14=>simp only[zga,zgs,zgz];rfl
   case g14 =>
    go_simp;refine(newSearch_any NP N N (by omega) _).mono ?_;rintro e W4 ⟨rfl,rfl⟩;go_wp2_with fail
    refine hK.out _ _ (⟨keep_alloc (keep_alloc hH.1 _) _,keep_alloc (keep_alloc hH.2.1 _) _,hidF (bel_alloc (bel_alloc hH.2.2.out _) _)⟩) (fun hN=>?_);clear hK K hH;have hH:=hN;clear hN
    try simp only[Act.put,zsa,zsz,zss]
    refine wpAnyH_take (i:=9) (oi:=?o15) (v:=?v15) ?i15 (by kernel_rfl) (by kernel_rfl) (by kernel_rfl) ?q15 ?y15 hH ?_
    case i15=>simp only[zga,zgs,zgz];rfl
    case q15=>exact fun _ _ _ h=>h.elim
    case y15=>refine .inl ⟨by rfl,?_⟩;intro w' hSw;(try dsimp only at hSw);go_simp;try with_reducible rfl
    simp only[Act.put,zsa,zsz,zss];refine zr (r:=10) (o:=?o16) (by kernel_rfl) ?i16 (fun K hK=>?g16)
    case i16=>simp only[zga,zgs,zgz];rfl
    case g16 =>
     go_simp;refine hK.out _ _ (⟨keep_alloc hH.1 _,keep_alloc hH.2.1 _,hidF (bel_alloc hH.2.2.out _)⟩) (fun hN=>?_);clear hK K hH;have hH:=hN;clear hN
     try simp only[Act.put,zsa,zsz,zss]
     refine wpAnyH_take (i:=11) (oi:=?o17) (v:=?v17) ?i17 (by kernel_rfl) (by kernel_rfl) (by kernel_rfl) ?q17 ?y17 hH ?_
     case i17=>simp only[zga,zgs,zgz];rfl
     case q17=>exact fun _ _ _ h=>h.elim
     case y17=>refine .inl ⟨by rfl,?_⟩;intro w' hSw;(try dsimp only at hSw);go_simp;try with_reducible rfl
     simp only[Act.put,zsa,zsz,zss];refine wpAnyH_done (by kernel_rfl) ?_ _;clear hH;have hz3:=HB3.out.size;have hlp:=HLP.out;simp at hz3 hlp;refine HK.out _ _ _ _ _ _ _ _ _ _ _ _ (W3.heap.size+1+1) NP (W3.heap.size+1) W3.heap.size rp _ (r1_mk (Wn:=(W3.alloc (.cells (madeCells #[.bool false] R) 4))) (Wm:=W3) (Wx:=(((W3.alloc (.cells (madeCells #[.bool false] R) 4)).alloc (.cells (madeCells #[.bool false] N) 4)).alloc (.cells #[.slice (some ⟨NP,0,none⟩) N N,.slice (some ⟨(W3.heap.size+1),0,none⟩) N N] 85))) rfl (by first|rfl|(simp;done)|omega|(simp;omega)|(simp at *;omega)) (by first|rfl|(simp;done)|omega|(simp;omega)|(simp at *;omega)) (by first|rfl|(simp;done)|omega|(simp;omega)|(simp at *;omega)) (by first|rfl|(simp;done)|omega|(simp;omega)|(simp at *;omega)) (Below.refl _ _) (bel_alloc (bel_alloc (Below.refl _ _) _) _) (bel_alloc (bel_alloc (bel_alloc (Below.refl _ _) _) _) _) (bel_alloc (bel_alloc (bel_alloc (bel_trans (Below.drew (Below.refl w1.heap.size w1)) HB3.out) _) _) _) (HNP.out.ext2 (esT_esG code N)) (by first|rfl|(simp;done)|omega|(simp;omega)|(simp at *;omega)) HLP.out (by first|rfl|(simp;done)|omega|(simp;omega)|(simp at *;omega)) (by first|rfl|(simp;done)|omega|(simp;omega)|(simp at *;omega)) (by first|rfl|(simp;done)|omega|(simp;omega)|(simp at *;omega)) (by first|rfl|(simp;done)|omega|(simp;omega)|(simp at *;omega)) hN0)
 case g7 =>
  go_simp;refine hK.out _ _ (⟨keep_alloc hH.1 _,keep_alloc hH.2.1 _,hidF (bel_alloc hH.2.2.out _)⟩) (fun hN=>?_);clear hK K hH;have hH:=hN;clear hN
  try simp only[Act.put,zsa,zsz,zss]
  refine zr (r:=4) (o:=?o18) (by kernel_rfl) ?i18 (fun K hK=>?g18)
  case i18=>simp only[zga,zgs,zgz];rfl
  case g18 =>
   go_simp;refine(backward_walk _ N cap CB co (some ⟨CB,co,none⟩) code hn HOK.out.len (fun _=>rfl) (fun i x hx=>(HIN.out i x hx).keep hH.2.2.out) HOK.out.sx).mono ?_;rintro e W3 ⟨NP,rp,rfl,niP,hb3,lp⟩;have HNP:=hidF niP;have HB3:=hidF hb3;have HLP:=hidF lp;clear niP hb3 lp;go_wp2_with fail
   refine hK.out _ _ (⟨keep_cell HB3.out hH.1,keep_cell HB3.out hH.2.1,hidF (bel_trans hH.2.2.out HB3.out)⟩) (fun hN=>?_);clear hK K hH;have hH:=hN;clear hN
   try simp only[Act.put,zsa,zsz,zss]
   refine zr (r:=5) (o:=?o19) (by kernel_rfl) ?i19 (fun K hK=>?g19)
   case i19=>simp only[zga,zgs,zgz];rfl
   case g19 =>
    go_simp;refine(newSearch_any NP N N (by omega) _).mono ?_;rintro e W4 ⟨rfl,rfl⟩;go_wp2_with fail
    refine hK.out _ _ (⟨keep_alloc (keep_alloc hH.1 _) _,keep_alloc (keep_alloc hH.2.1 _) _,hidF (bel_alloc (bel_alloc hH.2.2.out _) _)⟩) (fun hN=>?_);clear hK K hH;have hH:=hN;clear hN
    try simp only[Act.put,zsa,zsz,zss]
    refine wpAnyH_take (i:=9) (oi:=?o20) (v:=?v20) ?i20 (by kernel_rfl) (by kernel_rfl) (by kernel_rfl) ?q20 ?y20 hH ?_
    case i20=>simp only[zga,zgs,zgz];rfl
    case q20=>exact fun _ _ _ h=>h.elim
    case y20=>refine .inl ⟨by rfl,?_⟩;intro w' hSw;(try dsimp only at hSw);go_simp;try with_reducible rfl
    simp only[Act.put,zsa,zsz,zss];refine zr (r:=10) (o:=?o21) (by kernel_rfl) ?i21 (fun K hK=>?g21)
    case i21=>simp only[zga,zgs,zgz];rfl
    case g21 =>
     go_simp;refine hK.out _ _ (⟨keep_alloc hH.1 _,keep_alloc hH.2.1 _,hidF (bel_alloc hH.2.2.out _)⟩) (fun hN=>?_);clear hK K hH;have hH:=hN;clear hN
     try simp only[Act.put,zsa,zsz,zss]
     refine wpAnyH_take (i:=11) (oi:=?o22) (v:=?v22) ?i22 (by kernel_rfl) (by kernel_rfl) (by kernel_rfl) ?q22 ?y22 hH ?_
     case i22=>simp only[zga,zgs,zgz];rfl
     case q22=>exact fun _ _ _ h=>h.elim
     case y22=>refine .inl ⟨by rfl,?_⟩;intro w' hSw;(try dsimp only at hSw);go_simp;try with_reducible rfl
     simp only[Act.put,zsa,zsz,zss];refine wpAnyH_done (by kernel_rfl) ?_ _;clear hH;have hz3:=HB3.out.size;have hlp:=HLP.out;simp at hz3 hlp;refine HK.out _ _ _ _ _ _ _ _ _ _ _ _ (W3.heap.size+1) NP W3.heap.size w1.heap.size rp _ (r1_mk (Wn:=W3) (Wm:=w1.drew) (Wx:=((W3.alloc (.cells (madeCells #[.bool false] N) 4)).alloc (.cells #[.slice (some ⟨NP,0,none⟩) N N,.slice (some ⟨W3.heap.size,0,none⟩) N N] 85))) rfl (by first|rfl|(simp;done)|omega|(simp;omega)|(simp at *;omega)) (by first|rfl|(simp;done)|omega|(simp;omega)|(simp at *;omega)) (by first|rfl|(simp;done)|omega|(simp;omega)|(simp at *;omega)) (by first|rfl|(simp;done)|omega|(simp;omega)|(simp at *;omega)) (Below.refl _ _) (bel_alloc (bel_alloc HB3.out _) _) (bel_alloc (bel_alloc (Below.refl _ _) _) _) (bel_alloc (bel_alloc (bel_trans (bel_alloc (Below.drew (Below.refl w1.heap.size w1)) _) HB3.out) _) _) (HNP.out.ext2 (esT_esG code N)) (by first|rfl|(simp;done)|omega|(simp;omega)|(simp at *;omega)) HLP.out (by first|rfl|(simp;done)|omega|(simp;omega)|(simp at *;omega)) (by first|rfl|(simp;done)|omega|(simp;omega)|(simp at *;omega)) (by first|rfl|(simp;done)|omega|(simp;omega)|(simp at *;omega)) (by first|rfl|(simp;done)|omega|(simp;omega)|(simp at *;omega)) hN0)
theorem NI.rop {B NB n:Nat} {rv:Nat→Value} {g:Nat→List Nat} {W:World} {P:Nat→Prop} (h:NI B NB n rv g W) (hg:∀ r,(g r).length≤1000000000000) (hnb:0<n→P NB) (hbl:∀ i,i<n→∀ b,(rv i).ownBlock=some b→P b):ROp W NB n rv g P :=
 ⟨fun i hi=>(h.cell i hi).1,fun i hi=>IL.ownF (l:=up (g i)) (by rw[up_length];exact h.own i hi) (by rw[up_length];have:=hg i;omega),hnb,fun i hi b o s k c e=>hbl i hi b (by rw[e];rfl)⟩
theorem SwS.pop {s:SwN} {c:List Ins} {wt:List Nat} {a:Option Addr} {cap x:Nat} {W:World} (h:SwS s c (wt++[x]) (.slice a (wt.length+1) cap) W) (hf:SwF s) :
  SwS s c wt (.slice a wt.length cap) ((W.setCell ⟨s.SB,4,none⟩ (.slice a wt.length cap)).setCell ⟨s.WB,x,none⟩ (.bool false)):=by
 have hl:=hf.lt;have hd:=hf.d1;have hsz:=h.size
 have ho1:W.ownsRow s.wB.heap.size 3 1 (.slice a (wt.length+1) cap) (wt.length+1) (intsF (up wt)++[.int .i64 x]):=by
  have q:=h.ow;rw[List.length_append,up_append,ints_append] at q;exact q
 have ho:=ownsRow_pop ho1;have hx:x<s.R:=h.wl x (by simp);have hb:∀ k,k≠s.SB→k≠s.WB→((W.setCell ⟨s.SB,4,none⟩ (.slice a wt.length cap)).setCell ⟨s.WB,x,none⟩ (.bool false)).heap[k]? = W.heap[k]? := fun k q1 q2=>(gset_otherF q2).trans (gset_otherF q1)
 have kc:∀ {o:Nat} {u:Value},o≠4→W.cell? ⟨s.SB,o,none⟩=some u→((W.setCell ⟨s.SB,4,none⟩ (.slice a wt.length cap)).setCell ⟨s.WB,x,none⟩ (.bool false)).cell? ⟨s.SB,o,none⟩=some u:=fun q1 q=>by
  rw[World.cell?_setCell_other _ _ _ _ (fun e=>hd.2.2.1 (congrArg Addr.block e).symm),World.cell?_setCell_other _ _ _ _ (fun e=>q1 (by cases e;rfl))];exact q
 have hP:∀ k,s.P k→((W.setCell ⟨s.SB,4,none⟩ (.slice a wt.length cap)).setCell ⟨s.WB,x,none⟩ (.bool false)).heap[k]? = W.heap[k]? := fun k hp=>hb k hp.2.1 hp.2.2.2.2;have hnd:=List.nodup_append.1 h.nd;refine⟨h.os,h.tape,h.output,by rw[gsize_setF,gsize_setF];exact h.size,fun k hp=>(hP k hp).trans (h.ag k hp),kc (by decide) h.s0,kc (by decide) h.s1,kc (by decide) h.s2,kc (by decide) h.s3,?_,kc (by decide) h.s5,?_,h.len,fun n y hy=>(h.code n y hy).of (fun k hl=>hP k (hf.lp k hl)) (hb s.CB (Ne.symm hd.1) hd.2.2.2.2.1),?_,?_,ownsRow_blk ho (fun b q=>hb b (by have:=(ho.lt b q).1;omega) (by have:=(ho.lt b q).1;omega)),hnd.1,fun r hr=>h.wl r (by simp[hr])⟩
 ·rw[World.cell?_setCell_other _ _ _ _ (fun e=>hd.2.2.1 (congrArg Addr.block e).symm)]
  exact World.cell?_setCell_same _ _ _ h.s4
 ·rw[World.frozen?_setCell,World.frozen?_setCell];exact h.z4
 ·obtain⟨m,hm⟩:=h.mt
  exact⟨m,hm.of (hb s.MB (Ne.symm hd.2.1) hd.2.2.2.2.2)⟩
 ·refine(h.ws.of (w':=W.setCell ⟨s.SB,4,none⟩ (.slice a wt.length cap)) (gset_otherF (Ne.symm hd.2.2.1))).setB (fun q=>?_)
  rw[cons_contains]
  by_cases e:q=x
  ·subst e
   have:q ∉ wt:=fun hq=>hnd.2.2 q hq q (by simp) rfl;simp[this]
  ·simp[e]
theorem sp_made {w1 W4 W5:World} {CB co cap N R SB XB NP MB WB NR NW:Nat} {code:List Ins} {rr rw rp:Nat→Value} {L:Nat→Prop} (hr:R1S w1 CB co cap N R code SB XB NP MB WB rp W4) (t1:NI W4.heap.size NR R rr (gOf (esG usX code N)) W5) (t2:NI W4.heap.size NW R rw (gOf (esG wrX code N)) W5) (hb:Below W4.heap.size W4 W5) (l1:W4.heap.size≤NR) (l2:W4.heap.size≤NW)
  (hok:CodeOkS R N code) (hcode:∀ (n:Nat) x,code[n]? = some x→InsW L w1 CB co n x) (hL:∀ k,L k→k<w1.heap.size∧k≠CB) (hCB:CB<w1.heap.size) (hn:N≤100000) (hR:R≤1000000) (hN0:0<N) :
  SwF ⟨((W5.setCell ⟨SB,2,none⟩ (.slice (some ⟨NR,0,none⟩) R R)).setCell ⟨SB,3,none⟩ (.slice (some ⟨NW,0,none⟩) R R)),SB,CB,co,cap,XB,MB,NP,NR,NW,WB,N,R,code,rr,rw,rp,L⟩∧SwS ⟨((W5.setCell ⟨SB,2,none⟩ (.slice (some ⟨NR,0,none⟩) R R)).setCell ⟨SB,3,none⟩ (.slice (some ⟨NW,0,none⟩) R R)),SB,CB,co,cap,XB,MB,NP,NR,NW,WB,N,R,code,rr,rw,rp,L⟩ code [] (.slice none 0 0) ((W5.setCell ⟨SB,2,none⟩ (.slice (some ⟨NR,0,none⟩) R R)).setCell ⟨SB,3,none⟩ (.slice (some ⟨NW,0,none⟩) R R))∧∀ k,k<w1.heap.size→((W5.setCell ⟨SB,2,none⟩ (.slice (some ⟨NR,0,none⟩) R R)).setCell ⟨SB,3,none⟩ (.slice (some ⟨NW,0,none⟩) R R)).heap[k]? = w1.heap[k]? := by
 have g:=hr.ge;have hlt:=hr.lt;have ne:=hr.ne;have hbs:=hb.size;have h1s:=hr.bel.size;have hsz:((W5.setCell ⟨SB,2,none⟩ (.slice (some ⟨NR,0,none⟩) R R)).setCell ⟨SB,3,none⟩ (.slice (some ⟨NW,0,none⟩) R R)).heap.size=W5.heap.size:=by rw[gsize_setF,gsize_setF]
 have hk:∀ k,k≠SB→((W5.setCell ⟨SB,2,none⟩ (.slice (some ⟨NR,0,none⟩) R R)).setCell ⟨SB,3,none⟩ (.slice (some ⟨NW,0,none⟩) R R)).heap[k]? = W5.heap[k]? := fun k q=>(gset_otherF q).trans (gset_otherF q);have hk4:∀ k,k<W4.heap.size→k≠SB→((W5.setCell ⟨SB,2,none⟩ (.slice (some ⟨NR,0,none⟩) R R)).setCell ⟨SB,3,none⟩ (.slice (some ⟨NW,0,none⟩) R R)).heap[k]? = W4.heap[k]? := fun k q1 q2=>(hk k q2).trans (hb.block k q1);have hk1:∀ k,k<w1.heap.size→((W5.setCell ⟨SB,2,none⟩ (.slice (some ⟨NR,0,none⟩) R R)).setCell ⟨SB,3,none⟩ (.slice (some ⟨NW,0,none⟩) R R)).heap[k]? = w1.heap[k]? := fun k q=>(hk4 k (by omega) (by omega)).trans (hr.bel.block k q);have HU:∀ r,(gOf (esG usX code N) r).length≤1000000000000:=fun r=>Nat.le_trans (gOf_length _ _) (hok.lu N (Nat.le_refl _));have HW:∀ r,(gOf (esG wrX code N) r).length≤1000000000000:=fun r=>Nat.le_trans (gOf_length _ _) (by have:=esW_lengthS code N;omega)
 have HS:∀ r,(gOf (esG sxF code N) r).length≤1000000000000:=fun r=>by
  rw[←esT_esG code N];exact Nat.le_trans (gOf_length _ _) (by have:=esT_length code N;omega)
 have c4:∀ {o:Nat} {u:Value},o≠2→o≠3→W4.cell? ⟨SB,o,none⟩=some u→((W5.setCell ⟨SB,2,none⟩ (.slice (some ⟨NR,0,none⟩) R R)).setCell ⟨SB,3,none⟩ (.slice (some ⟨NW,0,none⟩) R R)).cell? ⟨SB,o,none⟩=some u:=fun q2 q3 q=>by
  rw[World.cell?_setCell_other _ _ _ _ (fun e=>q3 (by cases e;rfl)),World.cell?_setCell_other _ _ _ _ (fun e=>q2 (by cases e;rfl))];exact keep_cell hb q
 have hrowlt:∀ i,i<N→∀ b,(rp i).ownBlock=some b→w1.heap.size≤b∧b<W4.heap.size:=fun i hi b q=>(hr.ni.own i hi).lt b q;have hNRl:0<R→NR<W5.heap.size:=fun h=>block_lt_of_cell (t1.cell 0 h).1;have hNWl:0<R→NW<W5.heap.size:=fun h=>block_lt_of_cell (t2.cell 0 h).1;have hPn:∀ k,W4.heap.size≤k→k<W5.heap.size→SwN.P ⟨((W5.setCell ⟨SB,2,none⟩ (.slice (some ⟨NR,0,none⟩) R R)).setCell ⟨SB,3,none⟩ (.slice (some ⟨NW,0,none⟩) R R)),SB,CB,co,cap,XB,MB,NP,NR,NW,WB,N,R,code,rr,rw,rp,L⟩ k:=fun k q1 q2=>⟨by show k<((W5.setCell ⟨SB,2,none⟩ (.slice (some ⟨NR,0,none⟩) R R)).setCell ⟨SB,3,none⟩ (.slice (some ⟨NW,0,none⟩) R R)).heap.size;rw[hsz];exact q2,by show k≠SB;omega,by show k≠CB;omega,by show k≠MB;omega,by show k≠WB;omega⟩
 have ni1:NI W4.heap.size NR R rr (gOf (esG usX code N)) ((W5.setCell ⟨SB,2,none⟩ (.slice (some ⟨NR,0,none⟩) R R)).setCell ⟨SB,3,none⟩ (.slice (some ⟨NW,0,none⟩) R R)):=t1.blk (fun k q=>hk k (by
  rcases q with ⟨_,e⟩|⟨i,hi,e⟩
  ·omega
  ·have:=(t1.own i hi).lt k e;omega))
 have ni2:NI W4.heap.size NW R rw (gOf (esG wrX code N)) ((W5.setCell ⟨SB,2,none⟩ (.slice (some ⟨NR,0,none⟩) R R)).setCell ⟨SB,3,none⟩ (.slice (some ⟨NW,0,none⟩) R R)):=t2.blk (fun k q=>hk k (by
  rcases q with ⟨_,e⟩|⟨i,hi,e⟩
  ·omega
  ·have:=(t2.own i hi).lt k e;omega))
 have ni3:NI w1.heap.size NP N rp (gOf (esG sxF code N)) ((W5.setCell ⟨SB,2,none⟩ (.slice (some ⟨NR,0,none⟩) R R)).setCell ⟨SB,3,none⟩ (.slice (some ⟨NW,0,none⟩) R R)):=hr.ni.blk (fun k q=>by
  rcases q with ⟨_,e⟩|⟨i,hi,e⟩
  ·exact hk4 k (by omega) (by omega)
  ·exact hk4 k (hrowlt i hi k e).2 (hr.row i hi k e).1)
 refine⟨⟨?_,?_,?_,ni1.rop HU (fun h=>hPn _ l1 (hNRl h)) (fun i hi b q=>?_),ni2.rop HW (fun h=>hPn _ l2 (hNWl h)) (fun i hi b q=>?_),ni3.rop HS (fun h=>?_) (fun i hi b q=>?_),⟨by show SB≠CB;omega,by show SB≠MB;omega,by show SB≠WB;omega,by show CB≠MB;omega,by show CB≠WB;omega,by show MB≠WB;omega⟩,?_,⟨hn,hR⟩,hok.len,⟨fun x hx y hy=>(hok.us x hx y hy).1,fun x hx y hy=>(hok.wr x hx y hy).1,fun x hx y hy=>(hok.sx x hx y hy).1⟩,hok.us,hok.sx,HU,HW,fun k q=>?_⟩,⟨rfl,rfl,rfl,Nat.le_refl _,fun _ _=>rfl,c4 (by decide) (by decide) hr.s0,c4 (by decide) (by decide) hr.s1,?_,?_,c4 (by decide) (by decide) hr.s4,c4 (by decide) (by decide) hr.s5,?_,hok.len,fun n x hx=>?_,⟨_,(hr.mb.of (hk4 MB (by omega) (by omega)))⟩,?_,World.ownsRow_nil _ _ _ _,List.nodup_nil,fun r hr=>by cases hr⟩,hk1⟩
 ·exact cell_of hr.x0 (fun _=>hk4 XB (by omega) (by omega))
 ·exact cell_of hr.x1 (fun _=>hk4 XB (by omega) (by omega))
 ·exact⟨by show XB<((W5.setCell ⟨SB,2,none⟩ (.slice (some ⟨NR,0,none⟩) R R)).setCell ⟨SB,3,none⟩ (.slice (some ⟨NW,0,none⟩) R R)).heap.size;rw[hsz];omega,by show XB≠SB;omega,by show XB≠CB;omega,by show XB≠MB;omega,by show XB≠WB;omega⟩
 ·have:=(t1.own i hi).lt b q;exact hPn b this.1 this.2
 ·have:=(t2.own i hi).lt b q;exact hPn b this.1 this.2
 ·exact⟨by show NP<((W5.setCell ⟨SB,2,none⟩ (.slice (some ⟨NR,0,none⟩) R R)).setCell ⟨SB,3,none⟩ (.slice (some ⟨NW,0,none⟩) R R)).heap.size;rw[hsz];omega,by show NP≠SB;omega,by show NP≠CB;omega,by show NP≠MB;omega,by show NP≠WB;omega⟩
 ·have h1:=hrowlt i hi b q
  have h2:=hr.row i hi b q;exact⟨by show b<((W5.setCell ⟨SB,2,none⟩ (.slice (some ⟨NR,0,none⟩) R R)).setCell ⟨SB,3,none⟩ (.slice (some ⟨NW,0,none⟩) R R)).heap.size;rw[hsz];omega,h2.1,by show b≠CB;omega,h2.2.1,h2.2.2⟩
 ·show SB<((W5.setCell ⟨SB,2,none⟩ (.slice (some ⟨NR,0,none⟩) R R)).setCell ⟨SB,3,none⟩ (.slice (some ⟨NW,0,none⟩) R R)).heap.size∧CB<((W5.setCell ⟨SB,2,none⟩ (.slice (some ⟨NR,0,none⟩) R R)).setCell ⟨SB,3,none⟩ (.slice (some ⟨NW,0,none⟩) R R)).heap.size∧MB<((W5.setCell ⟨SB,2,none⟩ (.slice (some ⟨NR,0,none⟩) R R)).setCell ⟨SB,3,none⟩ (.slice (some ⟨NW,0,none⟩) R R)).heap.size∧WB<((W5.setCell ⟨SB,2,none⟩ (.slice (some ⟨NR,0,none⟩) R R)).setCell ⟨SB,3,none⟩ (.slice (some ⟨NW,0,none⟩) R R)).heap.size
  rw[hsz];exact⟨by omega,by omega,by omega,by omega⟩
 ·have h1:=hL k q
  exact⟨by show k<((W5.setCell ⟨SB,2,none⟩ (.slice (some ⟨NR,0,none⟩) R R)).setCell ⟨SB,3,none⟩ (.slice (some ⟨NW,0,none⟩) R R)).heap.size;rw[hsz];omega,by show k≠SB;omega,h1.2,by show k≠MB;omega,by show k≠WB;omega⟩
 ·show ((W5.setCell ⟨SB,2,none⟩ (.slice (some ⟨NR,0,none⟩) R R)).setCell ⟨SB,3,none⟩ (.slice (some ⟨NW,0,none⟩) R R)).cell? ⟨SB,2,none⟩=_
  rw[World.cell?_setCell_other _ _ _ _ (fun e=>by cases e)];exact World.cell?_setCell_same _ _ _ (keep_cell hb hr.s2)
 ·show ((W5.setCell ⟨SB,2,none⟩ (.slice (some ⟨NR,0,none⟩) R R)).setCell ⟨SB,3,none⟩ (.slice (some ⟨NW,0,none⟩) R R)).cell? ⟨SB,3,none⟩=_
  exact World.cell?_setCell_same _ _ _ (by rw[World.cell?_setCell_other _ _ _ _ (fun e=>by cases e)];exact keep_cell hb hr.s3)
 ·show ((W5.setCell ⟨SB,2,none⟩ (.slice (some ⟨NR,0,none⟩) R R)).setCell ⟨SB,3,none⟩ (.slice (some ⟨NW,0,none⟩) R R)).frozen? ⟨SB,4,none⟩=false
  rw[World.frozen?_setCell,World.frozen?_setCell];exact keep_frozen hb hr.s4 hr.z4
 ·exact(hcode n x hx).of (w':=((W5.setCell ⟨SB,2,none⟩ (.slice (some ⟨NR,0,none⟩) R R)).setCell ⟨SB,3,none⟩ (.slice (some ⟨NW,0,none⟩) R R))) (fun k q=>hk1 k (hL k q).1) (hk1 CB hCB)
 ·intro i hi
  have q:=hr.wb.of (w':=((W5.setCell ⟨SB,2,none⟩ (.slice (some ⟨NR,0,none⟩) R R)).setCell ⟨SB,3,none⟩ (.slice (some ⟨NW,0,none⟩) R R))) (hk4 WB (by omega) (by omega)) i hi;exact⟨q.1.trans (by simp),q.2⟩
set_option maxHeartbeats 16000000
theorem wp_calmS {P:Program} {c:Code} {K:Act→World→Prop} {QQ:Exit→Act→World→Prop} {a:Act} {w:World} (h:Code.wp P c (Exit.then K (fun _ _ _=>False)) a w):Code.wp P c (Exit.then K QQ) a w :=
 Go.wp_mono h (fun e a w hq=>by cases e<;>first|exact hq|exact hq.elim)
theorem shtab_lt {w:World} (h:ShTab w):0<w.heap.size:=block_lt_of_cell (h 0 (by omega)).1
theorem shtab_blk {w w':World} (h:ShTab w) (e:w'.heap[0]? = w.heap[0]?):ShTab w':=fun n hn=>by
 obtain⟨h0,h1,h2,h3,h4,h5,h6,h7,h8⟩:=h n hn;exact⟨cell_of h0 (fun _=>e),cell_of h1 (fun _=>e),cell_of h2 (fun _=>e),cell_of h3 (fun _=>e),cell_of h4 (fun _=>e),cell_of h5 (fun _=>e),cell_of h6 (fun _=>e),cell_of h7 (fun _=>e),cell_of h8 (fun _=>e)⟩
theorem least_of {p:Nat→Prop}:∀ n,p n→∃ m,p m∧∀ k,p k→m≤k:=fun n=>by
 induction n using Nat.strongRecOn with
 |_ n ih =>
  intro h
  by_cases q:∃ k,k<n∧p k
  ·obtain⟨k,hk,hp⟩:=q
   exact ih k hk hp
  ·exact⟨n,h,fun k hk=>Nat.le_of_not_lt fun hl=>q ⟨k,hl,hk⟩⟩
def MJ (s:SwN) (m:Nat) (W:World):Prop:=∃ c wt vw,SwS s c wt vw W∧Cur s.c0 c∧Calm s.R (fun q=>q∈wt) (fun _=>False) c∧(c=s.c0∨∃ q n,DeadAt s.c0 q n)∧m=(s.R+1)*busy c+wt.length
noncomputable def mm (s:SwN) (W:World):Nat:=Classical.epsilon fun m=>MJ s m W∧∀ k,MJ s k W→m≤k
theorem mm_spec {s:SwN} {W:World} (h:∃ m,MJ s m W):MJ s (mm s W) W∧∀ k,MJ s k W→mm s W≤k:=by
 obtain⟨m,hm⟩:=h;exact Classical.epsilon_spec (least_of (p:=fun m=>MJ s m W) m hm)
theorem lt_busy {R a b k l:Nat} (h:a<b) (hk:k≤R):(R+1)*a+k<(R+1)*b+l:=by
 have h1:(R+1)*(a+1)≤(R+1)*b:=Nat.mul_le_mul_left _ h;rw[Nat.mul_add,Nat.mul_one] at h1
 omega
theorem MJ.asked {s:SwN} {c c':List Ins} {ini wt':List Nat} {x:Nat} {vw':Value} {W':World} (g1:SwS s c' wt' vw' W') (g2:Cur s.c0 c') (g3:Calm s.R (fun q=>q∈wt') (fun _=>False) c') (g4:(c'=c∧wt'=ini)∨(busy c'<busy c∧∃ n,DeadAt c x n)) (he:c=s.c0∨∃ q n,DeadAt s.c0 q n):∃ m,MJ s m W'∧m<(s.R+1)*busy c+(ini.length+1):=by
 rcases g4 with ⟨e1,e2⟩|⟨e1,n,e2⟩
 ·exact⟨_,⟨c',wt',vw',g1,g2,g3,by rw[e1];exact he,rfl⟩,by rw[e1,e2];omega⟩
 ·refine⟨_,⟨c',wt',vw',g1,g2,g3,.inr ?_,rfl⟩,lt_busy e1 (nodup_bound g1.nd g1.wl)⟩
  rcases he with q|q
  ·exact⟨x,n,by rw[←q];exact e2⟩
  ·exact q
def retSw (L:Nat→Prop) (CB co R:Nat) (code:List Ins) (w:World):Ending→World→Prop:=fun e W'=>e=.returned (.tuple #[])∧∃ c',(∀ (n:Nat) x,c'[n]? = some x→InsW L W' CB co n x)∧Cur code c'∧(∀ r,r<R→∀ n,¬ DeadAt c' r n)∧(c'=code∨∃ q n,DeadAt code q n)∧(∀ k,k<w.heap.size→k≠CB→W'.heap[k]? = w.heap[k]?)∧w.heap.size≤W'.heap.size∧W'.os=w.os∧W'.tape=w.tape∧W'.output=w.output
theorem MJ.over {s:SwN} {c:List Ins} {vw:Value} {w W:World} {code:List Ins} {CB co R:Nat} {L:Nat→Prop} (hs:SwS s c [] vw W) (hc:Cur s.c0 c) (hm:Calm s.R (fun q=>q∈([]:List Nat)) (fun _=>False) c) (he:c=s.c0∨∃ q n,DeadAt s.c0 q n) (e0:s.c0=code) (eC:s.CB=CB) (eo:s.co=co) (eR:s.R=R) (eL:s.L=L) (hb:∀ k,k<w.heap.size→k≠CB→s.P k∧s.wB.heap[k]? = w.heap[k]?) (hz:w.heap.size≤s.wB.heap.size) (ho:s.wB.os=w.os) (ht:s.wB.tape=w.tape) (hu:s.wB.output=w.output):retSw L CB co R code w (.returned (.tuple #[])) W:=by
 subst e0 eC eo eR eL;exact⟨rfl,c,fun n x hx=>hs.code n x hx,hc,fun r hr n=>hm r hr (by simp) (fun h=>h) n,he,fun k h1 h2=>(hs.ag k (hb k h1 h2).1).trans (hb k h1 h2).2,Nat.le_trans hz hs.size,hs.os.trans ho,hs.tape.trans ht,hs.output.trans hu⟩
theorem sweep_walk (w:World) (fname:ByteArray) (pa:Option Addr) (pn pc:Nat) (frm ent:Int) (R N cap CB co:Nat) (code:List Ins) (hR:R≤1000000) (hn:N≤100000) (hN0:0<N) (HOK:Hid (CodeOkS R N code)) (L:Nat→Prop) (HLL:Hid (∀ k,L k→k<w.heap.size∧k≠CB)) (HC:Hid (∀ (n:Nat) x,code[n]? = some x→InsW L w CB co n x)) (hCB:CB<w.heap.size) (HSH:Hid (ShTab w)) (hG:CB≠0) :
  Calls prog 18 #[.agg #[.string fname,.slice pa pn pc,.int .i64 (R:Int),.int .i64 frm,.int .i64 ent,.slice (some ⟨CB,co,none⟩) N cap]] w (retSw L CB co R code w):=by
 obtain⟨W1,hW1⟩:∃ W1,w.alloc (.cells #[.string fname,.slice pa pn pc,.int .i64 (R:Int),.int .i64 frm,.int .i64 ent,.slice (some ⟨CB,co,none⟩) N cap] 25)=W1:=⟨_,rfl⟩;have hb1:Below w.heap.size w W1:=by rw[←hW1];exact bel_alloc (Below.refl _ _) _
 have hs1:W1.heap.size=w.heap.size+1:=by rw[←hW1];exact World.size_alloc _ _
 have d0:W1.cell? ⟨w.heap.size,0,none⟩=some (.string fname):=by rw[←hW1];simp
 have d1:W1.cell? ⟨w.heap.size,1,none⟩=some (.slice pa pn pc):=by rw[←hW1];simp
 have d2:W1.cell? ⟨w.heap.size,2,none⟩=some (.int .i64 (R:Int)):=by rw[←hW1];simp
 have d3:W1.cell? ⟨w.heap.size,3,none⟩=some (.int .i64 frm):=by rw[←hW1];simp
 have d4:W1.cell? ⟨w.heap.size,4,none⟩=some (.int .i64 ent):=by rw[←hW1];simp
 have d5:W1.cell? ⟨w.heap.size,5,none⟩=some (.slice (some ⟨CB,co,none⟩) N cap):=by rw[←hW1];simp
 have HB1:=hidF hb1;have HD:Hid (W1.cell? ⟨w.heap.size,0,none⟩=some (.string fname)∧W1.cell? ⟨w.heap.size,1,none⟩=some (.slice pa pn pc)∧W1.cell? ⟨w.heap.size,2,none⟩=some (.int .i64 (R:Int))∧W1.cell? ⟨w.heap.size,3,none⟩=some (.int .i64 frm)∧W1.cell? ⟨w.heap.size,4,none⟩=some (.int .i64 ent)∧W1.cell? ⟨w.heap.size,5,none⟩=some (.slice (some ⟨CB,co,none⟩) N cap)):=⟨d0,d1,d2,d3,d4,d5⟩;have HC1:Hid (∀ (n:Nat) x,code[n]? = some x→InsW L W1 CB co n x):=fun n x hx=>(HC.out n x hx).of (w':=W1) (fun k q=>HB1.out.block k (HLL.out k q).1) (HB1.out.block CB hCB);have HIN1:Hid (∀ (i:Nat) x,code[i]? = some x→InsAt W1 CB (co+i*9) x):=fun i x hx=>(HC1.out i x hx).ins;have HLW:Hid (∀ i,i≤N→(esG wrX code i).length≤1000000000000):=fun i hi=>by have:=esW_lengthS code i;omega
 clear hb1
 go_enter func18,ntmps18
 go_upto_region 1 with fail
 refine wp_calmS ?_;refine sp_r1 w.heap.size CB co cap N R code _ _ _ _ _ _ _ _ _ _ _ _ _ _ _ _ _ _ _ _ _ _ _ _ _ _ _ _ _ _ _ _ _ _ _ _ _ _ _ _ _ _ _ _ _ _ _ _ _ _ _ _ _ _ _ _ _ _ _ _ _ _ _ _ _ _ _ _ _ _ _ _ _ _ W1 hn hN0 hR HOK HIN1 d5 d2 ?_;intro y6 y7 y8 y9 y10 y11 y12 y13 y14 y15 y16 SB XB NP MB WB rp W4 hr1;clear hW1 d0 d1 d2 d3 d4 d5
 obtain⟨f0,f1,f2,f3,f4,f5⟩:W4.cell? ⟨w.heap.size,0,none⟩=some (.string fname)∧W4.cell? ⟨w.heap.size,1,none⟩=some (.slice pa pn pc)∧W4.cell? ⟨w.heap.size,2,none⟩=some (.int .i64 (R:Int))∧W4.cell? ⟨w.heap.size,3,none⟩=some (.int .i64 frm)∧W4.cell? ⟨w.heap.size,4,none⟩=some (.int .i64 ent)∧W4.cell? ⟨w.heap.size,5,none⟩=some (.slice (some ⟨CB,co,none⟩) N cap):=by
  obtain⟨d0,d1,d2,d3,d4,d5⟩:=HD.out;exact⟨keep_cell hr1.bel d0,keep_cell hr1.bel d1,keep_cell hr1.bel d2,keep_cell hr1.bel d3,keep_cell hr1.bel d4,keep_cell hr1.bel d5⟩
 have HR1:=hidF hr1;have HSH4:Hid (ShTab W4):=(HSH.out.keep HB1.out).keep hr1.bel;have HIN4:Hid (∀ (i:Nat) x,code[i]? = some x→InsAt W4 CB (co+i*9) x):=fun i x hx=>(HIN1.out i x hx).keep HR1.out.bel;clear hr1
 go_upto_region 3 with (go_at_call 31;refine(touches_walk W4 fname _ frm ent R N cap CB co (some ⟨CB,co,none⟩) code ⟨_,_,_,rfl⟩ hR hn HOK.out.len (fun _=>rfl) HIN4.out HSH4.out HOK.out.us HOK.out.wr HOK.out.lu HLW.out).mono ?_;rintro e W5 ⟨NR,NW,rr,rw,rfl,t1,t2,hb5,l1,l2⟩;have HT:=hidF (And.intro t1 (And.intro t2 (And.intro hb5 (And.intro l1 l2))));have u2:=keep_cell hb5 HR1.out.s2;have u3:=keep_cell hb5 HR1.out.s3;have v2:=keep_frozen hb5 HR1.out.s2 HR1.out.z2;have v3:=keep_frozen hb5 HR1.out.s3 HR1.out.z3;replace f2:=keep_cell hb5 f2;clear t1 t2 hb5 l1 l2 f0 f1 f3 f4 f5)
 have hm:=sp_made HR1.out HT.out.1 HT.out.2.1 HT.out.2.2.1 HT.out.2.2.2.1 HT.out.2.2.2.2 HOK.out HC1.out (fun k q=>⟨by have:=(HLL.out k q).1;omega,(HLL.out k q).2⟩) (by omega) hn hR hN0;have hne:w.heap.size≠SB:=by have:=HR1.out.ge.1;omega
 have g2:((W5.setCell ⟨SB,2,none⟩ (.slice (some ⟨NR,0,none⟩) R R)).setCell ⟨SB,3,none⟩ (.slice (some ⟨NW,0,none⟩) R R)).cell? ⟨w.heap.size,2,none⟩=some (.int .i64 (R:Int)):=keep_set (keep_set f2 hne) hne;have hwz:w.heap.size≤((W5.setCell ⟨SB,2,none⟩ (.slice (some ⟨NR,0,none⟩) R R)).setCell ⟨SB,3,none⟩ (.slice (some ⟨NW,0,none⟩) R R)).heap.size:=by rw[gsize_setF,gsize_setF];have:=HT.out.2.2.1.size;have:=HR1.out.bel.size;omega
 have hos:((W5.setCell ⟨SB,2,none⟩ (.slice (some ⟨NR,0,none⟩) R R)).setCell ⟨SB,3,none⟩ (.slice (some ⟨NW,0,none⟩) R R)).os=w.os∧((W5.setCell ⟨SB,2,none⟩ (.slice (some ⟨NR,0,none⟩) R R)).setCell ⟨SB,3,none⟩ (.slice (some ⟨NW,0,none⟩) R R)).tape=w.tape∧((W5.setCell ⟨SB,2,none⟩ (.slice (some ⟨NR,0,none⟩) R R)).setCell ⟨SB,3,none⟩ (.slice (some ⟨NW,0,none⟩) R R)).output=w.output:=by
  have q1:=HT.out.2.2.1;have q2:=HR1.out.bel;have q3:=HB1.out;exact⟨q1.os.trans (q2.os.trans q3.os),q1.tape.trans (q2.tape.trans q3.tape),q1.output.trans (q2.output.trans q3.output)⟩
 have hgl:=shtab_lt HSH.out;have hge:=HR1.out.ge
 generalize ((W5.setCell ⟨SB,2,none⟩ (.slice (some ⟨NR,0,none⟩) R R)).setCell ⟨SB,3,none⟩ (.slice (some ⟨NW,0,none⟩) R R))=wB at *
 obtain⟨hF,hS,hk1⟩:=hm;obtain⟨S,hS0⟩:∃ S:SwN,S=⟨wB,SB,CB,co,cap,XB,MB,NP,NR,NW,WB,N,R,code,rr,rw,rp,L⟩:=⟨_,rfl⟩;rw[←hS0] at hF hS;have eq:S.SB=SB∧S.CB=CB∧S.co=co∧S.R=R∧S.c0=code∧S.wB=wB∧S.MB=MB∧S.WB=WB∧S.L=L:=by rw[hS0];exact⟨rfl,rfl,rfl,rfl,rfl,rfl,rfl,rfl,rfl⟩
 have EQ:=hidF eq
 have HP:Hid (∀ k,k<w.heap.size→k≠CB→S.P k∧S.wB.heap[k]? = w.heap[k]?):=fun k h1 h2=>by
  obtain⟨e1,e2,e3,e4,e5,e6,e7,e8,e9⟩:=EQ.out;refine⟨⟨by rw[e6];omega,by rw[e1];omega,by rw[e2];exact h2,by rw[e7];omega,by rw[e8];omega⟩,?_⟩;rw[e6];exact(hk1 k (by omega)).trans (HB1.out.block k h1)
 have HSHS:Hid (∀ V:World,(∀ k,S.P k→V.heap[k]? = S.wB.heap[k]?)→ShTab V):=fun V hV=>shtab_blk HSH.out ((hV _ (HP.out _ hgl (Ne.symm hG)).1).trans (HP.out _ hgl (Ne.symm hG)).2);have HF:=hidF hF
 have HWT:Hid (∀ (c:List Ins) (wt:List Nat) (vw:Value) (V:World) (r:Nat),SwS S c wt vw V→r<R→Calls prog 32 #[.pointer (some ⟨SB,0,none⟩),.int .i64 (r:Int)] V (retW S c wt r vw V)):=fun c wt vw V r h hr=>by
  rw[←EQ.out.1];exact wait_any h HF.out (by rw[EQ.out.2.2.2.1];exact hr)
 have HAS:Hid (∀ (c:List Ins) (wt:List Nat) (vw:Value) (V:World) (r:Nat),SwS S c wt vw V→Cur S.c0 c→Calm S.R (fun q=>q∈wt) (fun q=>q=r) c→r<R→Calls prog 33 #[.pointer (some ⟨SB,0,none⟩),.int .i64 (r:Int)] V (retAk S c wt r)):=fun c wt vw V r h hc hm hr=>by
  rw[←EQ.out.1];exact ask_any h HF.out HSHS.out hc hm (by rw[EQ.out.2.2.2.1];exact hr)
 have HFS:Hid (∀ (c:List Ins) (wt:List Nat) (vw:Value) (V:World),SwS S c wt vw V→V.cell? ⟨SB,4,none⟩=some vw∧V.frozen? ⟨SB,4,none⟩=false∧V.cell? ⟨SB,5,none⟩=some (.slice (some ⟨WB,0,none⟩) R R)∧(∀ x,x<R→V.cell? ⟨WB,x,none⟩=some (.bool (wt.contains x))∧V.frozen? ⟨WB,x,none⟩=false)∧SB≠WB):=fun c wt vw V h=>by
  have h4:=h.s4;have z4:=h.z4;have h5:=h.s5;have hw:=h.ws;have hd:=HF.out.d1.2.2.1;rw[EQ.out.1] at h4 z4 h5 hd;rw[EQ.out.2.2.2.1,EQ.out.2.2.2.2.2.2.2.1] at h5 hw;rw[EQ.out.2.2.2.2.2.2.2.1] at hd;exact⟨h4,z4,h5,fun x hx=>hw x hx,hd⟩
 have HPOP:Hid (∀ (c:List Ins) (ini:List Nat) (a:Option Addr) (k cp x:Nat) (V:World),ini.length=k→SwS S c (ini++[x]) (.slice a (k+1) cp) V→SwS S c ini (.slice a k cp) ((V.setCell ⟨SB,4,none⟩ (.slice a k cp)).setCell ⟨WB,x,none⟩ (.bool false))):=fun c ini a k cp x V hl h=>by
  subst hl;have q:=h.pop HF.out;rw[EQ.out.1,EQ.out.2.2.2.2.2.2.2.1] at q;exact q
 have HOVER:Hid (∀ (c:List Ins) (vw:Value) (V:World),SwS S c [] vw V→Cur S.c0 c→Calm S.R (fun q=>q∈([]:List Nat)) (fun _=>False) c→(c=S.c0∨∃ q n,DeadAt S.c0 q n)→retSw L CB co R code w (.returned (.tuple #[])) V):=fun c vw V h1 h2 h3 h4=>by
  obtain⟨e1,e2,e3,e4,e5,e6,e7,e8,e9⟩:=EQ.out;exact MJ.over h1 h2 h3 h4 e5 e2 e3 e4 e9 HP.out (by rw[e6];exact hwz) (by rw[e6];exact hos.1) (by rw[e6];exact hos.2.1) (by rw[e6];exact hos.2.2)
 have HGS:Hid (∀ (c:List Ins) (wt:List Nat) (vw:Value) (V:World) (gb:Nat),SwS S c wt vw V→vw.ownBlock=some gb→gb≠SB):=fun c wt vw V gb h e=>by
  have q:=(h.ow.lt gb e).1;have l:=HF.out.lt.1;rw[EQ.out.1] at l
  omega
 have HSR:Hid (S.R=R∧S.c0=code):=⟨EQ.out.2.2.2.1,EQ.out.2.2.2.2.1⟩;have HS0:=hidF hS;clear hF hS hk1 hS0 eq EQ hge hgl hos hwz HSHS HR1 HT u2 u3 v2 v3 f2 hne HB1 HD HC1 HIN1 HIN4 HSH4 HF HP;go_wp2
 go_loopw [30] (fun vv wz=>∃ i:Nat,i≤R∧vv=.int .i64 i∧Hid (∃ wt vw,SwS S code wt vw wz∧∀ q,q∈wt↔q<i)) (fun vv _=>R - (intOf vv).toNat)
 case atStart=>exact⟨0,by omega,rfl,hidF ⟨[],_,HS0.out,fun q=>by simp⟩⟩
 case round =>
  obtain⟨i,hi,rfl,HJ⟩:=hrel
  rename World=>wz
  clear HS0 g2
  by_cases hin:i<R
  ·have j0:(0:Int)≤i:=by omega
   have j1:(i:Int)<R:=by omega
   obtain⟨wt,vw,hs,hq⟩:=HJ.out;have HQ:=hidF hq;have HW:=hidF (HWT.out code wt vw wz i hs hin);clear hs hq HJ
   go_wp2_with (go_at_call 32;refine HW.out.mono ?_;rintro e W6 ⟨rfl,wt',vw',h6,hm6,_⟩;have H6:=hidF (And.intro h6 hm6);clear h6 hm6)
   go_roundw
   case rel=>exact⟨i+1,by omega,by simp,hidF ⟨wt',vw',H6.out.1,fun q=>by rw[H6.out.2 q,HQ.out q];omega⟩⟩
   case measure=>simp[intOf];omega
  ·obtain rfl:R=i:=by omega
   have HJ2:Hid (∃ m,MJ S m wz):=by
    obtain⟨wt,vw,hs,hq⟩:=HJ.out;exact⟨_,code,wt,vw,hs,by rw[HSR.out.2];exact Cur.refl _,fun r hr hw=>absurd ((hq r).2 (by rw[HSR.out.1] at hr;exact hr)) hw,.inl HSR.out.2.symm,rfl⟩
   clear HJ;go_wp2
   go_loopw [4] (fun vv wr=>Hid (∃ m,MJ S m wr)) (fun vv wr=>mm S wr)
   case atStart=>exact HJ2
   case round =>
    clear HJ2;rename_i wr;obtain⟨⟨c,wt,vw,hs,hc,hm,he,hM⟩,hmin⟩:=mm_spec hrel.out
    rcases List.eq_nil_or_concat wt with rfl|⟨ini,x,hcc⟩
    ·obtain⟨a,cp,rfl⟩:∃ a cp,vw=.slice a 0 cp:=by
      rcases hs.ow.2 with ⟨e,_⟩|⟨gb,cp,cur,e,_⟩
      ·exact⟨_,_,e⟩
      ·exact⟨_,_,e⟩
     have s4:=(HFS.out _ _ _ _ hs).1;have HEND:=hidF (HOVER.out c _ wr hs hc hm he);clear hs hc hm he hM hmin hrel;go_wp2;go_end0;exact HEND.out
    ·rw[List.concat_eq_append] at hcc
     subst hcc;obtain⟨k,hk⟩:∃ k,ini.length=k:=⟨_,rfl⟩;obtain⟨K,hK⟩:∃ K,K=k+1:=⟨_,rfl⟩;have hx:x<R:=by have:=hs.wl x (by simp);rw[HSR.out.1] at this;exact this
     obtain⟨gb,cp,rfl,hkc,cx⟩:∃ gb cp,vw=.slice (some ⟨gb,0,none⟩) K cp∧(k:Int)≤cp∧wr.cell? ⟨gb,k,none⟩=some (.int .i64 (x:Int)):=by
      have q:=hs.ow;rw[List.length_append,List.length_singleton,hk,←hK] at q
      rcases q.2 with ⟨_,z⟩|⟨gb,cp,cur,z,_,_,hcap,_⟩
      ·omega
      ·refine⟨gb,cp,z,by omega,?_⟩
       have:=q.cells (g:=gb) (by rw[z];rfl) k (.int .i64 (x:Int)) (by rw[up_append,ints_append,List.getElem?_append_right (by rw[ints_lengthF,up_length,hk];exact Nat.le_refl _),ints_lengthF,up_length,hk];simp[up,intsF]);rw[show (⟨gb,0,none⟩:Addr).add k=⟨gb,0+k,none⟩ from Addr.add_mid _ _ _,Nat.zero_add] at this;exact this
     have hKM:K≤1000001:=by
      have h1:=nodup_bound hs.nd hs.wl;rw[List.length_append,List.length_singleton,hk,HSR.out.1] at h1
      omega
     obtain⟨s4,z4,s5,hwb,hsw⟩:=HFS.out _ _ _ _ hs;obtain⟨b4,b5⟩:=hwb x hx;have HNX:=hidF hmin;have HME:Hid (mm S wr=(R+1)*busy c+(ini.length+1)):=by show _=_;rw[hM,HSR.out.1,List.length_append,List.length_singleton]
     have HPP:=hidF (HPOP.out c ini (some ⟨gb,0,none⟩) k cp x wr hk (by rw[←hK];exact hs))
     have HAK:Hid (Calls prog 33 #[.pointer (some ⟨SB,0,none⟩),.int .i64 (x:Int)] ((wr.setCell ⟨SB,4,none⟩ (.slice (some ⟨gb,0,none⟩) k cp)).setCell ⟨WB,x,none⟩ (.bool false)) (retAk S c ini x)):=HAS.out c ini _ _ x HPP.out hc (fun r hr hw hX n=>hm r hr (fun hq=>by
      rcases List.mem_append.1 hq with z|z
      ·exact hw z
      ·exact hX (by simpa using z)) (fun h=>h) n) hx
     have HE:=hidF he;have k0:(0:Int)≤k:=by omega
     have k1:(k:Int)<K:=by omega
     have x0:(0:Int)≤x:=by omega
     have x1:(x:Int)<R:=by omega
     have hK0:decide ((0:Int)<K)=true:=by simp;omega
     have hK0n:decide (0<K)=true:=by simp;omega
     have wf:IntKind.i64.wrap ((K:Int) - 1)=k:=by rw[IntKind.wrap_i64];omega
     have hgs:gb≠SB:=HGS.out _ _ _ _ gb hs rfl
     generalize wt_contains:(ini++[x]).contains x=bc at b4
     clear hs hc hm he hM hmin hrel hwb hk hK hKM wt_contains
     go_wp2_with (go_at_call 33;refine HAK.out.mono ?_;rintro e W7 ⟨rfl,c',wt',vw',g1,g3,g4,g5⟩;have HG:=hidF (MJ.asked g1 g3 g4 g5 HE.out);clear g1 g3 g4 g5)
     go_roundw
     case rel=>obtain⟨m,h1,_⟩:=HG.out;exact hidF ⟨m,h1⟩
     case measure =>
      obtain⟨m,h1,h2⟩:=HG.out;have q:=(mm_spec ⟨m,h1⟩).2 m h1;rw[HSR.out.1] at h2;have:=HME.out
      omega
end Go.Proofs.YtaimifnppackgaaGreatDoor
