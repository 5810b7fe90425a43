import Derived.Test.YtaimifnppackgaaGreatDoorOzA
namespace Go.Proofs.YtaimifnppackgaaGreatDoor
open Go.ChangeShapes Go.WideShapes Go.ChangeAt Go.RowKit Go.Proofs.Tryz
set_option linter.unusedSimpArgs false
set_option linter.unusedVariables false
set_option maxRecDepth 100000
set_option maxHeartbeats 8000000
noncomputable def tcRange:List (Array Tmp × Code × Code):=(Tryz.f31.body.map rangesOfF).getD []
noncomputable def tcAssign:Code:=((tcRange[0]?).map (·.2.1)).getD .skip
noncomputable def tcBody:Code:=((tcRange[0]?).map (·.2.2)).getD .skip
attribute [local go_sem] Oper.semAt_some
theorem tc_round0 (l LX NX NB n B x t k c d:Nat) (a:Option Addr) (l0:List Value) (fn:FuncId) (z0 z1 z3 z5 z6 z7 z8 z9 z10 z11 z12 z13 z14 z15 z16 z17 z18 z19 z20 z21 z22 z23 z24 z25 z26 z27 z28 z29 z30 z31 z32 z33 z34 z35 z36 z37 z38 z39 z40 z41 z42 z43 z44 z45 z46 z47 z48 z49 z50 z51 z52 z53 z54:Value) (W:World) (R:Ending→World→Prop)
  (hl:W.heap[l]? = some (.loop (loopRec fn #[z0,z1,.pointer (some ⟨LX,0,none⟩),z3,.pointer (some ⟨NX,0,none⟩),z5,z6,z7,z8,z9,z10,z11,z12,z13,z14,z15,z16,z17,z18,z19,z20,z21,z22,z23,z24,z25,z26,z27,z28,z29,z30,z31,z32,z33,z34,z35,z36,z37,z38,z39,z40,z41,z42,z43,z44,z45,z46,z47,z48,z49,z50,z51,z52,z53,z54] #[25] tcAssign tcBody d))) (h0:W.cell? ⟨LX,0,none⟩=some (.slice (some ⟨NB,0,none⟩) n n)) (h1:W.cell? ⟨NX,0,none⟩=some (.int .i64 t)) (cv:W.cell? ⟨NB,x,none⟩=some (.slice a k c)) (zv:W.frozen? ⟨NB,x,none⟩=false)
  (j0:(0:Int)≤x) (j1:(x:Int)<n) (hk:k≤1000000000000) (HO:Hid (W.ownsRow B 3 1 (.slice a k c) k l0)) (HBS0:Hid (B≤W.heap.size)) (HNB:Hid (some NB≠(Value.slice a k c).ownBlock)) (HLX:Hid (some LX≠(Value.slice a k c).ownBlock)) (HNX:Hid (some NX≠(Value.slice a k c).ownBlock)) (HNE:Hid (LX≠NB∧NX≠NB))
  (HT:Hid (∀ (W2 w3:World) a2 c2,(∀ k,k≠l→W2.heap[k]? = W.heap[k]?)→W2.heap[l]? = some (.loop { state:=.busy,pending:=none,fn:=fn,tmps:=#[z0,z1,.pointer (some ⟨LX,0,none⟩),z3,.pointer (some ⟨NX,0,none⟩),z5,z6,z7,z8,z9,z10,z11,z12,z13,z14,z15,z16,z17,z18,z19,z20,z21,z22,z23,z24,z25,z26,z27,z28,z29,z30,z31,z32,z33,z34,z35,z36,z37,z38,z39,z40,z41,z42,z43,z44,z45,z46,z47,z48,z49,z50,z51,z52,z53,z54],params:=#[25],assign:=tcAssign,body:=tcBody,defers:=d })→(W2.heap.size=W.heap.size∧W2.os=W.os∧W2.tape=W.tape∧W2.output=W.output)→w3.ownsRow B 3 1 (.slice a2 (k+1) c2) (k+1) (l0++[.int .i64 t])→W2.grownBy w3 (Value.slice a k c).ownBlock→((Value.slice a2 (k+1) c2).ownBlock=(Value.slice a k c).ownBlock∨(Value.slice a2 (k+1) c2).ownBlock=some (W2.heap.size+1)) →
   R (.returned (.bool true)) ((w3.setCell ⟨NB,x,none⟩ (.slice a2 (k+1) c2)).putObj l (.loop { state:=.ready,pending:=none,fn:=fn,tmps:=#[z0,z1,.pointer (some ⟨LX,0,none⟩),z3,.pointer (some ⟨NX,0,none⟩),z5,z6,z7,z8,z9,z10,z11,z12,z13,z14,z15,z16,z17,z18,z19,z20,z21,z22,z23,z24,z25,z26,z27,z28,z29,z30,z31,z32,z33,z34,z35,z36,z37,z38,z39,z40,z41,z42,z43,z44,z45,z46,z47,z48,z49,z50,z51,z52,z53,z54],params:=#[25],assign:=tcAssign,body:=tcBody,defers:=d })))) :
  YieldAt Fence.wide 0 prog l #[.int .i64 x] W R:=by
 have n0:=cell_not_loopF hl h0;have n1:=cell_not_loopF hl h1;have n4:=cell_not_loopF hl cv;have HLO:Hid (some l≠(Value.slice a k c).ownBlock):=fun e=>ownsRow_not_loop HO.out e.symm hl;refine yield_round hl rfl rfl trivial ?_;simp only[loopRec]
 conv=>arg 4;whnf
 gi_wp2
 refine⟨(by first|exact hl|rfl),?_⟩
 conv=>arg 4;whnf
 have ll:l<W.heap.size:=(zge hl).1;obtain⟨W2,hW2⟩:∃ W2,W.putObj l (.loop { state:=.busy,pending:=none,fn:=fn,tmps:=#[z0,z1,.pointer (some ⟨LX,0,none⟩),z3,.pointer (some ⟨NX,0,none⟩),z5,z6,z7,z8,z9,z10,z11,z12,z13,z14,z15,z16,z17,z18,z19,z20,z21,z22,z23,z24,z25,z26,z27,z28,z29,z30,z31,z32,z33,z34,z35,z36,z37,z38,z39,z40,z41,z42,z43,z44,z45,z46,z47,z48,z49,z50,z51,z52,z53,z54],params:=#[25],assign:=tcAssign,body:=tcBody,defers:=d })=W2:=⟨_,rfl⟩;have HOT:Hid (∀ k,k≠l→W2.heap[k]? = W.heap[k]?):=fun k hk=>by rw[← hW2];exact put_otherF hk
 have HL:Hid (W2.heap[l]? = some (.loop { state:=.busy,pending:=none,fn:=fn,tmps:=#[z0,z1,.pointer (some ⟨LX,0,none⟩),z3,.pointer (some ⟨NX,0,none⟩),z5,z6,z7,z8,z9,z10,z11,z12,z13,z14,z15,z16,z17,z18,z19,z20,z21,z22,z23,z24,z25,z26,z27,z28,z29,z30,z31,z32,z33,z34,z35,z36,z37,z38,z39,z40,z41,z42,z43,z44,z45,z46,z47,z48,z49,z50,z51,z52,z53,z54],params:=#[25],assign:=tcAssign,body:=tcBody,defers:=d })):=by show _=_;rw[← hW2];exact World.putObj_heap_same ll
 have HS:Hid (W2.heap.size=W.heap.size∧W2.os=W.os∧W2.tape=W.tape∧W2.output=W.output):=by rw[← hW2];exact⟨World.putObj_size ..,rfl,rfl,rfl⟩
 rw[hW2];clear hW2 hl;replace h0:=(World.cell?_of_block (HOT.out LX n0)).trans h0;replace h1:=(World.cell?_of_block (HOT.out NX n1)).trans h1;replace cv:=(World.cell?_of_block (HOT.out NB n4)).trans cv;replace zv:=(World.frozen?_of_block (HOT.out NB n4)).trans zv;replace HO:Hid (W2.ownsRow B 3 1 (.slice a k c) k l0):=ownsRow_blk HO.out (fun b hb=>HOT.out b (fun e=>HLO.out (by rw[hb,e])));replace HBS0:Hid (B≤W2.heap.size):=by have:=HBS0.out;have:=HS.out.1;show _≤_;omega
 have HE:Hid (∀ a2 c2 w3,w3.ownsRow B 3 1 (.slice a2 (k+1) c2) (k+1) (l0++[.int .i64 t])→W2.grownBy w3 (Value.slice a k c).ownBlock→((Value.slice a2 (k+1) c2).ownBlock=(Value.slice a k c).ownBlock∨(Value.slice a2 (k+1) c2).ownBlock=some (W2.heap.size+1)) →
   R (.returned (.bool true)) ((w3.setCell ⟨NB,x,none⟩ (.slice a2 (k+1) c2)).putObj l (.loop { state:=.ready,pending:=none,fn:=fn,tmps:=#[z0,z1,.pointer (some ⟨LX,0,none⟩),z3,.pointer (some ⟨NX,0,none⟩),z5,z6,z7,z8,z9,z10,z11,z12,z13,z14,z15,z16,z17,z18,z19,z20,z21,z22,z23,z24,z25,z26,z27,z28,z29,z30,z31,z32,z33,z34,z35,z36,z37,z38,z39,z40,z41,z42,z43,z44,z45,z46,z47,z48,z49,z50,z51,z52,z53,z54],params:=#[25],assign:=tcAssign,body:=tcBody,defers:=d }))∧(w3.setCell ⟨NB,x,none⟩ (.slice a2 (k+1) c2)).heap[l]? = some (.loop { state:=.busy,pending:=none,fn:=fn,tmps:=#[z0,z1,.pointer (some ⟨LX,0,none⟩),z3,.pointer (some ⟨NX,0,none⟩),z5,z6,z7,z8,z9,z10,z11,z12,z13,z14,z15,z16,z17,z18,z19,z20,z21,z22,z23,z24,z25,z26,z27,z28,z29,z30,z31,z32,z33,z34,z35,z36,z37,z38,z39,z40,z41,z42,z43,z44,z45,z46,z47,z48,z49,z50,z51,z52,z53,z54],params:=#[25],assign:=tcAssign,body:=tcBody,defers:=d })):=fun a2 c2 w3 q1 q2 q3 =>
  ⟨HT.out W2 w3 a2 c2 HOT.out HL.out HS.out q1 q2 q3,by rw[gset_otherF (Ne.symm n4),q2.block l (by rw[HS.out.1];exact ll) HLO.out];exact HL.out⟩
 obtain⟨i0,hi,hz0,hz1,hz2⟩:∃ i0,prog.info? 3=some i0∧i0.zero=some (.int .i64 0)∧i0.size=1∧i0.bytes=8:=info_parts (by kernel_rfl);have HI:=hidF (And.intro hi (And.intro hz0 (And.intro hz1 hz2)));clear hi hz0 hz1 hz2 HT;have HOA:Hid ((W2.drew.alloc (.cells #[.int .i64 t] 3)).ownsRow B 3 1 (.slice a k c) k l0):=World.ownsRow.alloc (w:=W2.drew) HO.out _
 have HSR:Hid (Srow (W2.drew.alloc (.cells #[.int .i64 t] 3)) (.slice (some ⟨W2.heap.size,0,none⟩) 1 1) 1 [.int .i64 t]):=by
  refine .inl ⟨_,_,rfl,fun j u hj=>?_⟩
  match j,hj with
  | 0,hj =>
   cases hj
   rw[show (⟨W2.heap.size,0,none⟩:Addr).add 0=⟨W2.heap.size,0+0,none⟩ from Addr.add_mid _ _ _];exact cell_new W2.drew (.int .i64 t) 3 (by rfl)
  | j+1,hj=>simp at hj
 have HON:Hid (∀ u∈[Value.int .i64 t],u.oneCell'=true):=fun u hu=>by cases List.mem_singleton.1 hu;rfl
 have HM:Hid (k+1≤maxLen∧(k+1) * 8≤140737488355328):=⟨by unfold maxLen;omega,by omega⟩
 have HBS:Hid (B≤(W2.drew.alloc (.cells #[.int .i64 t] 3)).heap.size):=by
  show _≤_
  rw[World.size_alloc];have:=HBS0.out;have:W2.drew.heap.size=W2.heap.size:=rfl
  omega
 have x7:∀ o,(W2.drew.alloc o).cell? ⟨NB,x,none⟩=some (.slice a k c):=fun o=>keep_alloc (w:=W2.drew) cv o;have x7':∀ o,(W2.alloc o).cell? ⟨NB,x,none⟩=some (.slice a k c):=fun o=>keep_alloc (w:=W2) cv o
 gi_wp2
 refine wpIn_held_round (S:=(fun w'=>w'.cell? ⟨LX,0,none⟩=some (.slice (some ⟨NB,0,none⟩) n n)∧w'.cell? ⟨NX,0,none⟩=some (.int .i64 t))) (by rintro⟨a,w,h⟩;exact h) (by kernel_rfl) (by kernel_rfl) (⟨h0,h1⟩) (fun hH=>?_);refine wpAnyH_take (i:=0) (oi:=?o0) (v:=?v0) ?i0 (by kernel_rfl) (by kernel_rfl) (by kernel_rfl) ?q0 ?y0 hH ?_
 case i0=>simp only[zga,zgs,zgz];rfl
 case q0=>exact fun _ _ _ h=>h
 case y0=>refine .inl ⟨by rfl,?_⟩;intro w' hSw;(try dsimp only at hSw);go_simp;try with_reducible rfl
 simp only[Act.put,zsa,zsz,zss];refine wpAnyH_take (i:=1) (oi:=?o1) (v:=?v1) ?i1 (by kernel_rfl) (by kernel_rfl) (by kernel_rfl) ?q1 ?y1 hH ?_
 case i1=>simp only[zga,zgs,zgz];rfl
 case q1=>exact fun _ _ _ h=>h
 case y1=>refine .inl ⟨by rfl,?_⟩;intro w' hSw;(try dsimp only at hSw);go_simp;try with_reducible rfl
 simp only[Act.put,zsa,zsz,zss];refine wpAnyH_take (i:=2) (oi:=?o2) (v:=?v2) ?i2 (by kernel_rfl) (by kernel_rfl) (by kernel_rfl) ?q2 ?y2 hH ?_
 case i2=>simp only[zga,zgs,zgz];rfl
 case q2=>exact fun _ _ _ h=>h
 case y2=>refine .inl ⟨by rfl,?_⟩;intro w' hSw;(try dsimp only at hSw);go_simp;try with_reducible rfl
 simp only[Act.put,zsa,zsz,zss];refine wpAnyH_take (i:=3) (oi:=?o3) (v:=?v3) ?i3 (by kernel_rfl) (by kernel_rfl) (by kernel_rfl) ?q3 ?y3 hH ?_
 case i3=>simp only[zga,zgs,zgz];rfl
 case q3=>exact fun _ _ _ h=>h
 case y3=>refine .inl ⟨by rfl,?_⟩;intro w' hSw;(try dsimp only at hSw);go_simp;try with_reducible rfl
 simp only[Act.put,zsa,zsz,zss];refine wpAnyH_take (i:=4) (oi:=?o4) (v:=?v4) ?i4 (by kernel_rfl) (by kernel_rfl) (by kernel_rfl) ?q4 ?y4 hH ?_
 case i4=>simp only[zga,zgs,zgz];rfl
 case q4=>exact fun _ _ _ h=>h
 case y4=>refine .inl ⟨by rfl,?_⟩;intro w' hSw;(try dsimp only at hSw);go_simp;try with_reducible rfl
 simp only[Act.put,zsa,zsz,zss];refine wpAnyH_take (i:=6) (oi:=?o5) (v:=?v5) ?i5 (by kernel_rfl) (by kernel_rfl) (by kernel_rfl) ?q5 ?y5 hH ?_
 case i5=>simp only[zga,zgs,zgz];rfl
 case q5=>exact fun _ _ _ h=>h
 case y5=>refine .inl ⟨by rfl,?_⟩;intro w' hSw;(try dsimp only at hSw);go_simp;try with_reducible rfl
 simp only[Act.put,zsa,zsz,zss];refine wpAnyH_ready (rs:=[5,7]) (by kernel_rfl) (by simp) ?_;refine(AllReadyH.cons (o:=?o6) ?i6 (fun K hK=>?g6) (AllReadyH.cons (o:=?o7) ?i7 (fun K hK=>?g7) AllReadyH.nil))
 case i6=>simp only[zga,zgs,zgz];rfl
 case i7=>simp only[zga,zgs,zgz];rfl
 case g6 =>
  go_simp;refine hK.out _ _ (hH) (fun hN=>?_);clear hK K hH;have hH:=hN;clear hN
  try simp only[Act.put,zsa,zsz,zss]
  refine zr (r:=7) (o:=?o8) (by kernel_rfl) ?i8 (fun K hK=>?g8)
  case i8=>simp only[zga,zgs,zgz];rfl
  case g8 =>
   go_simp;refine hK.out _ _ (⟨keep_alloc hH.1 _,keep_alloc hH.2 _⟩) (fun hN=>?_);clear hK K hH;have hH:=hN;clear hN
   try simp only[Act.put,zsa,zsz,zss]
   refine zr (r:=8) (o:=?o9) (by kernel_rfl) ?i9 (fun K hK=>?g9)
   case i9=>simp only[zga,zgs,zgz];rfl
   case g9 =>
    refine step_append_any _ (by rfl) _ _ 22 (by rfl) B 3 i0 (.int .i64 0) 1 8 underlying22 HI.out.1 HI.out.2.1 HI.out.2.2.1 HI.out.2.2.2 rfl (by decide) (.slice a k c) k l0 (by rfl) HOA.out (.slice (some ⟨W2.heap.size,0,none⟩) 1 1) 1 [.int .i64 t] (by rfl) (by rfl) HSR.out HON.out HM.out.1 HM.out.2 HBS.out _ rfl ?_;intro a2 c2 w3 hown hgrow hblk;have HO3:Hid (w3.ownsRow B 3 1 (.slice a2 (k+1) c2) (k+1) (l0++[.int .i64 t])):=hown;have HG3:Hid (W2.grownBy w3 (Value.slice a k c).ownBlock):=hidF (grown_drew (grown_alloc (w:=W2.drew) hgrow));have HB3:Hid ((Value.slice a2 (k+1) c2).ownBlock=(Value.slice a k c).ownBlock∨(Value.slice a2 (k+1) c2).ownBlock=some (W2.heap.size+1)):=hidF (by first|exact hblk|simpa using hblk);have hv3:=HG3.out.cell cv HNB.out;have hz3:=(World.frozen?_of_block (w:=W2) (HG3.out.block NB (block_lt_of_cell cv) HNB.out)).trans zv;have h03:=HG3.out.cell h0 HLX.out;have h13:=HG3.out.cell h1 HNX.out;clear hown hgrow hblk;refine hK.out _ _ (⟨h03,h13⟩) (fun hN=>?_);clear hK K hH;have hH:=hN;clear hN
    try simp only[Act.put,zsa,zsz,zss]
    refine wpAnyH_take (i:=9) (oi:=?o10) (v:=?v10) ?i10 (by kernel_rfl) (by kernel_rfl) (by kernel_rfl) ?q10 ?y10 hH ?_
    case i10=>simp only[zga,zgs,zgz];rfl
    case q10=>exact fun _ _ _ h=>h
    case y10=>refine .inl ⟨by rfl,?_⟩;intro w' hSw;(try dsimp only at hSw);go_simp;try with_reducible rfl
    simp only[Act.put,zsa,zsz,zss];refine zr (r:=10) (o:=?o11) (by kernel_rfl) ?i11 (fun K hK=>?g11)
    case i11=>simp only[zga,zgs,zgz];rfl
    case g11 =>
     go_simp;refine hK.out _ _ (⟨keep_set h03 HNE.out.1,keep_set h13 HNE.out.2⟩) (fun hN=>?_);clear hK K hH;have hH:=hN;clear hN
     try simp only[Act.put,zsa,zsz,zss]
     refine wpAnyH_done (by kernel_rfl) ?_ _;exact⟨(HE.out a2 c2 w3 HO3.out HG3.out HB3.out).2,(HE.out a2 c2 w3 HO3.out HG3.out HB3.out).1⟩
 case g7 =>
  go_simp;refine hK.out _ _ (⟨keep_alloc hH.1 _,keep_alloc hH.2 _⟩) (fun hN=>?_);clear hK K hH;have hH:=hN;clear hN
  try simp only[Act.put,zsa,zsz,zss]
  refine zr (r:=5) (o:=?o12) (by kernel_rfl) ?i12 (fun K hK=>?g12)
  case i12=>simp only[zga,zgs,zgz];rfl
  case g12 =>
   go_simp;refine hK.out _ _ (hH) (fun hN=>?_);clear hK K hH;have hH:=hN;clear hN
   try simp only[Act.put,zsa,zsz,zss]
   refine zr (r:=8) (o:=?o13) (by kernel_rfl) ?i13 (fun K hK=>?g13)
   case i13=>simp only[zga,zgs,zgz];rfl
   case g13 =>
    refine step_append_any _ (by rfl) _ _ 22 (by rfl) B 3 i0 (.int .i64 0) 1 8 underlying22 HI.out.1 HI.out.2.1 HI.out.2.2.1 HI.out.2.2.2 rfl (by decide) (.slice a k c) k l0 (by rfl) HOA.out (.slice (some ⟨W2.heap.size,0,none⟩) 1 1) 1 [.int .i64 t] (by rfl) (by rfl) HSR.out HON.out HM.out.1 HM.out.2 HBS.out _ rfl ?_;intro a2 c2 w3 hown hgrow hblk;have HO3:Hid (w3.ownsRow B 3 1 (.slice a2 (k+1) c2) (k+1) (l0++[.int .i64 t])):=hown;have HG3:Hid (W2.grownBy w3 (Value.slice a k c).ownBlock):=hidF (grown_drew (grown_alloc (w:=W2.drew) hgrow));have HB3:Hid ((Value.slice a2 (k+1) c2).ownBlock=(Value.slice a k c).ownBlock∨(Value.slice a2 (k+1) c2).ownBlock=some (W2.heap.size+1)):=hidF (by first|exact hblk|simpa using hblk);have hv3:=HG3.out.cell cv HNB.out;have hz3:=(World.frozen?_of_block (w:=W2) (HG3.out.block NB (block_lt_of_cell cv) HNB.out)).trans zv;have h03:=HG3.out.cell h0 HLX.out;have h13:=HG3.out.cell h1 HNX.out;clear hown hgrow hblk;refine hK.out _ _ (⟨h03,h13⟩) (fun hN=>?_);clear hK K hH;have hH:=hN;clear hN
    try simp only[Act.put,zsa,zsz,zss]
    refine wpAnyH_take (i:=9) (oi:=?o14) (v:=?v14) ?i14 (by kernel_rfl) (by kernel_rfl) (by kernel_rfl) ?q14 ?y14 hH ?_
    case i14=>simp only[zga,zgs,zgz];rfl
    case q14=>exact fun _ _ _ h=>h
    case y14=>refine .inl ⟨by rfl,?_⟩;intro w' hSw;(try dsimp only at hSw);go_simp;try with_reducible rfl
    simp only[Act.put,zsa,zsz,zss];refine zr (r:=10) (o:=?o15) (by kernel_rfl) ?i15 (fun K hK=>?g15)
    case i15=>simp only[zga,zgs,zgz];rfl
    case g15 =>
     go_simp;refine hK.out _ _ (⟨keep_set h03 HNE.out.1,keep_set h13 HNE.out.2⟩) (fun hN=>?_);clear hK K hH;have hH:=hN;clear hN
     try simp only[Act.put,zsa,zsz,zss]
     refine wpAnyH_done (by kernel_rfl) ?_ _;exact⟨(HE.out a2 c2 w3 HO3.out HG3.out HB3.out).2,(HE.out a2 c2 w3 HO3.out HG3.out HB3.out).1⟩
theorem tc_round (l LX NX NB n B x t d:Nat) (rv:Nat→Value) (g:Nat→List Nat) (fn:FuncId) (z0 z1 z3 z5 z6 z7 z8 z9 z10 z11 z12 z13 z14 z15 z16 z17 z18 z19 z20 z21 z22 z23 z24 z25 z26 z27 z28 z29 z30 z31 z32 z33 z34 z35 z36 z37 z38 z39 z40 z41 z42 z43 z44 z45 z46 z47 z48 z49 z50 z51 z52 z53 z54:Value) (W:World) (R:Ending→World→Prop)
  (hl:W.heap[l]? = some (.loop (loopRec fn #[z0,z1,.pointer (some ⟨LX,0,none⟩),z3,.pointer (some ⟨NX,0,none⟩),z5,z6,z7,z8,z9,z10,z11,z12,z13,z14,z15,z16,z17,z18,z19,z20,z21,z22,z23,z24,z25,z26,z27,z28,z29,z30,z31,z32,z33,z34,z35,z36,z37,z38,z39,z40,z41,z42,z43,z44,z45,z46,z47,z48,z49,z50,z51,z52,z53,z54] #[25] tcAssign tcBody d))) (h0:W.cell? ⟨LX,0,none⟩=some (.slice (some ⟨NB,0,none⟩) n n)) (h1:W.cell? ⟨NX,0,none⟩=some (.int .i64 t)) (hni:NI B NB n rv g W) (hx:x<n) (hg:(g x).length≤1000000000000) (hB:B≤W.heap.size)
  (hfar:∀ i,i<n→some LX≠(rv i).ownBlock∧some NX≠(rv i).ownBlock) (hne:LX≠NB∧NX≠NB)
  (HT:∀ (W':World) rv',NI B NB n rv' (addG g x t) W'→(∀ k,k≠l→k≠NB→k<W.heap.size→(∀ i,i<n→some k≠(rv i).ownBlock)→W'.heap[k]? = W.heap[k]?)→W'.heap[l]? = some (.loop (loopRec fn #[z0,z1,.pointer (some ⟨LX,0,none⟩),z3,.pointer (some ⟨NX,0,none⟩),z5,z6,z7,z8,z9,z10,z11,z12,z13,z14,z15,z16,z17,z18,z19,z20,z21,z22,z23,z24,z25,z26,z27,z28,z29,z30,z31,z32,z33,z34,z35,z36,z37,z38,z39,z40,z41,z42,z43,z44,z45,z46,z47,z48,z49,z50,z51,z52,z53,z54] #[25] tcAssign tcBody d))→W.heap.size≤W'.heap.size→W'.os=W.os→W'.tape=W.tape→W'.output=W.output→(∀ i,i<n→∀ b,(rv' i).ownBlock=some b→(rv i).ownBlock=some b∨W.heap.size≤b)→R (.returned (.bool true)) W') :
  YieldAt Fence.wide 0 prog l #[.int .i64 x] W R:=by
 have hown:=hni.own x hx;have hcx:=hni.cell x hx;have hnx:=hni.ne x hx;have hfx:=hfar x hx;have hlo:some l≠(rv x).ownBlock:=fun e=>ownsRow_not_loop hown e.symm hl;have nb:=cell_not_loopF hl hcx.1;have ll:l<W.heap.size:=(zge hl).1
 obtain⟨ra,rc,hrv⟩:∃ ra rc,rv x=.slice ra (g x).length rc:=by
  rcases hown.2 with ⟨e1,e2⟩|⟨g',cap,cur,e1,_⟩
  ·exact⟨none,0,by rw[e1,e2]⟩
  ·exact⟨_,cap,by rw[e1]⟩
 rw[hrv] at hown hcx hnx hfx;refine tc_round0 l LX NX NB n B x t (g x).length rc d ra (intsF (up (g x))) fn _ _ _ _ _ _ _ _ _ _ _ _ _ _ _ _ _ _ _ _ _ _ _ _ _ _ _ _ _ _ _ _ _ _ _ _ _ _ _ _ _ _ _ _ _ _ _ _ _ _ _ _ _ W R hl h0 h1 hcx.1 hcx.2 (by omega) (by omega) hg hown hB hnx hfx.1 hfx.2 hne ?_;intro W2 w3 a2 c2 q1 q2 q3 q4 q5 q6;rw[← hrv] at q5 q6;have hni2:=hni.loop hl q1;have hp:=hni2.push hx q4 q5 q6 (Nat.le_succ _)
 have hbz:(w3.setCell ⟨NB,x,none⟩ (.slice a2 ((g x).length+1) c2)).heap[l]? = W2.heap[l]? := by
  rw[gset_otherF (Ne.symm nb),q5.block l (by rw[q3.1];exact ll) hlo]
 have hsz:W.heap.size≤w3.heap.size:=by have:=q5.size;rw[q3.1] at this;exact this
 refine HT _ _ (hp.loop (hbz.trans q2) (fun k hk=>put_otherF hk)) (fun k h1 h2 h3 h4=>?_) (World.putObj_heap_same (by rw[gsize_setF];omega)) (by rw[World.putObj_size,gsize_setF];exact hsz) (q5.os.trans q3.2.1) (q5.tape.trans q3.2.2.1) (q5.output.trans q3.2.2.2) (fun i hi b hb=>?_)
 ·rw[put_otherF h1,gset_otherF h2,q5.block k (by rw[q3.1];exact h3) (h4 x hx)]
  exact q1 k h1
 ·unfold setR at hb
  by_cases e:i=x
  ·subst e
   rw[if_pos rfl] at hb
   rcases q6 with z|z
   ·exact .inl (z.symm.trans hb)
   ·rw[z] at hb
    injection hb with hb
    right
    rw[← hb,q3.1]
    omega
  ·rw[if_neg e] at hb
   exact .inl hb
noncomputable def tcReg:Code:=((Tryz.f31.body.bind (regionNF 10)).getD .skip)
theorem tc_reg0 (NX NB n B x t k c:Nat) (a:Option Addr) (l0:List Value) (z0 z1 z2 z5 z6 z8 z9 z10 z11 z12 z13 z14 z15 z16 z17 z18 z19 z20 z21 z22 z23 z24 z25 z26 z27 z28 z29 z30 z31 z32 z33 z34 z35 z36 z37 z38 z39 z40 z41 z42 z43 z44 z45 z46 z47 z48 z49 z50 z51 z52 z53 z54:Value) (DF:List Deferred) (Q0:Exit→Act→World→Prop) (w1:World)
  (hQ0:∀ c (a:Act) (dd:Option Tmp) v x,Q0 (.panic c) (a.put dd v) x→Q0 (.panic c) a x)
  (h1:w1.cell? ⟨NX,0,none⟩=some (.int .i64 t)) (cv:w1.cell? ⟨NB,x,none⟩=some (.slice a k c)) (zv:w1.frozen? ⟨NB,x,none⟩=false)
  (j0:(0:Int)≤x) (j1:(x:Int)<n) (hk:k≤1000000000000) (HO:Hid (w1.ownsRow B 3 1 (.slice a k c) k l0)) (HBS0:Hid (B≤w1.heap.size)) (HNB:Hid (some NB≠(Value.slice a k c).ownBlock)) (HNX:Hid (some NX≠(Value.slice a k c).ownBlock)) (HNE:Hid (NX≠NB))
  (HK:Hid (∀ y42 y43 y44 y45 y46 y47 y48 y49 y50 y51 a2 c2 w3,w3.ownsRow B 3 1 (.slice a2 (k+1) c2) (k+1) (l0++[.int .i64 t])→w1.grownBy w3 (Value.slice a k c).ownBlock→((Value.slice a2 (k+1) c2).ownBlock=(Value.slice a k c).ownBlock∨(Value.slice a2 (k+1) c2).ownBlock=some (w1.heap.size+1))→Q0 .normal ⟨#[z0,z1,z2,.slice (some ⟨NB,0,none⟩) n n,.pointer (some ⟨NX,0,none⟩),z5,z6,.int .i64 (x:Int),z8,z9,z10,z11,z12,z13,z14,z15,z16,z17,z18,z19,z20,z21,z22,z23,z24,z25,z26,z27,z28,z29,z30,z31,z32,z33,z34,z35,z36,z37,z38,z39,z40,z41,y42,y43,y44,y45,y46,y47,y48,y49,y50,y51,z52,z53,z54],DF⟩ (w3.setCell ⟨NB,x,none⟩ (.slice a2 (k+1) c2)))) :
  Code.wp prog tcReg Q0 ⟨#[z0,z1,z2,.slice (some ⟨NB,0,none⟩) n n,.pointer (some ⟨NX,0,none⟩),z5,z6,.int .i64 (x:Int),z8,z9,z10,z11,z12,z13,z14,z15,z16,z17,z18,z19,z20,z21,z22,z23,z24,z25,z26,z27,z28,z29,z30,z31,z32,z33,z34,z35,z36,z37,z38,z39,z40,z41,z42,z43,z44,z45,z46,z47,z48,z49,z50,z51,z52,z53,z54],DF⟩ w1:=by
 obtain⟨i0,hi,hz0,hz1,hz2⟩:∃ i0,prog.info? 3=some i0∧i0.zero=some (.int .i64 0)∧i0.size=1∧i0.bytes=8:=info_parts (by kernel_rfl);have HI:=hidF (And.intro hi (And.intro hz0 (And.intro hz1 hz2)));clear hi hz0 hz1 hz2;have HOA:Hid ((w1.drew.alloc (.cells #[.int .i64 t] 3)).ownsRow B 3 1 (.slice a k c) k l0):=World.ownsRow.alloc (w:=w1.drew) HO.out _
 have HSR:Hid (Srow (w1.drew.alloc (.cells #[.int .i64 t] 3)) (.slice (some ⟨w1.heap.size,0,none⟩) 1 1) 1 [.int .i64 t]):=by
  refine .inl ⟨_,_,rfl,fun j u hj=>?_⟩
  match j,hj with
  | 0,hj =>
   cases hj
   rw[show (⟨w1.heap.size,0,none⟩:Addr).add 0=⟨w1.heap.size,0+0,none⟩ from Addr.add_mid _ _ _];exact cell_new w1.drew (.int .i64 t) 3 (by rfl)
  | j+1,hj=>simp at hj
 have HON:Hid (∀ u∈[Value.int .i64 t],u.oneCell'=true):=fun u hu=>by cases List.mem_singleton.1 hu;rfl
 have HM:Hid (k+1≤maxLen∧(k+1) * 8≤140737488355328):=⟨by unfold maxLen;omega,by omega⟩
 have HBS:Hid (B≤(w1.drew.alloc (.cells #[.int .i64 t] 3)).heap.size):=by
  show _≤_
  rw[World.size_alloc];have:=HBS0.out;have:w1.drew.heap.size=w1.heap.size:=rfl
  omega
 have x7:∀ o,(w1.drew.alloc o).cell? ⟨NB,x,none⟩=some (.slice a k c):=fun o=>keep_alloc (w:=w1.drew) cv o;have x7':∀ o,(w1.alloc o).cell? ⟨NB,x,none⟩=some (.slice a k c):=fun o=>keep_alloc (w:=w1) cv o
 conv=>arg 2;whnf
 refine wp_region_held_drew (S:=(fun w'=>w'.cell? ⟨NX,0,none⟩=some (.int .i64 t))) (by kernel_rfl) (h1) (fun hH=>?_);refine wpAnyH_take (i:=0) (oi:=?o0) (v:=?v0) ?i0 (by kernel_rfl) (by kernel_rfl) (by kernel_rfl) ?q0 ?y0 hH ?_
 case i0=>simp only[zga,zgs,zgz];rfl
 case q0=>exact fun _ _ _ h=>hQ0 _ _ _ _ _ h
 case y0=>refine .inl ⟨by rfl,?_⟩;intro w' hSw;(try dsimp only at hSw);go_simp;try with_reducible rfl
 simp only[Act.put,zsa,zsz,zss];refine wpAnyH_take (i:=1) (oi:=?o1) (v:=?v1) ?i1 (by kernel_rfl) (by kernel_rfl) (by kernel_rfl) ?q1 ?y1 hH ?_
 case i1=>simp only[zga,zgs,zgz];rfl
 case q1=>exact fun _ _ _ h=>hQ0 _ _ _ _ _ h
 case y1=>refine .inl ⟨by rfl,?_⟩;intro w' hSw;(try dsimp only at hSw);go_simp;try with_reducible rfl
 simp only[Act.put,zsa,zsz,zss];refine wpAnyH_take (i:=2) (oi:=?o2) (v:=?v2) ?i2 (by kernel_rfl) (by kernel_rfl) (by kernel_rfl) ?q2 ?y2 hH ?_
 case i2=>simp only[zga,zgs,zgz];rfl
 case q2=>exact fun _ _ _ h=>hQ0 _ _ _ _ _ h
 case y2=>refine .inl ⟨by rfl,?_⟩;intro w' hSw;(try dsimp only at hSw);go_simp;try with_reducible rfl
 simp only[Act.put,zsa,zsz,zss];refine wpAnyH_take (i:=3) (oi:=?o3) (v:=?v3) ?i3 (by kernel_rfl) (by kernel_rfl) (by kernel_rfl) ?q3 ?y3 hH ?_
 case i3=>simp only[zga,zgs,zgz];rfl
 case q3=>exact fun _ _ _ h=>hQ0 _ _ _ _ _ h
 case y3=>refine .inl ⟨by rfl,?_⟩;intro w' hSw;(try dsimp only at hSw);go_simp;try with_reducible rfl
 simp only[Act.put,zsa,zsz,zss];refine wpAnyH_take (i:=4) (oi:=?o4) (v:=?v4) ?i4 (by kernel_rfl) (by kernel_rfl) (by kernel_rfl) ?q4 ?y4 hH ?_
 case i4=>simp only[zga,zgs,zgz];rfl
 case q4=>exact fun _ _ _ h=>hQ0 _ _ _ _ _ h
 case y4=>refine .inl ⟨by rfl,?_⟩;intro w' hSw;(try dsimp only at hSw);go_simp;try with_reducible rfl
 simp only[Act.put,zsa,zsz,zss];refine wpAnyH_take (i:=6) (oi:=?o5) (v:=?v5) ?i5 (by kernel_rfl) (by kernel_rfl) (by kernel_rfl) ?q5 ?y5 hH ?_
 case i5=>simp only[zga,zgs,zgz];rfl
 case q5=>exact fun _ _ _ h=>hQ0 _ _ _ _ _ h
 case y5=>refine .inl ⟨by rfl,?_⟩;intro w' hSw;(try dsimp only at hSw);go_simp;try with_reducible rfl
 simp only[Act.put,zsa,zsz,zss];refine wpAnyH_ready (rs:=[5,7]) (by kernel_rfl) (by simp) ?_;refine(AllReadyH.cons (o:=?o6) ?i6 (fun K hK=>?g6) (AllReadyH.cons (o:=?o7) ?i7 (fun K hK=>?g7) AllReadyH.nil))
 case i6=>simp only[zga,zgs,zgz];rfl
 case i7=>simp only[zga,zgs,zgz];rfl
 case g6 =>
  go_simp;refine hK.out _ _ (hH) (fun hN=>?_);clear hK K hH;have hH:=hN;clear hN
  try simp only[Act.put,zsa,zsz,zss]
  refine zr (r:=7) (o:=?o8) (by kernel_rfl) ?i8 (fun K hK=>?g8)
  case i8=>simp only[zga,zgs,zgz];rfl
  case g8 =>
   go_simp;refine hK.out _ _ (keep_alloc hH _) (fun hN=>?_);clear hK K hH;have hH:=hN;clear hN
   try simp only[Act.put,zsa,zsz,zss]
   refine zr (r:=8) (o:=?o9) (by kernel_rfl) ?i9 (fun K hK=>?g9)
   case i9=>simp only[zga,zgs,zgz];rfl
   case g9 =>
    refine step_append_any _ (by rfl) _ _ 22 (by rfl) B 3 i0 (.int .i64 0) 1 8 underlying22 HI.out.1 HI.out.2.1 HI.out.2.2.1 HI.out.2.2.2 rfl (by decide) (.slice a k c) k l0 (by rfl) HOA.out (.slice (some ⟨w1.heap.size,0,none⟩) 1 1) 1 [.int .i64 t] (by rfl) (by rfl) HSR.out HON.out HM.out.1 HM.out.2 HBS.out _ rfl ?_;intro a2 c2 w3 hown hgrow hblk;have HO3:Hid (w3.ownsRow B 3 1 (.slice a2 (k+1) c2) (k+1) (l0++[.int .i64 t])):=hown;have HG3:Hid (w1.grownBy w3 (Value.slice a k c).ownBlock):=hidF (grown_drew (grown_alloc (w:=w1.drew) hgrow));have HB3:Hid ((Value.slice a2 (k+1) c2).ownBlock=(Value.slice a k c).ownBlock∨(Value.slice a2 (k+1) c2).ownBlock=some (w1.heap.size+1)):=hidF (by first|exact hblk|simpa using hblk);have hv3:=HG3.out.cell cv HNB.out;have hz3:=(World.frozen?_of_block (w:=w1) (HG3.out.block NB (block_lt_of_cell cv) HNB.out)).trans zv;have h13:=HG3.out.cell h1 HNX.out;clear hown hgrow hblk;refine hK.out _ _ (h13) (fun hN=>?_);clear hK K hH;have hH:=hN;clear hN
    try simp only[Act.put,zsa,zsz,zss]
    refine wpAnyH_take (i:=9) (oi:=?o10) (v:=?v10) ?i10 (by kernel_rfl) (by kernel_rfl) (by kernel_rfl) ?q10 ?y10 hH ?_
    case i10=>simp only[zga,zgs,zgz];rfl
    case q10=>exact fun _ _ _ h=>hQ0 _ _ _ _ _ h
    case y10=>refine .inl ⟨by rfl,?_⟩;intro w' hSw;(try dsimp only at hSw);go_simp;try with_reducible rfl
    simp only[Act.put,zsa,zsz,zss];refine zr (r:=10) (o:=?o11) (by kernel_rfl) ?i11 (fun K hK=>?g11)
    case i11=>simp only[zga,zgs,zgz];rfl
    case g11 =>
     go_simp;refine hK.out _ _ (keep_set h13 HNE.out) (fun hN=>?_);clear hK K hH;have hH:=hN;clear hN
     try simp only[Act.put,zsa,zsz,zss]
     refine wpAnyH_done (by kernel_rfl) ?_ _;exact HK.out _ _ _ _ _ _ _ _ _ _ a2 c2 w3 HO3.out HG3.out HB3.out
 case g7 =>
  go_simp;refine hK.out _ _ (keep_alloc hH _) (fun hN=>?_);clear hK K hH;have hH:=hN;clear hN
  try simp only[Act.put,zsa,zsz,zss]
  refine zr (r:=5) (o:=?o12) (by kernel_rfl) ?i12 (fun K hK=>?g12)
  case i12=>simp only[zga,zgs,zgz];rfl
  case g12 =>
   go_simp;refine hK.out _ _ (hH) (fun hN=>?_);clear hK K hH;have hH:=hN;clear hN
   try simp only[Act.put,zsa,zsz,zss]
   refine zr (r:=8) (o:=?o13) (by kernel_rfl) ?i13 (fun K hK=>?g13)
   case i13=>simp only[zga,zgs,zgz];rfl
   case g13 =>
    refine step_append_any _ (by rfl) _ _ 22 (by rfl) B 3 i0 (.int .i64 0) 1 8 underlying22 HI.out.1 HI.out.2.1 HI.out.2.2.1 HI.out.2.2.2 rfl (by decide) (.slice a k c) k l0 (by rfl) HOA.out (.slice (some ⟨w1.heap.size,0,none⟩) 1 1) 1 [.int .i64 t] (by rfl) (by rfl) HSR.out HON.out HM.out.1 HM.out.2 HBS.out _ rfl ?_;intro a2 c2 w3 hown hgrow hblk;have HO3:Hid (w3.ownsRow B 3 1 (.slice a2 (k+1) c2) (k+1) (l0++[.int .i64 t])):=hown;have HG3:Hid (w1.grownBy w3 (Value.slice a k c).ownBlock):=hidF (grown_drew (grown_alloc (w:=w1.drew) hgrow));have HB3:Hid ((Value.slice a2 (k+1) c2).ownBlock=(Value.slice a k c).ownBlock∨(Value.slice a2 (k+1) c2).ownBlock=some (w1.heap.size+1)):=hidF (by first|exact hblk|simpa using hblk);have hv3:=HG3.out.cell cv HNB.out;have hz3:=(World.frozen?_of_block (w:=w1) (HG3.out.block NB (block_lt_of_cell cv) HNB.out)).trans zv;have h13:=HG3.out.cell h1 HNX.out;clear hown hgrow hblk;refine hK.out _ _ (h13) (fun hN=>?_);clear hK K hH;have hH:=hN;clear hN
    try simp only[Act.put,zsa,zsz,zss]
    refine wpAnyH_take (i:=9) (oi:=?o14) (v:=?v14) ?i14 (by kernel_rfl) (by kernel_rfl) (by kernel_rfl) ?q14 ?y14 hH ?_
    case i14=>simp only[zga,zgs,zgz];rfl
    case q14=>exact fun _ _ _ h=>hQ0 _ _ _ _ _ h
    case y14=>refine .inl ⟨by rfl,?_⟩;intro w' hSw;(try dsimp only at hSw);go_simp;try with_reducible rfl
    simp only[Act.put,zsa,zsz,zss];refine zr (r:=10) (o:=?o15) (by kernel_rfl) ?i15 (fun K hK=>?g15)
    case i15=>simp only[zga,zgs,zgz];rfl
    case g15 =>
     go_simp;refine hK.out _ _ (keep_set h13 HNE.out) (fun hN=>?_);clear hK K hH;have hH:=hN;clear hN
     try simp only[Act.put,zsa,zsz,zss]
     refine wpAnyH_done (by kernel_rfl) ?_ _;exact HK.out _ _ _ _ _ _ _ _ _ _ a2 c2 w3 HO3.out HG3.out HB3.out
theorem tc_reg (NX NB n B x t:Nat) (rv:Nat→Value) (g:Nat→List Nat) (z0 z1 z2 z5 z6 z8 z9 z10 z11 z12 z13 z14 z15 z16 z17 z18 z19 z20 z21 z22 z23 z24 z25 z26 z27 z28 z29 z30 z31 z32 z33 z34 z35 z36 z37 z38 z39 z40 z41 z42 z43 z44 z45 z46 z47 z48 z49 z50 z51 z52 z53 z54:Value) (DF:List Deferred) (Q0:Exit→Act→World→Prop) (W:World)
  (hQ0:∀ c (a:Act) (dd:Option Tmp) v x,Q0 (.panic c) (a.put dd v) x→Q0 (.panic c) a x)
  (h1:W.cell? ⟨NX,0,none⟩=some (.int .i64 t)) (hni:NI B NB n rv g W) (hx:x<n) (hg:(g x).length≤1000000000000) (hB:B≤W.heap.size) (hfar:∀ i,i<n→some NX≠(rv i).ownBlock) (hne:NX≠NB)
  (HK:∀ y42 y43 y44 y45 y46 y47 y48 y49 y50 y51 (W':World) rv',NI B NB n rv' (addG g x t) W'→(∀ k,k≠NB→k<W.heap.size→(∀ i,i<n→some k≠(rv i).ownBlock)→W'.heap[k]? = W.heap[k]?)→W.heap.size≤W'.heap.size→W'.os=W.os→W'.tape=W.tape→W'.output=W.output→(∀ i,i<n→∀ b,(rv' i).ownBlock=some b→(rv i).ownBlock=some b∨W.heap.size≤b)→Q0 .normal ⟨#[z0,z1,z2,.slice (some ⟨NB,0,none⟩) n n,.pointer (some ⟨NX,0,none⟩),z5,z6,.int .i64 (x:Int),z8,z9,z10,z11,z12,z13,z14,z15,z16,z17,z18,z19,z20,z21,z22,z23,z24,z25,z26,z27,z28,z29,z30,z31,z32,z33,z34,z35,z36,z37,z38,z39,z40,z41,y42,y43,y44,y45,y46,y47,y48,y49,y50,y51,z52,z53,z54],DF⟩ W') :
  Code.wp prog tcReg Q0 ⟨#[z0,z1,z2,.slice (some ⟨NB,0,none⟩) n n,.pointer (some ⟨NX,0,none⟩),z5,z6,.int .i64 (x:Int),z8,z9,z10,z11,z12,z13,z14,z15,z16,z17,z18,z19,z20,z21,z22,z23,z24,z25,z26,z27,z28,z29,z30,z31,z32,z33,z34,z35,z36,z37,z38,z39,z40,z41,z42,z43,z44,z45,z46,z47,z48,z49,z50,z51,z52,z53,z54],DF⟩ W:=by
 have hown:=hni.own x hx;have hcx:=hni.cell x hx;have hnx:=hni.ne x hx;have hfx:=hfar x hx
 obtain⟨ra,rc,hrv⟩:∃ ra rc,rv x=.slice ra (g x).length rc:=by
  rcases hown.2 with ⟨e1,e2⟩|⟨g',cap,cur,e1,_⟩
  ·exact⟨none,0,by rw[e1,e2]⟩
  ·exact⟨_,cap,by rw[e1]⟩
 rw[hrv] at hown hcx hnx hfx;refine tc_reg0 NX NB n B x t (g x).length rc ra (intsF (up (g x))) _ _ _ _ _ _ _ _ _ _ _ _ _ _ _ _ _ _ _ _ _ _ _ _ _ _ _ _ _ _ _ _ _ _ _ _ _ _ _ _ _ _ _ _ _ _ _ _ _ _ _ _ DF Q0 W hQ0 h1 hcx.1 hcx.2 (by omega) (by omega) hg hown hB hnx hfx hne ?_;intro y42 y43 y44 y45 y46 y47 y48 y49 y50 y51 a2 c2 w3 q4 q5 q6;rw[← hrv] at q5 q6;have hp:=hni.push hx q4 q5 q6 (Nat.le_succ _);refine HK y42 y43 y44 y45 y46 y47 y48 y49 y50 y51 _ _ hp (fun k h2 h3 h4=>?_) (by rw[gsize_setF];exact q5.size) q5.os q5.tape q5.output (fun i hi b hb=>?_)
 ·rw[gset_otherF h2,q5.block k h3 (h4 x hx)]
 ·unfold setR at hb
  by_cases e:i=x
  ·subst e
   rw[if_pos rfl] at hb
   rcases q6 with z|z
   ·exact .inl (z.symm.trans hb)
   ·rw[z] at hb
    injection hb with hb
    right
    rw[← hb]
    omega
  ·rw[if_neg e] at hb
   exact .inl hb
end Go.Proofs.YtaimifnppackgaaGreatDoor
