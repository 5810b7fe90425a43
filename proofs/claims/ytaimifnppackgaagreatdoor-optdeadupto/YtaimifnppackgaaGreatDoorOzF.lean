import Derived.Test.YtaimifnppackgaaGreatDoorOzD
import Derived.Test.YtaimifnppackgaaGreatDoorFlTc1
import Derived.Lib.SliceRun
namespace Go.Proofs.YtaimifnppackgaaGreatDoor
open Go.ChangeShapes Go.WideShapes Go.ChangeAt Go.RowKit Go.Proofs.Tryz
set_option linter.all false
set_option maxRecDepth 100000
set_option maxHeartbeats 4000000
noncomputable def bkRange:List (Array Tmp×Code×Code):=(Tryz.f30.body.map rangesOfF).getD []
noncomputable def bkAssign:Code:=((bkRange[0]?).map (·.2.1)).getD .skip
noncomputable def bkBody:Code:=((bkRange[0]?).map (·.2.2)).getD .skip
attribute [local go_sem] Oper.semAt_some
theorem bk_round0 (l LX NX NB n B x t k c d:Nat) (a:Option Addr) (l0:List Value) (fn:FuncId) (z0 z1 z2 z5 z6 z7 z8 z9 z10 z11 z12 z13 z14 z15 z16 z17 z18 z19 z20 z21 z22 z23 z24 z25 z26 z27 z28 z29 z30 z31:Value) (W:World) (R:Ending→World→Prop)
  (hl:W.heap[l]? = some (.loop (loopRec fn #[z0,z1,z2,.pointer (some ⟨LX,0,none⟩),.pointer (some ⟨NX,0,none⟩),z5,z6,z7,z8,z9,z10,z11,z12,z13,z14,z15,z16,z17,z18,z19,z20,z21,z22,z23,z24,z25,z26,z27,z28,z29,z30,z31] #[19] bkAssign bkBody d))) (h0:W.cell? ⟨LX,0,none⟩=some (.slice (some ⟨NB,0,none⟩) n n)) (h1:W.cell? ⟨NX,0,none⟩=some (.int .i64 t)) (cv:W.cell? ⟨NB,x,none⟩=some (.slice a k c)) (zv:W.frozen? ⟨NB,x,none⟩=false)
  (j0:(0:Int)≤x) (j1:(x:Int)<n) (hk:k≤1000000000000) (HO:Hid (W.ownsRow B 3 1 (.slice a k c) k l0)) (HBS0:Hid (B≤W.heap.size)) (HNB:Hid (some NB≠(Value.slice a k c).ownBlock)) (HLX:Hid (some LX≠(Value.slice a k c).ownBlock)) (HNX:Hid (some NX≠(Value.slice a k c).ownBlock)) (HNE:Hid (LX≠NB∧NX≠NB))
  (HT:Hid (∀ (W2 w3:World) a2 c2,(∀ k,k≠l→W2.heap[k]? = W.heap[k]?)→W2.heap[l]? = some (.loop { state:=.busy,pending:=none,fn:=fn,tmps:=#[z0,z1,z2,.pointer (some ⟨LX,0,none⟩),.pointer (some ⟨NX,0,none⟩),z5,z6,z7,z8,z9,z10,z11,z12,z13,z14,z15,z16,z17,z18,z19,z20,z21,z22,z23,z24,z25,z26,z27,z28,z29,z30,z31],params:=#[19],assign:=bkAssign,body:=bkBody,defers:=d })→(W2.heap.size=W.heap.size∧W2.os=W.os∧W2.tape=W.tape∧W2.output=W.output)→w3.ownsRow B 3 1 (.slice a2 (k+1) c2) (k+1) (l0++[.int .i64 t])→W2.grownBy w3 (Value.slice a k c).ownBlock→((Value.slice a2 (k+1) c2).ownBlock=(Value.slice a k c).ownBlock∨(Value.slice a2 (k+1) c2).ownBlock=some (W2.heap.size+1)) →
   R (.returned (.bool true)) ((w3.setCell ⟨NB,x,none⟩ (.slice a2 (k+1) c2)).putObj l (.loop { state:=.ready,pending:=none,fn:=fn,tmps:=#[z0,z1,z2,.pointer (some ⟨LX,0,none⟩),.pointer (some ⟨NX,0,none⟩),z5,z6,z7,z8,z9,z10,z11,z12,z13,z14,z15,z16,z17,z18,z19,z20,z21,z22,z23,z24,z25,z26,z27,z28,z29,z30,z31],params:=#[19],assign:=bkAssign,body:=bkBody,defers:=d })))) :
  YieldAt Fence.wide 0 prog l #[.int .i64 x] W R:=by
 have n0:=cell_not_loopF hl h0;have n1:=cell_not_loopF hl h1;have n4:=cell_not_loopF hl cv;have HLO:Hid (some l≠(Value.slice a k c).ownBlock):=fun e=>ownsRow_not_loop HO.out e.symm hl;refine yield_round hl rfl rfl trivial ?_;simp only[loopRec]
 conv=>arg 4;whnf
 gi_wp2
 refine⟨(by first|exact hl|rfl),?_⟩
 conv=>arg 4;whnf
 have ll:l<W.heap.size:=(zge hl).1;obtain⟨W2,hW2⟩:∃ W2,W.putObj l (.loop { state:=.busy,pending:=none,fn:=fn,tmps:=#[z0,z1,z2,.pointer (some ⟨LX,0,none⟩),.pointer (some ⟨NX,0,none⟩),z5,z6,z7,z8,z9,z10,z11,z12,z13,z14,z15,z16,z17,z18,z19,z20,z21,z22,z23,z24,z25,z26,z27,z28,z29,z30,z31],params:=#[19],assign:=bkAssign,body:=bkBody,defers:=d })=W2:=⟨_,rfl⟩;have HOT:Hid (∀ k,k≠l→W2.heap[k]? = W.heap[k]?):=fun k hk=>by rw[←hW2];exact put_otherF hk
 have HL:Hid (W2.heap[l]? = some (.loop { state:=.busy,pending:=none,fn:=fn,tmps:=#[z0,z1,z2,.pointer (some ⟨LX,0,none⟩),.pointer (some ⟨NX,0,none⟩),z5,z6,z7,z8,z9,z10,z11,z12,z13,z14,z15,z16,z17,z18,z19,z20,z21,z22,z23,z24,z25,z26,z27,z28,z29,z30,z31],params:=#[19],assign:=bkAssign,body:=bkBody,defers:=d })):=by show _=_;rw[←hW2];exact World.putObj_heap_same ll
 have HS:Hid (W2.heap.size=W.heap.size∧W2.os=W.os∧W2.tape=W.tape∧W2.output=W.output):=by rw[←hW2];exact⟨World.putObj_size ..,rfl,rfl,rfl⟩
 rw[hW2];clear hW2 hl;replace h0:=(World.cell?_of_block (HOT.out LX n0)).trans h0;replace h1:=(World.cell?_of_block (HOT.out NX n1)).trans h1;replace cv:=(World.cell?_of_block (HOT.out NB n4)).trans cv;replace zv:=(World.frozen?_of_block (HOT.out NB n4)).trans zv;replace HO:Hid (W2.ownsRow B 3 1 (.slice a k c) k l0):=ownsRow_blk HO.out (fun b hb=>HOT.out b (fun e=>HLO.out (by rw[hb,e])));replace HBS0:Hid (B≤W2.heap.size):=by have:=HBS0.out;have:=HS.out.1;show _≤_;omega
 have HE:Hid (∀ a2 c2 w3,w3.ownsRow B 3 1 (.slice a2 (k+1) c2) (k+1) (l0++[.int .i64 t])→W2.grownBy w3 (Value.slice a k c).ownBlock→((Value.slice a2 (k+1) c2).ownBlock=(Value.slice a k c).ownBlock∨(Value.slice a2 (k+1) c2).ownBlock=some (W2.heap.size+1)) →
   R (.returned (.bool true)) ((w3.setCell ⟨NB,x,none⟩ (.slice a2 (k+1) c2)).putObj l (.loop { state:=.ready,pending:=none,fn:=fn,tmps:=#[z0,z1,z2,.pointer (some ⟨LX,0,none⟩),.pointer (some ⟨NX,0,none⟩),z5,z6,z7,z8,z9,z10,z11,z12,z13,z14,z15,z16,z17,z18,z19,z20,z21,z22,z23,z24,z25,z26,z27,z28,z29,z30,z31],params:=#[19],assign:=bkAssign,body:=bkBody,defers:=d }))∧(w3.setCell ⟨NB,x,none⟩ (.slice a2 (k+1) c2)).heap[l]? = some (.loop { state:=.busy,pending:=none,fn:=fn,tmps:=#[z0,z1,z2,.pointer (some ⟨LX,0,none⟩),.pointer (some ⟨NX,0,none⟩),z5,z6,z7,z8,z9,z10,z11,z12,z13,z14,z15,z16,z17,z18,z19,z20,z21,z22,z23,z24,z25,z26,z27,z28,z29,z30,z31],params:=#[19],assign:=bkAssign,body:=bkBody,defers:=d })):=fun a2 c2 w3 q1 q2 q3 =>
  ⟨HT.out W2 w3 a2 c2 HOT.out HL.out HS.out q1 q2 q3,by rw[gset_otherF (Ne.symm n4),q2.block l (by rw[HS.out.1];exact ll) HLO.out];exact HL.out⟩
 obtain⟨i0,hi,hz0,hz1,hz2⟩:∃ i0,prog.info? 3=some i0∧i0.zero=some (.int .i64 0)∧i0.size=1∧i0.bytes=8:=info_parts (by kernel_rfl);have HI:=hidF (And.intro hi (And.intro hz0 (And.intro hz1 hz2)));clear hi hz0 hz1 hz2 HT;have HOA:Hid ((W2.drew.alloc (.cells #[.int .i64 t] 3)).ownsRow B 3 1 (.slice a k c) k l0):=World.ownsRow.alloc (w:=W2.drew) HO.out _
 have HSR:Hid (Srow (W2.drew.alloc (.cells #[.int .i64 t] 3)) (.slice (some ⟨W2.heap.size,0,none⟩) 1 1) 1 [.int .i64 t]):=by
  refine .inl ⟨_,_,rfl,fun j u hj=>?_⟩
  match j,hj with
  |0,hj =>
   cases hj
   rw[show (⟨W2.heap.size,0,none⟩:Addr).add 0=⟨W2.heap.size,0+0,none⟩ from Addr.add_mid _ _ _];exact cell_new W2.drew (.int .i64 t) 3 (by rfl)
  |j+1,hj=>simp at hj
 have HON:Hid (∀ u∈[Value.int .i64 t],u.oneCell'=true):=fun u hu=>by cases List.mem_singleton.1 hu;rfl
 have HM:Hid (k+1≤maxLen∧(k+1)*8≤140737488355328):=⟨by unfold maxLen;omega,by omega⟩
 have HBS:Hid (B≤(W2.drew.alloc (.cells #[.int .i64 t] 3)).heap.size):=by
  show _≤_
  rw[World.size_alloc];have:=HBS0.out;have:W2.drew.heap.size=W2.heap.size:=rfl
  omega
 have x7:∀ o,(W2.drew.alloc o).cell? ⟨NB,x,none⟩=some (.slice a k c):=fun o=>keep_alloc (w:=W2.drew) cv o;have x7':∀ o,(W2.alloc o).cell? ⟨NB,x,none⟩=some (.slice a k c):=fun o=>keep_alloc (w:=W2) cv o
 gi_wp2
 refine wpIn_held_round (S:=(fun w'=>w'.cell? ⟨LX,0,none⟩=some (.slice (some ⟨NB,0,none⟩) n n)∧w'.cell? ⟨NX,0,none⟩=some (.int .i64 t))) (by rintro⟨a,w,h⟩;exact h) (by kernel_rfl) (by kernel_rfl) (⟨h0,h1⟩) (fun hH=>?_);refine wpAnyH_take (i:=0) (oi:=?o0) (v:=?v0) ?i0 (by kernel_rfl) (by kernel_rfl) (by kernel_rfl) ?q0 ?y0 hH ?_
 case i0=>simp only[zga,zgs,zgz];rfl
 case q0=>exact fun _ _ _ h=>h
 case y0=>refine .inl ⟨by rfl,?_⟩;intro w' hSw;(try dsimp only at hSw);go_simp;try with_reducible rfl
 simp only[Act.put,zsa,zsz,zss];refine wpAnyH_take (i:=1) (oi:=?o1) (v:=?v1) ?i1 (by kernel_rfl) (by kernel_rfl) (by kernel_rfl) ?q1 ?y1 hH ?_
 case i1=>simp only[zga,zgs,zgz];rfl
 case q1=>exact fun _ _ _ h=>h
 case y1=>refine .inl ⟨by rfl,?_⟩;intro w' hSw;(try dsimp only at hSw);go_simp;try with_reducible rfl
 simp only[Act.put,zsa,zsz,zss];refine wpAnyH_take (i:=2) (oi:=?o2) (v:=?v2) ?i2 (by kernel_rfl) (by kernel_rfl) (by kernel_rfl) ?q2 ?y2 hH ?_
 case i2=>simp only[zga,zgs,zgz];rfl
 case q2=>exact fun _ _ _ h=>h
 case y2=>refine .inl ⟨by rfl,?_⟩;intro w' hSw;(try dsimp only at hSw);go_simp;try with_reducible rfl
 simp only[Act.put,zsa,zsz,zss];refine wpAnyH_take (i:=3) (oi:=?o3) (v:=?v3) ?i3 (by kernel_rfl) (by kernel_rfl) (by kernel_rfl) ?q3 ?y3 hH ?_
 case i3=>simp only[zga,zgs,zgz];rfl
 case q3=>exact fun _ _ _ h=>h
 case y3=>refine .inl ⟨by rfl,?_⟩;intro w' hSw;(try dsimp only at hSw);go_simp;try with_reducible rfl
 simp only[Act.put,zsa,zsz,zss];refine wpAnyH_take (i:=4) (oi:=?o4) (v:=?v4) ?i4 (by kernel_rfl) (by kernel_rfl) (by kernel_rfl) ?q4 ?y4 hH ?_
 case i4=>simp only[zga,zgs,zgz];rfl
 case q4=>exact fun _ _ _ h=>h
 case y4=>refine .inl ⟨by rfl,?_⟩;intro w' hSw;(try dsimp only at hSw);go_simp;try with_reducible rfl
 simp only[Act.put,zsa,zsz,zss];refine wpAnyH_take (i:=6) (oi:=?o5) (v:=?v5) ?i5 (by kernel_rfl) (by kernel_rfl) (by kernel_rfl) ?q5 ?y5 hH ?_
 case i5=>simp only[zga,zgs,zgz];rfl
 case q5=>exact fun _ _ _ h=>h
 case y5=>refine .inl ⟨by rfl,?_⟩;intro w' hSw;(try dsimp only at hSw);go_simp;try with_reducible rfl
 simp only[Act.put,zsa,zsz,zss];refine wpAnyH_ready (rs:=[5,7]) (by kernel_rfl) (by simp) ?_;refine(AllReadyH.cons (o:=?o6) ?i6 (fun K hK=>?g6) (AllReadyH.cons (o:=?o7) ?i7 (fun K hK=>?g7) AllReadyH.nil))
 case i6=>simp only[zga,zgs,zgz];rfl
 case i7=>simp only[zga,zgs,zgz];rfl
 case g6 =>
  go_simp;refine hK.out _ _ (hH) (fun hN=>?_);clear hK K hH;have hH:=hN;clear hN
  try simp only[Act.put,zsa,zsz,zss]
  refine zr (r:=7) (o:=?o8) (by kernel_rfl) ?i8 (fun K hK=>?g8)
  case i8=>simp only[zga,zgs,zgz];rfl
  case g8 =>
   go_simp;refine hK.out _ _ (⟨keep_alloc hH.1 _,keep_alloc hH.2 _⟩) (fun hN=>?_);clear hK K hH;have hH:=hN;clear hN
   try simp only[Act.put,zsa,zsz,zss]
   refine zr (r:=8) (o:=?o9) (by kernel_rfl) ?i9 (fun K hK=>?g9)
   case i9=>simp only[zga,zgs,zgz];rfl
   case g9 =>
    refine step_append_any _ (by rfl) _ _ 22 (by rfl) B 3 i0 (.int .i64 0) 1 8 underlying22 HI.out.1 HI.out.2.1 HI.out.2.2.1 HI.out.2.2.2 rfl (by decide) (.slice a k c) k l0 (by rfl) HOA.out (.slice (some ⟨W2.heap.size,0,none⟩) 1 1) 1 [.int .i64 t] (by rfl) (by rfl) HSR.out HON.out HM.out.1 HM.out.2 HBS.out _ rfl ?_;intro a2 c2 w3 hown hgrow hblk;have HO3:Hid (w3.ownsRow B 3 1 (.slice a2 (k+1) c2) (k+1) (l0++[.int .i64 t])):=hown;have HG3:Hid (W2.grownBy w3 (Value.slice a k c).ownBlock):=hidF (grown_drew (grown_alloc (w:=W2.drew) hgrow));have HB3:Hid ((Value.slice a2 (k+1) c2).ownBlock=(Value.slice a k c).ownBlock∨(Value.slice a2 (k+1) c2).ownBlock=some (W2.heap.size+1)):=hidF (by first|exact hblk|simpa using hblk);have hv3:=HG3.out.cell cv HNB.out;have hz3:=(World.frozen?_of_block (w:=W2) (HG3.out.block NB (block_lt_of_cell cv) HNB.out)).trans zv;have h03:=HG3.out.cell h0 HLX.out;have h13:=HG3.out.cell h1 HNX.out;clear hown hgrow hblk;refine hK.out _ _ (⟨h03,h13⟩) (fun hN=>?_);clear hK K hH;have hH:=hN;clear hN
    try simp only[Act.put,zsa,zsz,zss]
    refine wpAnyH_take (i:=9) (oi:=?o10) (v:=?v10) ?i10 (by kernel_rfl) (by kernel_rfl) (by kernel_rfl) ?q10 ?y10 hH ?_
    case i10=>simp only[zga,zgs,zgz];rfl
    case q10=>exact fun _ _ _ h=>h
    case y10=>refine .inl ⟨by rfl,?_⟩;intro w' hSw;(try dsimp only at hSw);go_simp;try with_reducible rfl
    simp only[Act.put,zsa,zsz,zss];refine zr (r:=10) (o:=?o11) (by kernel_rfl) ?i11 (fun K hK=>?g11)
    case i11=>simp only[zga,zgs,zgz];rfl
    case g11 =>
     go_simp;refine hK.out _ _ (⟨keep_set h03 HNE.out.1,keep_set h13 HNE.out.2⟩) (fun hN=>?_);clear hK K hH;have hH:=hN;clear hN
     try simp only[Act.put,zsa,zsz,zss]
     refine wpAnyH_done (by kernel_rfl) ?_ _;exact⟨(HE.out a2 c2 w3 HO3.out HG3.out HB3.out).2,(HE.out a2 c2 w3 HO3.out HG3.out HB3.out).1⟩
 case g7 =>
  go_simp;refine hK.out _ _ (⟨keep_alloc hH.1 _,keep_alloc hH.2 _⟩) (fun hN=>?_);clear hK K hH;have hH:=hN;clear hN
  try simp only[Act.put,zsa,zsz,zss]
  refine zr (r:=5) (o:=?o12) (by kernel_rfl) ?i12 (fun K hK=>?g12)
  case i12=>simp only[zga,zgs,zgz];rfl
  case g12 =>
   go_simp;refine hK.out _ _ (hH) (fun hN=>?_);clear hK K hH;have hH:=hN;clear hN
   try simp only[Act.put,zsa,zsz,zss]
   refine zr (r:=8) (o:=?o13) (by kernel_rfl) ?i13 (fun K hK=>?g13)
   case i13=>simp only[zga,zgs,zgz];rfl
   case g13 =>
    refine step_append_any _ (by rfl) _ _ 22 (by rfl) B 3 i0 (.int .i64 0) 1 8 underlying22 HI.out.1 HI.out.2.1 HI.out.2.2.1 HI.out.2.2.2 rfl (by decide) (.slice a k c) k l0 (by rfl) HOA.out (.slice (some ⟨W2.heap.size,0,none⟩) 1 1) 1 [.int .i64 t] (by rfl) (by rfl) HSR.out HON.out HM.out.1 HM.out.2 HBS.out _ rfl ?_;intro a2 c2 w3 hown hgrow hblk;have HO3:Hid (w3.ownsRow B 3 1 (.slice a2 (k+1) c2) (k+1) (l0++[.int .i64 t])):=hown;have HG3:Hid (W2.grownBy w3 (Value.slice a k c).ownBlock):=hidF (grown_drew (grown_alloc (w:=W2.drew) hgrow));have HB3:Hid ((Value.slice a2 (k+1) c2).ownBlock=(Value.slice a k c).ownBlock∨(Value.slice a2 (k+1) c2).ownBlock=some (W2.heap.size+1)):=hidF (by first|exact hblk|simpa using hblk);have hv3:=HG3.out.cell cv HNB.out;have hz3:=(World.frozen?_of_block (w:=W2) (HG3.out.block NB (block_lt_of_cell cv) HNB.out)).trans zv;have h03:=HG3.out.cell h0 HLX.out;have h13:=HG3.out.cell h1 HNX.out;clear hown hgrow hblk;refine hK.out _ _ (⟨h03,h13⟩) (fun hN=>?_);clear hK K hH;have hH:=hN;clear hN
    try simp only[Act.put,zsa,zsz,zss]
    refine wpAnyH_take (i:=9) (oi:=?o14) (v:=?v14) ?i14 (by kernel_rfl) (by kernel_rfl) (by kernel_rfl) ?q14 ?y14 hH ?_
    case i14=>simp only[zga,zgs,zgz];rfl
    case q14=>exact fun _ _ _ h=>h
    case y14=>refine .inl ⟨by rfl,?_⟩;intro w' hSw;(try dsimp only at hSw);go_simp;try with_reducible rfl
    simp only[Act.put,zsa,zsz,zss];refine zr (r:=10) (o:=?o15) (by kernel_rfl) ?i15 (fun K hK=>?g15)
    case i15=>simp only[zga,zgs,zgz];rfl
    case g15 =>
     go_simp;refine hK.out _ _ (⟨keep_set h03 HNE.out.1,keep_set h13 HNE.out.2⟩) (fun hN=>?_);clear hK K hH;have hH:=hN;clear hN
     try simp only[Act.put,zsa,zsz,zss]
     refine wpAnyH_done (by kernel_rfl) ?_ _;exact⟨(HE.out a2 c2 w3 HO3.out HG3.out HB3.out).2,(HE.out a2 c2 w3 HO3.out HG3.out HB3.out).1⟩
theorem bk_round (l LX NX NB n B x t d:Nat) (rv:Nat→Value) (g:Nat→List Nat) (fn:FuncId) (z0 z1 z2 z5 z6 z7 z8 z9 z10 z11 z12 z13 z14 z15 z16 z17 z18 z19 z20 z21 z22 z23 z24 z25 z26 z27 z28 z29 z30 z31:Value) (W:World) (R:Ending→World→Prop)
  (hl:W.heap[l]? = some (.loop (loopRec fn #[z0,z1,z2,.pointer (some ⟨LX,0,none⟩),.pointer (some ⟨NX,0,none⟩),z5,z6,z7,z8,z9,z10,z11,z12,z13,z14,z15,z16,z17,z18,z19,z20,z21,z22,z23,z24,z25,z26,z27,z28,z29,z30,z31] #[19] bkAssign bkBody d))) (h0:W.cell? ⟨LX,0,none⟩=some (.slice (some ⟨NB,0,none⟩) n n)) (h1:W.cell? ⟨NX,0,none⟩=some (.int .i64 t)) (hni:NI B NB n rv g W) (hx:x<n) (hg:(g x).length≤1000000000000) (hB:B≤W.heap.size)
  (hfar:∀ i,i<n→some LX≠(rv i).ownBlock∧some NX≠(rv i).ownBlock) (hne:LX≠NB∧NX≠NB)
  (HT:∀ (W':World) rv',NI B NB n rv' (addG g x t) W'→(∀ k,k≠l→k≠NB→k<W.heap.size→(∀ i,i<n→some k≠(rv i).ownBlock)→W'.heap[k]? = W.heap[k]?)→W'.heap[l]? = some (.loop (loopRec fn #[z0,z1,z2,.pointer (some ⟨LX,0,none⟩),.pointer (some ⟨NX,0,none⟩),z5,z6,z7,z8,z9,z10,z11,z12,z13,z14,z15,z16,z17,z18,z19,z20,z21,z22,z23,z24,z25,z26,z27,z28,z29,z30,z31] #[19] bkAssign bkBody d))→W.heap.size≤W'.heap.size→W'.os=W.os→W'.tape=W.tape→W'.output=W.output→(∀ i,i<n→∀ b,(rv' i).ownBlock=some b→(rv i).ownBlock=some b∨W.heap.size≤b)→R (.returned (.bool true)) W') :
  YieldAt Fence.wide 0 prog l #[.int .i64 x] W R:=by
 have hown:=hni.own x hx;have hcx:=hni.cell x hx;have hnx:=hni.ne x hx;have hfx:=hfar x hx;have hlo:some l≠(rv x).ownBlock:=fun e=>ownsRow_not_loop hown e.symm hl;have nb:=cell_not_loopF hl hcx.1;have ll:l<W.heap.size:=(zge hl).1
 obtain⟨ra,rc,hrv⟩:∃ ra rc,rv x=.slice ra (g x).length rc:=by
  rcases hown.2 with ⟨e1,e2⟩|⟨g',cap,cur,e1,_⟩
  ·exact⟨none,0,by rw[e1,e2]⟩
  ·exact⟨_,cap,by rw[e1]⟩
 rw[hrv] at hown hcx hnx hfx;refine bk_round0 l LX NX NB n B x t (g x).length rc d ra (intsF (up (g x))) fn _ _ _ _ _ _ _ _ _ _ _ _ _ _ _ _ _ _ _ _ _ _ _ _ _ _ _ _ _ _ W R hl h0 h1 hcx.1 hcx.2 (by omega) (by omega) hg hown hB hnx hfx.1 hfx.2 hne ?_;intro W2 w3 a2 c2 q1 q2 q3 q4 q5 q6;rw[←hrv] at q5 q6;have hni2:=hni.loop hl q1;have hp:=hni2.push hx q4 q5 q6 (Nat.le_succ _)
 have hbz:(w3.setCell ⟨NB,x,none⟩ (.slice a2 ((g x).length+1) c2)).heap[l]? = W2.heap[l]? := by
  rw[gset_otherF (Ne.symm nb),q5.block l (by rw[q3.1];exact ll) hlo]
 have hsz:W.heap.size≤w3.heap.size:=by have:=q5.size;rw[q3.1] at this;exact this
 refine HT _ _ (hp.loop (hbz.trans q2) (fun k hk=>put_otherF hk)) (fun k h1 h2 h3 h4=>?_) (World.putObj_heap_same (by rw[gsize_setF];omega)) (by rw[World.putObj_size,gsize_setF];exact hsz) (q5.os.trans q3.2.1) (q5.tape.trans q3.2.2.1) (q5.output.trans q3.2.2.2) (fun i hi b hb=>?_)
 ·rw[put_otherF h1,gset_otherF h2,q5.block k (by rw[q3.1];exact h3) (h4 x hx)]
  exact q1 k h1
 ·unfold setR at hb
  by_cases e:i=x
  ·subst e
   rw[if_pos rfl] at hb
   rcases q6 with z|z
   ·exact .inl (z.symm.trans hb)
   ·rw[z] at hb
    injection hb with hb
    right
    rw[←hb,q3.1]
    omega
  ·rw[if_neg e] at hb
   exact .inl hb
structure Least (n:Nat) (es:List (Nat×Nat)) (f x:Nat→Int):Prop where
 ge:∀ i,i<n→f i≤x i
 cl:∀ e∈es,x e.1≤x e.2
 le:∀ z:Nat→Int,(∀ i,i<n→f i≤z i)→(∀ e∈es,z e.1≤z e.2)→∀ i,i<n→x i≤z i
def gOf (es:List (Nat×Nat)) (k:Nat):List Nat:=(es.filter fun e=>e.1==k).map (·.2)
theorem mem_gOf {es:List (Nat×Nat)} {k t:Nat}:t∈gOf es k↔(k,t)∈es:=by
 unfold gOf;rw[List.mem_map]
 constructor
 ·rintro⟨⟨a,b⟩,h1,rfl⟩
  rw[List.mem_filter] at h1;have:a=k:=by simpa using h1.2
  subst this;exact h1.1
 ·intro h
  exact⟨(k,t),List.mem_filter.2 ⟨h,by simp⟩,rfl⟩
theorem gOf_snoc (es:List (Nat×Nat)) (a b k:Nat):gOf (es++[(a,b)]) k=gOf es k++(if a=k then [b] else []):=by
 unfold gOf;rw[List.filter_append,List.map_append]
 congr 1
 by_cases h:a=k
 ·subst h;simp
 ·rw[if_neg h,List.filter_cons_of_neg (by simpa using h)];rfl
theorem gOf_length (es:List (Nat×Nat)) (k:Nat):(gOf es k).length≤es.length:=by
 unfold gOf;rw[List.length_map];exact List.length_filter_le _ _
structure PV (n:Nat) (es:List (Nat×Nat)) (f:Nat→Int) (m:Nat→Bool) (x:Nat→Int) (rest:List Nat):Prop where
 cl:∀ e∈es,m e.1=true→m e.2=true∧x e.1≤x e.2
 ge:∀ i,i<n→m i=true→f i≤x i
 le:∀ z:Nat→Int,(∀ i,i<n→f i≤z i)→(∀ e∈es,z e.1≤z e.2)→∀ i,i<n→m i=true→x i≤z i
 hi:∀ i,i<n→m i=true→∀ r∈rest,f r≤x i
 dn:∀ i,i<n→m i=true∨i∈rest
theorem PV.start (n:Nat) (es:List (Nat×Nat)) (f x:Nat→Int) (rest:List Nat) (h:∀ i,i<n→i∈rest):PV n es f (fun _=>false) x rest :=
 ⟨fun e _ h=>by simp at h,fun i _ h=>by simp at h,fun z _ _ i _ h=>by simp at h,fun i _ h=>by simp at h,fun i hi=>.inr (h i hi)⟩
def setX (x:Nat→Int) (v:Int) (o:List Nat):Nat→Int:=fun i=>if i∈o then v else x i
theorem PV.step {n:Nat} {es:List (Nat×Nat)} {f:Nat→Int} {m m':Nat→Bool} {x:Nat→Int} {r:Nat} {rest o:List Nat} (h:PV n es f m x (r::rest)) (hs:∀ s∈rest,f s≤f r) (hr:r<n) (hes:∀ e∈es,e.1<n∧e.2<n)
  (s:SR n (gOf es) m [r] m' o):PV n es f m' (setX x (f r) o) rest:=by
 have hout:∀ i,i∈o→m i=false:=fun i hi=>(s.si.un i (.inl hi)).1;have hmem:∀ i,m' i=true↔m i=true∨i∈o:=fun i=>by rw[s.si.mem i];simp
 have hno:∀ i,m i=true→i ∉ o:=fun i hm hi=>by rw[hout i hi] at hm;cases hm
 have hx:∀ i,m i=true→setX x (f r) o i=x i:=fun i hm=>by unfold setX;rw[if_neg (hno i hm)]
 have hxo:∀ i,i∈o→setX x (f r) o i=f r:=fun i hi=>by unfold setX;rw[if_pos hi]
 have hfr:∀ i,i<n→i∈o→f i≤f r:=fun i hin hi=>by
  rcases h.dn i hin with z|z
  ·rw[hout i hi] at z;cases z
  ·rcases List.mem_cons.1 z with rfl|z
   ·exact Int.le_refl _
   ·exact hs i z
 refine⟨fun e he hm=>?_,fun i hin hm=>?_,fun z h1 h2 i hin hm=>?_,fun i hin hm q hq=>?_,fun i hin=>?_⟩
 ·rcases (hmem e.1).1 hm with hm|hm
  ·obtain⟨q1,q2⟩:=h.cl e he hm
   exact⟨(hmem e.2).2 (.inl q1),by rw[hx _ hm,hx _ q1];exact q2⟩
  ·have ht:m' e.2=true:=s.cl e.1 hm e.2 (mem_gOf.2 he)
   refine⟨ht,?_⟩;rw[hxo _ hm]
   rcases (hmem e.2).1 ht with q|q
   ·rw[hx _ q];exact h.hi e.2 (hes e he).2 q r (by simp)
   ·rw[hxo _ q];exact Int.le_refl _
 ·rcases (hmem i).1 hm with hm|hm
  ·rw[hx _ hm];exact h.ge i hin hm
  ·rw[hxo _ hm];exact hfr i hin hm
 ·rcases (hmem i).1 hm with hm|hm
  ·rw[hx _ hm];exact h.le z h1 h2 i hin hm
  ·rw[hxo _ hm]
   refine s.si.re (fun i=>f r≤z i) (fun q hq=>?_) (fun i hi _ t ht=>?_) i (.inl hm)
   ·have:q=r:=by simpa using hq
    subst this;exact h1 q hr
   ·exact Int.le_trans hi (h2 (i,t) (mem_gOf.1 ht))
 ·rcases (hmem i).1 hm with hm|hm
  ·rw[hx _ hm];exact h.hi i hin hm q (by simp[hq])
  ·rw[hxo _ hm];exact hs q hq
 ·rcases h.dn i hin with z|z
  ·exact .inl ((hmem i).2 (.inl z))
  ·rcases List.mem_cons.1 z with rfl|z
   ·exact .inl (s.st i (by simp))
   ·exact .inr z
theorem Least.mono {n:Nat} {es es':List (Nat×Nat)} {f f' x y:Nat→Int} (h:Least n es f x) (k:Least n es' f' y) (h1:∀ e∈es,e∈es') (h2:∀ i,i<n→f i≤f' i):∀ i,i<n→x i≤y i :=
 h.le y (fun i hi=>Int.le_trans (h2 i hi) (k.ge i hi)) (fun e he=>k.cl e (h1 e he))
theorem Least.one {n k:Nat} {es:List (Nat×Nat)} {f f' x z:Nat→Int} (h:Least n es f x) (q:Least n es f' z) (hf:∀ i,i<n→i≠k→f' i=f i) (hk:∀ i,i<n→f i≤f' i) (hes:∀ e∈es,e.1<n∧e.2<n):∀ i,i<n→z i≤x i∨z i=f' k:=by
 have hxz:=h.mono q (fun _ h=>h) hk
 have h1:∀ i,i<n→z i≤max (x i) (f' k):=q.le (fun i=>max (x i) (f' k)) (fun i hi=>by
  by_cases e:i=k
  ·subst e;omega
  ·rw[hf i hi e];have:=h.ge i hi;omega) (fun e he=>by have:=h.cl e he;omega)
 have h2:∀ i,i<n→z i≤(if f' k≤z i then z i else x i):=q.le (fun i=>if f' k≤z i then z i else x i) (fun i hi=>by
  by_cases e:i=k
  ·subst e
   rw[if_pos (q.ge i hi)];exact q.ge i hi
  ·skip
   rw[hf i hi e];have:=h.ge i hi;have:=hxz i hi
   split<;>omega) (fun e he=>by
  have a1:=h.cl e he;have a2:=q.cl e he;have a3:=hxz e.2 (hes e he).2
  split<;>split<;>omega)
 intro i hi;have b1:=h1 i hi;have b2:=h2 i hi
 by_cases e:f' k≤z i
 ·by_cases e2:z i≤x i
  ·exact .inl e2
  ·exact .inr (by omega)
 ·rw[if_neg e] at b2
  exact .inl b2
set_option maxHeartbeats 8000000
def edN (i:Nat) (l:List Int):List (Nat×Nat):=l.map fun y=>(y.toNat,i)
def sxF (x:Ins):List Int:=succsF x.op x.s x.t
def esT (code:List Ins):Nat→List (Nat×Nat)
 |0=>[]
 |i+1=>esT code i++edN i (((code[i]?).map sxF).getD [])
theorem edN_snoc (i:Nat) (l:List Int) (y:Int):edN i (l++[y])=edN i l++[(y.toNat,i)]:=by simp[edN]
theorem addG_gOf (es:List (Nat×Nat)) (x t k:Nat):addG (gOf es) x t k=gOf (es++[(x,t)]) k:=by
 rw[gOf_snoc];unfold addG
 by_cases h2:k=x
 ·subst h2;simp
 ·rw[if_neg h2,if_neg (Ne.symm h2)];simp
theorem sxF_length (x:Ins):(sxF x).length≤2:=by unfold sxF succsF;split;simp;split<;>simp
theorem esT_length (code:List Ins):∀ i,(esT code i).length≤2*i
 |0=>by simp[esT]
 |i+1=>by
  have h1:=esT_length code i
  have h2:(edN i (((code[i]?).map sxF).getD [])).length≤2:=by
   unfold edN;rw[List.length_map]
   cases code[i]? with
   |none=>simp
   |some x=>simpa using sxF_length x
  unfold esT;rw[List.length_append]
  omega
def retSu2 (op s t:Int) (w:World):Ending→World→Prop:=fun e w'=>∃ ib,e=.returned (.func (.func 78) #[] #[.pointer (some ⟨ib,0,none⟩)])∧SuBox w' ib op s t∧w.heap.size≤ib∧Below w.heap.size w w'
theorem succs_made2 (op sub a b d k:Int) (va:Option Addr) (vn vc:Nat) (s t:Int) (w:World):Calls prog 49 #[.agg #[.int .i64 op,.int .i64 sub,.int .i64 a,.int .i64 b,.int .i64 d,.int .i64 k,.slice va vn vc,.int .i64 s,.int .i64 t]] w (retSu2 op s t w):=by
 have hmf:∀ (fn:Go.Fn) (first cap:Array Value) (w:World),(Instr.makeFunc fn first cap).run prog w=.ok (.func fn first cap) w:=fun _ _ _ _=>rfl
 go_enter func49,ntmps49
 go_wp2;go_ret;exact⟨_,rfl,⟨by simp,by simp,by simp⟩,Nat.le_refl _,(by repeat(first|(with_reducible first|exact Below.refl _ _|refine bel_alloc ?_ _|refine bel_set ?_ (by first|exact Nat.le_refl _|(simp;done)|(simp;omega)) _|refine Below.drew ?_)|refine bel_trans ?_ (by assumption)))⟩
noncomputable def bkLoop:Code:=(((Tryz.f30.body.map loopsOf).getD [])[0]?).getD .skip
def LBk (w:World) (LX NB N cap cb co:Nat) (ca:Option Addr) (code:List Ins) (i:Nat) (ms:List Nat) (W:World):Prop:=∃ rv,NI w.heap.size NB N rv (gOf (esT code i)) W∧Below w.heap.size w W∧W.cell? ⟨LX,0,none⟩=some (.slice (some ⟨NB,0,none⟩) N N)∧(∀ k,k<N→some LX≠(rv k).ownBlock)∧ms.Nodup∧∀ d∈ms,W.heap[d]? = some (.deferred (some []))∧w.heap.size≤d
def IBk (w:World) (LX NB N cap cb co:Nat) (ca:Option Addr) (code:List Ins) (z0 z1 z2 z7 z8 z9 z31:Value) (a:Act) (W:World):Prop:=∃ (i:Nat) (ms:List Nat) (z4 z5 z6 z13 z14 z15 z16 z17 z18 z19 z20 z21 z22 z23 z24 z25 z26 z27 z28 z29 z30:Value),i≤N∧LBk w LX NB N cap cb co ca code i ms W∧a=⟨#[z0,z1,z2,.pointer (some ⟨LX,0,none⟩),z4,z5,z6,z7,z8,z9,.slice ca N cap,.int .i64 N,.int .i64 (i:Int),z13,z14,z15,z16,z17,z18,z19,z20,z21,z22,z23,z24,z25,z26,z27,z28,z29,z30,z31],ms.map mkD⟩
def muBk (n:Nat) (a:Act) (_:World):Nat:=n - (intOf (a.tmps.getD 12 undef)).toNat
structure JBk (W3:World) (B NB N:Nat) (rc:Loop) (rv:Nat→Value) (es:List (Nat×Nat)) (i:Nat) (pre:List Int) (W:World):Prop where
 os:W.os=W3.os
 tape:W.tape=W3.tape
 output:W.output=W3.output
 size:W3.heap.size+2≤W.heap.size
 block:∀ k,k<W3.heap.size→k≠NB→(∀ j,j<N→some k≠(rv j).ownBlock)→W.heap[k]? = W3.heap[k]?
 df:W.heap[W3.heap.size]? = some (.deferred (some []))
 lp:W.heap[W3.heap.size+1]? = some (.loop rc)
 ni:∃ rv',NI B NB N rv' (gOf (es++edN i pre)) W∧∀ j,j<N→∀ b,(rv' j).ownBlock=some b→(rv j).ownBlock=some b∨W3.heap.size+2≤b
theorem JBk.enter {W3:World} {B NB N i:Nat} {rc:Loop} {rv:Nat→Value} {es:List (Nat×Nat)} (h:NI B NB N rv (gOf es) W3):JBk W3 B NB N rc rv es i [] (loopW W3 rc) where
 os:=rfl
 tape:=rfl
 output:=rfl
 size:=by simp[loopW]
 block:=fun k hk _ _=>by unfold loopW;rw[Below.heap_alloc _ _ k (by simp;omega),Below.heap_alloc _ _ k hk]
 df:=by unfold loopW;rw[Below.heap_alloc _ _ _ (by simp)];show (W3.heap.push _)[W3.heap.size]? = _;simp
 lp:=by
  unfold loopW
  show ((W3.alloc (.deferred (some []))).heap.push _)[W3.heap.size+1]? = _
  have:(W3.alloc (.deferred (some []))).heap.size=W3.heap.size+1:=World.size_alloc _ _;rw[←this];exact Array.getElem?_push_size
 ni:=⟨rv,by
  rw[show edN i []=[] from rfl,List.append_nil];exact h.of ((bel_alloc (bel_alloc (Below.refl _ _) _) _)),fun j hj b hb=>.inl hb⟩
theorem bk_step (w:World) (LX NB N cap cb co:Nat) (ca:Option Addr) (code:List Ins) (z0 z1 z2 z7 z8 z9 z31:Value) (z4 z5 z6 z13 z14 z15 z16 z17 z18 z19 z20 z21 z22 z23 z24 z25 z26 z27 z28 z29 z30:Value) (i:Nat) (ms:List Nat) (Q0:Exit→Act→World→Prop) (W:World) (hn:N≤100000) (HCL:Hid (code.length=N)) (HCA:Hid (0<N→ca=some ⟨cb,co,none⟩)) (HIN:Hid (∀ (i:Nat) x,code[i]? = some x→InsAt w cb (co+i*9) x)) (HSX:Hid (∀ x∈code,∀ y∈sxF x,0≤y∧y<N)) (HNE:Hid (LX≠NB∧w.heap.size≤NB)) (HL:Hid (LBk w LX NB N cap cb co ca code i ms W)) (hin:i<N) :
  Code.wp prog bkLoop (Exit.then (fun a' w'=>IBk w LX NB N cap cb co ca code z0 z1 z2 z7 z8 z9 z31 a' w'∧muBk N a' w'<muBk N ⟨#[z0,z1,z2,.pointer (some ⟨LX,0,none⟩),z4,z5,z6,z7,z8,z9,.slice ca N cap,.int .i64 N,.int .i64 (i:Int),z13,z14,z15,z16,z17,z18,z19,z20,z21,z22,z23,z24,z25,z26,z27,z28,z29,z30,z31],ms.map mkD⟩ W) Q0) ⟨#[z0,z1,z2,.pointer (some ⟨LX,0,none⟩),z4,z5,z6,z7,z8,z9,.slice ca N cap,.int .i64 N,.int .i64 (i:Int),z13,z14,z15,z16,z17,z18,z19,z20,z21,z22,z23,z24,z25,z26,z27,z28,z29,z30,z31],ms.map mkD⟩ W:=by
 obtain⟨rv,hni,hbw,hlx,hfl,hms,hdf⟩:=HL.out;obtain rfl:=HCA.out (by omega);have hget:=List.getElem?_eq_getElem (l:=code) (show i<code.length by rw[HCL.out];exact hin)
 generalize code[i]'(by rw[HCL.out];exact hin)=x at hget
 obtain⟨v,hil,e0,e1,e2,e3,e4,e5,e6,e7,e8⟩:=(HIN.out i x hget).keep hbw;obtain⟨va,vc,rfl,_⟩:=hil.partsF
 generalize x.args.length=vn at *
 have HGET:=hidF hget;have HNI:=hidF hni;have HBW:=hidF hbw;have HFL:=hidF hfl;have HMS:=hidF hms;have HDF:=hidF hdf;have HLX:=hidF hlx;have hLX:LX<W.heap.size:=block_lt_of_cell hlx;have hNB:NB<W.heap.size:=block_lt_of_cell (hni.cell 0 (by omega)).1;have j0:(0:Int)≤i:=by omega
 have j1:(i:Int)<N:=by omega
 have HSXX:Hid (∀ y∈sxF x,0≤y∧y<N):=HSX.out x (List.mem_of_getElem? hget);clear hget hni hbw hlx hfl hms hdf hil HL
 conv=>arg 2;whnf
 go_wp2_with (go_at_call 49;refine(succs_made2 _ _ _ _ _ _ _ _ _ _ _ _).mono ?_;rintro e W3 ⟨ib,rfl,hsu,hib,hb3⟩)
 have hbz:Below W.heap.size W W3:=bel_trans (bel_alloc (bel_alloc (Below.refl _ _) _) _) hb3;have cN:W3.cell? ⟨W.heap.size,0,none⟩=some (.int .i64 (i:Int)):=keep_cell hb3 (keep_alloc (cell_new2 W _ _ _ rfl) _);have hib2:W.heap.size+2≤ib:=by simp at hib;omega
 have hs3:W.heap.size+2≤W3.heap.size:=by have:=hb3.size;simp at this;omega
 have hib3:ib<W3.heap.size:=block_lt_of_cell hsu.1;have HB3:=hidF hbz;have HCN:=hidF cN;have HSU:=hidF hsu;have HNI3:=hidF (HNI.out.of hbz);have hlt:∀ j,j<N→∀ b,(rv j).ownBlock=some b→b<W.heap.size:=fun j hj b hb=>((HNI.out.own j hj).lt b hb).2;have HLT:=hidF hlt;clear hbz cN hsu hb3 hib hlt e0 e1 e2 e3 e4 e5 e6 e7 e8;refine(wpIn_wide (n:=3)).1 ?_;refine range_outer (F:=Fence.wide) rfl (by omega) (gf:=78) (lb:=#[.pointer (some ⟨ib,0,none⟩)]) (by simp[Act.eval]) trivial (enters_of func78 (by kernel_rfl) rfl) ?_;intro fn _;refine callsIn_wide.2 ?_
 generalize hrc:loopRec fn _ _ _ _ _=rc
 have HRC:=hidF hrc;clear hrc;refine(succs1_any (W3.heap.size+1) ib x.op x.s x.t (loopW W3 rc) (JBk W3 w.heap.size NB N rc rv (esT code i) i) (fun _=>False) (JBk.enter HNI3.out) ?_ ?_).mono ?_
 ·intro pre W' hJ
  have hk:W'.heap[ib]? = W3.heap[ib]? := hJ.block ib hib3 (by omega) (fun j hj e=>by have:=HLT.out j hj ib e.symm;omega);obtain⟨s0,s1,s2⟩:=HSU.out;exact⟨cell_of s0 (fun _=>hk),cell_of s1 (fun _=>hk),cell_of s2 (fun _=>hk)⟩
 ·intro pre y rest W' hsp hJ
  have hy:=HSXX.out y (by unfold sxF;rw[hsp];simp);obtain⟨z,rfl⟩:∃ z:Nat,y=z:=⟨y.toNat,by omega⟩;obtain⟨rv',hni',hob⟩:=hJ.ni;have hlp:=hJ.lp;rw[←HRC.out] at hlp
  have hpl:pre.length≤2:=by
   have:=sxF_length x;unfold sxF at this;rw[hsp] at this;simp at this
   omega
  have hlen:(gOf (esT code i++edN i pre) z).length≤1000000000000:=by
   have h1:=gOf_length (esT code i++edN i pre) z;have h2:=esT_length code i;rw[List.length_append] at h1;have h3:(edN i pre).length=pre.length:=by simp[edN]
   omega
  have hfar:∀ k,k<W.heap.size+1→(∀ j,j<N→some k≠(rv j).ownBlock)→∀ j,j<N→some k≠(rv' j).ownBlock:=fun k hk h j hj e=>by
   rcases hob j hj k e.symm with q|q
   ·exact h j hj q.symm
   ·omega
  have hnx:∀ j,j<N→some W.heap.size≠(rv j).ownBlock:=fun j hj e=>by have:=HLT.out j hj _ e.symm;omega
  refine bk_round (W3.heap.size+1) LX W.heap.size NB N w.heap.size z i _ rv' (gOf (esT code i++edN i pre)) fn _ _ _ _ _ _ _ _ _ _ _ _ _ _ _ _ _ _ _ _ _ _ _ _ _ _ _ _ _ _  W' _ hlp (cell_of (keep_cell HB3.out HLX.out) (fun _=>hJ.block LX (by omega) HNE.out.1 HFL.out)) (cell_of HCN.out (fun _=>hJ.block _ (by omega) (by omega) hnx)) hni' (by omega) hlen (by have:=hJ.size;have:=HBW.out.size;omega) (fun j hj=>⟨hfar LX (by omega) HFL.out j hj,hfar _ (by omega) hnx j hj⟩) ⟨HNE.out.1,by omega⟩ ?_;intro W2 rv2 n1 n2 n3 n4 n5 n6 n7 n8;replace n3:W2.heap[W3.heap.size+1]? = some (.loop rc):=by rw[←HRC.out];exact n3
  have hsz:=hJ.size
  have hob2:∀ k,k<W3.heap.size+1→(∀ j,j<N→some k≠(rv j).ownBlock)→∀ j,j<N→some k≠(rv' j).ownBlock:=fun k hk h j hj e=>by
   rcases hob j hj k e.symm with q|q
   ·exact h j hj q.symm
   ·omega
  refine⟨true,rfl,fun _=>⟨n5.trans hJ.os,n6.trans hJ.tape,n7.trans hJ.output,Nat.le_trans hJ.size n4,fun k hk h1 h2=>(n2 k (by omega) h1 (by omega) (hob2 k (by omega) h2)).trans (hJ.block k hk h1 h2),(n2 _ (by omega) (by omega) (by omega) (hob2 _ (by omega) (fun j hj e=>by have:=HLT.out j hj _ e.symm;omega))).trans hJ.df,n3,rv2,NI.ext n1 (fun k=>?_),fun j hj b hb=>?_⟩,fun h=>by cases h⟩
  ·rw[addG_gOf,edN_snoc,List.append_assoc]
   rfl
  ·rcases n8 j hj b hb with q|q
   ·exact hob j hj b q
   ·right;omega
 ·rintro e W5 ⟨rfl,hJ⟩
  replace hJ:=hJ.resolve_right (fun h=>h);refine⟨⟨_,rfl⟩,rc,hJ.lp,by rw[←HRC.out];simp[loopRec],.inl ⟨by rw[←HRC.out];rfl,?_⟩⟩;refine gq_namedF (LBk w LX NB N cap cb co (some ⟨cb,co,none⟩) code (i+1) (W3.heap.size::ms)) ?_ ?_
  ·obtain⟨rv',hni',hob⟩:=hJ.ni
   have hsz:=hJ.size;have p1:∀ o' k,k≠W3.heap.size+1→(W5.putObj (W3.heap.size+1) o').heap[k]? = W5.heap[k]? := fun _ k hk=>put_otherF hk;have hb3:=HB3.out
   have hob2:∀ k,k<W3.heap.size+1→(∀ j,j<N→some k≠(rv j).ownBlock)→∀ j,j<N→some k≠(rv' j).ownBlock:=fun k hk h j hj e=>by
    rcases hob j hj k e.symm with q|q
    ·exact h j hj q.symm
    ·omega
   refine⟨rv',NI.ext (hni'.loop hJ.lp (fun k hk=>p1 _ k hk)) (fun k=>?_),?_,?_,fun k hk=>hob2 LX (by omega) HFL.out k hk,?_,?_⟩
   ·show _=gOf (esT code i++edN i (((code[i]?).map sxF).getD [])) k
    rw[HGET.out]
    rfl
   ·have hb:=HBW.out
    have ho:∀ k,k<w.heap.size→∀ j,j<N→some k≠(rv j).ownBlock:=fun k hk j hj e=>by have:=((HNI.out.own j hj).lt k e.symm).1;omega
    have hNBw:=HNE.out.2;exact⟨hJ.os.trans (hb3.os.trans hb.os),hJ.tape.trans (hb3.tape.trans hb.tape),hJ.output.trans (hb3.output.trans hb.output),by rw[World.putObj_size];have:=hb.size;omega,fun k hk=>(p1 _ k (by have:=hb.size;omega)).trans ((hJ.block k (by have:=hb.size;omega) (by omega) (ho k hk)).trans ((hb3.block k (by have:=hb.size;omega)).trans (hb.block k hk)))⟩
   ·exact cell_of (cell_of (keep_cell hb3 HLX.out) (fun _=>hJ.block LX (by omega) HNE.out.1 HFL.out)) (fun _=>p1 _ LX (by omega))
   ·refine List.nodup_cons.2 ⟨fun hd=>?_,HMS.out⟩
    have:=(zge (HDF.out _ hd).1).1
    omega
   ·intro d hd
    rcases List.mem_cons.1 hd with rfl|hd
    ·exact⟨(p1 _ _ (by omega)).trans hJ.df,by have:=HBW.out.size;omega⟩
    ·obtain⟨q1,q4⟩:=HDF.out d hd
     have hl:=(zge q1).1;refine⟨(p1 _ d (by omega)).trans ((hJ.block d (by omega) (fun e=>?_) (fun j hj e=>?_)).trans ((hb3.block d hl).trans q1)),q4⟩
     ·have hc:=(HNI.out.cell 0 (by omega)).1
      rw[←e] at hc;simp[World.cell?,q1] at hc
     ·rcases (HNI.out.own j hj).2 with ⟨h1,_⟩|⟨g,cap,cur,h1,h2,h3,h4⟩
      ·rw[h1] at e;cases e
      ·rw[h1] at e
       have hg:d=g:=by simpa[Value.ownBlock] using e
       rw[←hg,q1] at h3
       cases h3
  intro W7 hL7;have HL7:=hidF hL7;clear hL7 hJ;dsimp only;go_wp2;have e1:((i:Int)+1)=((i+1:Nat):Int):=by omega
  rw[e1];refine⟨⟨i+1,W3.heap.size::ms,_,_,_,_,_,_,_,_,_,_,_,_,_,_,_,_,_,_,_,_,_,by omega,HL7.out,rfl⟩,?_⟩;unfold muBk;simp[intOf]
  omega
def usX (x:Ins):List Int:=usP (shOf x.op) x.a x.b (if (shOf x.op).args=true then x.args else [])
def wrX (x:Ins):List Int:=if readB (shOf x.op).d x.d=true then [x.d] else []
def esG (f:Ins→List Int) (code:List Ins):Nat→List (Nat×Nat)
 |0=>[]
 |i+1=>esG f code i++edN i (((code[i]?).map f).getD [])
def Ob (R:Nat) (rv:Nat→Value) (k:Nat):Prop:=∃ j,j<R∧(rv j).ownBlock=some k
theorem NI.obw {B NB n:Nat} {rv:Nat→Value} {g:Nat→List Nat} {W:World} (h:NI B NB n rv g W) {k:Nat} (hk:Ob n rv k):B≤k∧k<W.heap.size:=by
 obtain⟨j,hj,e⟩:=hk;exact(h.own j hj).lt k e
theorem NI.nbl {B NB n:Nat} {rv:Nat→Value} {g:Nat→List Nat} {W:World} (h:NI B NB n rv g W) (h0:0<n):NB<W.heap.size:=block_lt_of_cell (h.cell 0 h0).1
theorem ob_all {R k:Nat} {rv:Nat→Value}:(∀ j,j<R→some k≠(rv j).ownBlock)↔¬ Ob R rv k :=
 ⟨fun h ⟨j,hj,e⟩=>h j hj e.symm,fun h j hj e=>h ⟨j,hj,e.symm⟩⟩
theorem NI.ndef {B NB n d:Nat} {rv:Nat→Value} {g:Nat→List Nat} {W:World} {l:Option (List Deferred)} (h:NI B NB n rv g W) (hd:W.heap[d]? = some (.deferred l)):(0<n→d≠NB)∧¬ Ob n rv d:=by
 refine⟨fun h0 e=>?_,fun⟨j,hj,e⟩=>?_⟩
 ·have hc:=(h.cell 0 h0).1
  rw[←e] at hc;simp[World.cell?,hd] at hc
 ·rcases (h.own j hj).2 with ⟨h1,_⟩|⟨g,cap,cur,h1,h2,h3,h4⟩
  ·rw[h1] at e;cases e
  ·rw[h1] at e
   have hg:g=d:=by simpa[Value.ownBlock] using e
   rw[hg,hd] at h3
   cases h3
structure T2 (w:World) (RX NR NW R:Nat) (gr gw:Nat→List Nat) (rr rw:Nat→Value) (W:World):Prop where
 nr:NI w.heap.size NR R rr gr W
 nw:NI w.heap.size NW R rw gw W
 ap:∀ k,Ob R rr k→¬ Ob R rw k
 a1:¬ Ob R rw NR
 a2:¬ Ob R rr NW
 bel:Below w.heap.size w W
 rx:W.cell? ⟨RX,0,none⟩=some (.slice (some ⟨NR,0,none⟩) R R)
 rz:W.frozen? ⟨RX,0,none⟩=false
 x1:¬ Ob R rr RX
 x2:¬ Ob R rw RX
 sz:NR<W.heap.size∧NW<W.heap.size
def Mk (w:World) (NR NW:Nat) (ms:List Nat) (W:World):Prop:=ms.Nodup∧∀ d∈ms,W.heap[d]? = some (.deferred (some []))∧w.heap.size≤d∧d≠NR∧d≠NW
structure B3 (w:World) (RX NR NW:Nat):Prop where
 a:NR≠NW
 b:RX≠NR
 c:RX≠NW
 d:w.heap.size≤NR
 e:w.heap.size≤NW
 f:w.heap.size≤RX
def LTc (w:World) (RX NR NW R N cap cb co:Nat) (ca:Option Addr) (code:List Ins) (i:Nat) (ms:List Nat) (W:World):Prop:=∃ rr rw,T2 w RX NR NW R (gOf (esG usX code i)) (gOf (esG wrX code i)) rr rw W∧Mk w NR NW ms W
theorem T2.grow1 {w:World} {RX NR NW R:Nat} {gr gr' gw:Nat→List Nat} {rr rr' rw:Nat→Value} {W W':World} (h:T2 w RX NR NW R gr gw rr rw W) (b3:B3 w RX NR NW) (hni:NI w.heap.size NR R rr' gr' W') (ho:∀ k,Ob R rr' k→Ob R rr k∨W.heap.size≤k)
  (hk:∀ k,k<W.heap.size→k≠NR→¬ Ob R rr k→W'.heap[k]? = W.heap[k]?) (hs:W.heap.size≤W'.heap.size) (h1:W'.os=W.os) (h2:W'.tape=W.tape) (h3:W'.output=W.output):T2 w RX NR NW R gr' gw rr' rw W':=by
 have hrx:=hk RX (block_lt_of_cell h.rx) b3.b h.x1;have hbs:=h.bel.size;refine⟨hni,h.nw.blk (fun k q=>?_),fun k q1 q2=>?_,h.a1,fun q=>?_,⟨h1.trans h.bel.os,h2.trans h.bel.tape,h3.trans h.bel.output,by omega,fun k q=>(hk k (by omega) (by have:=b3.d;omega) (fun o=>by have:=(h.nr.obw o).1;omega)).trans (h.bel.block k q)⟩,?_,?_,fun q=>?_,h.x2,⟨Nat.lt_of_lt_of_le h.sz.1 hs,Nat.lt_of_lt_of_le h.sz.2 hs⟩⟩
 ·rcases q with ⟨h0,rfl⟩|⟨j,hj,e⟩
  ·exact hk _ (h.nw.nbl h0) (Ne.symm b3.a) h.a2
  ·have hl:=(h.nw.obw ⟨j,hj,e⟩).2
   exact hk k hl (fun e2=>h.a1 ⟨j,hj,by rw[e,e2]⟩) (fun o=>h.ap k o ⟨j,hj,e⟩)
 ·rcases ho k q1 with o|o
  ·exact h.ap k o q2
  ·have:=(h.nw.obw q2).2;omega
 ·rcases ho _ q with o|o
  ·exact h.a2 o
  ·have:=h.nw.nbl (by obtain⟨j,hj,_⟩:=q;omega);omega
 ·rw[World.cell?_of_block (w:=W) hrx];exact h.rx
 ·rw[World.frozen?_of_block (w:=W) hrx];exact h.rz
 ·rcases ho _ q with o|o
  ·exact h.x1 o
  ·have hl:RX<W.heap.size:=block_lt_of_cell h.rx
   omega
theorem T2.grow2 {w:World} {RX NR NW R:Nat} {gr gw gw':Nat→List Nat} {rr rw rw':Nat→Value} {W W':World} (h:T2 w RX NR NW R gr gw rr rw W) (b3:B3 w RX NR NW) (hni:NI w.heap.size NW R rw' gw' W') (ho:∀ k,Ob R rw' k→Ob R rw k∨W.heap.size≤k)
  (hk:∀ k,k<W.heap.size→k≠NW→¬ Ob R rw k→W'.heap[k]? = W.heap[k]?) (hs:W.heap.size≤W'.heap.size) (h1:W'.os=W.os) (h2:W'.tape=W.tape) (h3:W'.output=W.output):T2 w RX NR NW R gr gw' rr rw' W':=by
 have hrx:=hk RX (block_lt_of_cell h.rx) b3.c h.x2;have hbs:=h.bel.size;refine⟨h.nr.blk (fun k q=>?_),hni,fun k q1 q2=>?_,fun q=>?_,h.a2,⟨h1.trans h.bel.os,h2.trans h.bel.tape,h3.trans h.bel.output,by omega,fun k q=>(hk k (by omega) (by have:=b3.e;omega) (fun o=>by have:=(h.nw.obw o).1;omega)).trans (h.bel.block k q)⟩,?_,?_,h.x1,fun q=>?_,⟨Nat.lt_of_lt_of_le h.sz.1 hs,Nat.lt_of_lt_of_le h.sz.2 hs⟩⟩
 ·rcases q with ⟨h0,rfl⟩|⟨j,hj,e⟩
  ·exact hk _ (h.nr.nbl h0) b3.a h.a1
  ·have hl:=(h.nr.obw ⟨j,hj,e⟩).2
   exact hk k hl (fun e2=>h.a2 ⟨j,hj,by rw[e,e2]⟩) (fun o=>h.ap k ⟨j,hj,e⟩ o)
 ·rcases ho k q2 with o|o
  ·exact h.ap k q1 o
  ·have:=(h.nr.obw q1).2;omega
 ·rcases ho _ q with o|o
  ·exact h.a1 o
  ·have:=h.nr.nbl (by obtain⟨j,hj,_⟩:=q;omega);omega
 ·rw[World.cell?_of_block (w:=W) hrx];exact h.rx
 ·rw[World.frozen?_of_block (w:=W) hrx];exact h.rz
 ·rcases ho _ q with o|o
  ·exact h.x2 o
  ·have hl:RX<W.heap.size:=block_lt_of_cell h.rx
   omega
theorem T2.keep {w:World} {RX NR NW R:Nat} {gr gw:Nat→List Nat} {rr rw:Nat→Value} {W W':World} (h:T2 w RX NR NW R gr gw rr rw W) (hb:Below W.heap.size W W'):T2 w RX NR NW R gr gw rr rw W' :=
 ⟨h.nr.of hb,h.nw.of hb,h.ap,h.a1,h.a2,bel_trans h.bel hb,keep_cell hb h.rx,keep_frozen hb h.rx h.rz,h.x1,h.x2,⟨Nat.lt_of_lt_of_le h.sz.1 hb.size,Nat.lt_of_lt_of_le h.sz.2 hb.size⟩⟩
theorem Mk.keep {w W W':World} {NR NW:Nat} {ms:List Nat} (h:Mk w NR NW ms W) (hb:Below W.heap.size W W'):Mk w NR NW ms W' :=
 ⟨h.1,fun d hd=>⟨(hb.block d (zge (h.2 d hd).1).1).trans (h.2 d hd).1,(h.2 d hd).2⟩⟩
theorem mem_edN {i a b:Nat} {l:List Int}:(a,b)∈edN i l↔b=i∧∃ y∈l,y.toNat=a:=by
 unfold edN;simp only[List.mem_map,Prod.mk.injEq]
 constructor
 ·rintro⟨y,hy,h1,h2⟩;exact⟨h2.symm,y,hy,h1⟩
 ·rintro⟨h2,y,hy,h1⟩;exact⟨y,hy,h1,h2.symm⟩
theorem mem_esG {f:Ins→List Int} {code:List Ins} {a b:Nat}:∀ {N:Nat},(a,b)∈esG f code N↔b<N∧∃ x,code[b]? = some x∧∃ y∈f x,y.toNat=a
 |0=>by simp[esG]
 |N+1=>by
  unfold esG;rw[List.mem_append,mem_esG,mem_edN]
  constructor
  ·rintro (⟨h1,h2⟩|⟨rfl,y,hy,h⟩)
   ·exact⟨by omega,h2⟩
   ·cases hc:code[b]? with
    |none=>rw[hc] at hy;cases hy
    |some x=>rw[hc] at hy;exact⟨by omega,x,rfl,y,hy,h⟩
  ·rintro⟨h1,x,hx,y,hy,h⟩
   by_cases e:b=N
   ·subst e;right;refine⟨rfl,y,?_,h⟩;rw[hx];exact hy
   ·left;exact⟨by omega,x,hx,y,hy,h⟩
theorem esT_esG (code:List Ins):∀ N,esT code N=esG sxF code N
 |0=>rfl
 |N+1=>by unfold esT esG;rw[esT_esG code N]
inductive LvP (us wr sx:Ins→List Int) (code:List Ins) (r:Nat):Nat→Prop
 |use {n:Nat} {x:Ins}:code[n]? = some x→(r:Int)∈us x→LvP us wr sx code r n
 |pass {n s:Nat} {x:Ins}:code[n]? = some x→(r:Int) ∉ wr x→(s:Int)∈sx x→LvP us wr sx code r s→LvP us wr sx code r n
def InR (f:Ins→List Int) (code:List Ins):Prop:=∀ x∈code,∀ y∈f x,0≤y
theorem mem_rows {f:Ins→List Int} {code:List Ins} {N r n:Nat} (hN:code.length=N) (h:InR f code):n∈gOf (esG f code N) r↔∃ x,code[n]? = some x∧(r:Int)∈f x:=by
 rw[mem_gOf,mem_esG]
 constructor
 ·rintro⟨_,x,hx,y,hy,e⟩
  have:=h x (List.mem_of_getElem? hx) y hy;refine⟨x,hx,?_⟩;rw[←e,Int.toNat_of_nonneg this];exact hy
 ·rintro⟨x,hx,hr⟩
  have:=(List.getElem?_eq_some_iff.1 hx).1;exact⟨by omega,x,hx,_,hr,by simp⟩
def pureOps:List Int:=[2,3,4,5,6,8,9]
def nopI (x:Ins):Ins:=⟨1,0,0,0,0,0,[],x.s,0⟩
theorem us_nop (x:Ins):usX (nopI x)=[]:=rfl
theorem wr_nop (x:Ins):wrX (nopI x)=[]:=rfl
theorem us_one {x:Ins} (h:x.op=1):usX x=[]:=by
 unfold usX;rw[h]
 rfl
theorem sx_nop {x:Ins} (h:x.op∈pureOps):sxF (nopI x)=sxF x:=by
 have h11:x.op≠11:=fun e=>by rw[e] at h;revert h;decide
 have h12:x.op≠12:=fun e=>by rw[e] at h;revert h;decide
 unfold sxF succsF;rw[if_neg h12,if_neg h11]
 rfl
abbrev LvX (c:List Ins):=LvP usX wrX sxF c
def DeadAt (c:List Ins) (r n:Nat):Prop:=∃ x,c[n]? = some x∧x.op∈pureOps∧wrX x=[(r:Int)]∧∀ s:Nat,(s:Int)∈sxF x→¬ LvX c r s
def leave (c:List Ins) (n:Nat) (x:Ins):List Ins:=c.set n (nopI x)
theorem leave_get {c:List Ins} {n m:Nat} {x:Ins}:(leave c n x)[m]? = if n=m∧n<c.length then some (nopI x) else c[m]? := by
 unfold leave;rw[List.getElem?_set]
 by_cases h:n=m
 ·subst h
  by_cases h2:n<c.length
  ·simp[h2]
  ·simp[h2]
 ·simp[h]
theorem leave_len (c:List Ins) (n:Nat) (x:Ins):(leave c n x).length=c.length:=by simp[leave]
theorem leave_shrinks {c:List Ins} {d m:Nat} {x:Ins} (hx:c[m]? = some x) (hp:x.op∈pureOps) (hw:wrX x=[(d:Int)]) (hd:∀ s:Nat,(s:Int)∈sxF x→¬ LvX c d s) {r n:Nat} (h:LvX (leave c m x) r n):LvX c r n:=by
 have hm:=(List.getElem?_eq_some_iff.1 hx).1
 induction h with
 | @use n y hy hu =>
  rw[leave_get] at hy
  by_cases e:m=n∧m<c.length
  ·rw[if_pos e] at hy
   cases hy
   rw[us_nop] at hu
   cases hu
  ·rw[if_neg e] at hy
   exact .use hy hu
 | @pass n s y hy hw2 hs hl ih =>
  rw[leave_get] at hy
  by_cases e:m=n∧m<c.length
  ·rw[if_pos e] at hy
   cases hy
   rw[sx_nop hp] at hs;obtain⟨rfl,_⟩:=e
   by_cases hr:r=d
   ·subst hr
    exact absurd ih (hd s hs)
   ·refine .pass hx (fun h=>hr ?_) hs ih
    rw[hw] at h;have:(r:Int)=d:=by simpa using h
    omega
  ·rw[if_neg e] at hy
   exact .pass hy hw2 hs ih
theorem leave_keeps {c:List Ins} {m:Nat} {x:Ins} (hx:c[m]? = some x) (hp:x.op∈pureOps) {r n:Nat} (hr:(r:Int) ∉ usX x) (h:LvX c r n):LvX (leave c m x) r n:=by
 have hm:=(List.getElem?_eq_some_iff.1 hx).1
 induction h with
 | @use n y hy hu =>
  by_cases e:m=n
  ·subst e
   rw[hx] at hy
   cases hy
   exact absurd hu hr
  ·exact .use (by rw[leave_get,if_neg (by simp[e])];exact hy) hu
 | @pass n s y hy hw2 hs hl ih =>
  by_cases e:m=n
  ·subst e
   rw[hx] at hy
   cases hy
   exact .pass (by rw[leave_get,if_pos ⟨rfl,hm⟩]) (by rw[wr_nop];simp) (by rw[sx_nop hp];exact hs) ih
  ·exact .pass (by rw[leave_get,if_neg (by simp[e])];exact hy) hw2 hs ih
theorem DeadAt.back {c:List Ins} {m:Nat} {x:Ins} (hx:c[m]? = some x) (hp:x.op∈pureOps) {r n:Nat} (hr:(r:Int) ∉ usX x) (h:DeadAt (leave c m x) r n):DeadAt c r n:=by
 obtain⟨y,hy,hyp,hyw,hyd⟩:=h;rw[leave_get] at hy
 by_cases e:m=n∧m<c.length
 ·rw[if_pos e] at hy
  cases hy
  rw[wr_nop] at hyw
  cases hyw
 ·rw[if_neg e] at hy
  exact⟨y,hy,hyp,hyw,fun s hs hl=>hyd s hs (leave_keeps hx hp hr hl)⟩
structure Cur (c0 c:List Ins):Prop where
 len:c.length=c0.length
 ev:∀ (n:Nat) (x0:Ins),c0[n]? = some x0→c[n]? = some x0∨(c[n]? = some (nopI x0)∧x0.op∈pureOps∧∃ d:Nat,wrX x0=[(d:Int)]∧∀ s:Nat,(s:Int)∈sxF x0→¬ LvX c d s)
theorem Cur.refl (c:List Ins):Cur c c:=⟨rfl,fun n x h=>.inl h⟩
theorem Cur.leave {c0 c:List Ins} {m d:Nat} {x:Ins} (h:Cur c0 c) (hx:c[m]? = some x) (hp:x.op∈pureOps) (hw:wrX x=[(d:Int)]) (hd:∀ s:Nat,(s:Int)∈sxF x→¬ LvX c d s):Cur c0 (leave c m x):=by
 refine⟨by rw[leave_len];exact h.len,fun n x0 h0=>?_⟩;have hm:=(List.getElem?_eq_some_iff.1 hx).1
 rcases h.ev n x0 h0 with q|⟨q,hq1,d2,hq2,hq3⟩
 ·by_cases e:m=n
  ·subst e
   rw[hx] at q
   cases q
   exact .inr ⟨by rw[leave_get,if_pos ⟨rfl,hm⟩],hp,d,hw,fun s hs hl=>hd s hs (leave_shrinks hx hp hw hd hl)⟩
  ·exact .inl (by rw[leave_get,if_neg (by simp[e])];exact q)
 ·right
  refine⟨?_,hq1,d2,hq2,fun s hs hl=>hq3 s hs (leave_shrinks hx hp hw hd hl)⟩
  by_cases e:m=n
  ·subst e
   rw[hx] at q
   cases q
   exact absurd (show (1:Int)∈pureOps from hp) (by decide)
  ·rw[leave_get,if_neg (by simp[e])];exact q
theorem Cur.sx {c0 c:List Ins} (h:Cur c0 c) {n:Nat} {x0 x:Ins} (h0:c0[n]? = some x0) (hx:c[n]? = some x):sxF x=sxF x0:=by
 rcases h.ev n x0 h0 with q|⟨q,hp,_⟩
 ·rw[hx] at q;cases q;rfl
 ·rw[hx] at q;cases q;exact sx_nop hp
theorem Cur.has {c0 c:List Ins} (h:Cur c0 c) {n:Nat} {x:Ins} (hx:c[n]? = some x):∃ x0,c0[n]? = some x0:=by
 have:=(List.getElem?_eq_some_iff.1 hx).1;exact⟨c0[n]'(by rw[←h.len];exact this),List.getElem?_eq_getElem _⟩
theorem live_search2 {c0 c:List Ins} {N r:Nat} {m0 m:Nat→Bool} {o rs:List Nat} (hc:Cur c0 c) (hN:c0.length=N) (h1:InR usX c0) (h2:InR wrX c0) (h3:InR sxF c0)
  (hrs:∀ n,n∈rs↔n∈gOf (esG usX c0 N) r∧∃ x,c[n]? = some x∧x.op≠1)
  (hm:∀ i,i<N→(m0 i=true↔(i∈gOf (esG wrX c0 N) r∧i ∉ rs))) (hs:SR N (gOf (esG sxF c0 N)) m0 rs m o) (n:Nat):n∈o↔LvX c r n:=by
 have hlt:∀ {n:Nat} {x:Ins},c0[n]? = some x→n<N:=fun hx=>by have:=(List.getElem?_eq_some_iff.1 hx).1;omega
 have hrd:∀ n,n∈rs→∃ x,c[n]? = some x∧(r:Int)∈usX x:=fun n hn=>by
  obtain⟨h4,x,hx,hop⟩:=(hrs n).1 hn;obtain⟨x0,h5,h6⟩:=(mem_rows hN h1).1 h4
  rcases hc.ev n x0 h5 with q|⟨q,_⟩
  ·exact⟨x0,q,h6⟩
  ·rw[hx] at q;cases q;exact absurd rfl hop
 constructor
 ·intro hn
  have hS:=hs.si.re (fun i=>i<N∧(m0 i=true∨LvX c r i)) (fun s hs1=>by
   obtain⟨x,hx,hr⟩:=hrd s hs1;obtain⟨x0,h0⟩:=hc.has hx
   exact⟨hlt h0,.inr (.use hx hr)⟩) (fun i hi h0 t ht=>by
   obtain⟨x0,hx0,hr⟩:=(mem_rows hN h3).1 ht;refine⟨hlt hx0,?_⟩;have hl:=hi.2.resolve_left (by rw[h0];simp)
   by_cases q:m0 t=true
   ·exact .inl q
   ·right
    have q2:=fun z=>q ((hm t (hlt hx0)).2 z)
    by_cases u:t∈rs
    ·obtain⟨x2,hx2,hr2⟩:=hrd t u
     exact .use hx2 hr2
    ·have hnw:(r:Int) ∉ wrX x0:=fun hw=>q2 ⟨(mem_rows hN h2).2 ⟨x0,hx0,hw⟩,u⟩
     rcases hc.ev t x0 hx0 with q3|⟨q3,hp,_⟩
     ·exact .pass q3 hnw hr hl
     ·exact .pass q3 (by rw[wr_nop];simp) (by rw[sx_nop hp];exact hr) hl) n (.inl hn)
  have h0:=(hs.si.un n (.inl hn)).1;exact hS.2.resolve_left (by rw[h0];simp)
 ·intro hl
  have key:∀ n,m n=true→¬ m0 n=true→n∈o:=fun n q1 q2=>by
   rcases (hs.si.mem n).1 q1 with z|z|z
   ·exact absurd z q2
   ·exact z
   ·cases z
  induction hl with
  | @use n x hx hr =>
   obtain⟨x0,h0⟩:=hc.has hx
   have hxx:x=x0:=by
    rcases hc.ev n x0 h0 with q|⟨q,_⟩
    ·rw[hx] at q;cases q;rfl
    ·rw[hx] at q;cases q;rw[us_nop] at hr;cases hr
   subst hxx;have hop:x.op≠1:=fun e=>by rw[us_one e] at hr;cases hr
   have hin:n∈rs:=(hrs n).2 ⟨(mem_rows hN h1).2 ⟨x,h0,hr⟩,x,hx,hop⟩;exact key n (hs.st n hin) (fun z=>((hm n (hlt h0)).1 z).2 hin)
  | @pass n s x hx hw hsx hl ih =>
   obtain⟨x0,h0⟩:=hc.has hx;have hg:n∈gOf (esG sxF c0 N) s:=(mem_rows hN h3).2 ⟨x0,h0,by rw[←hc.sx h0 hx];exact hsx⟩;refine key n (hs.cl s ih n hg) (fun z=>?_);obtain⟨x2,hx2,hw2⟩:=(mem_rows hN h2).1 ((hm n (hlt h0)).1 z).1;rw[h0] at hx2
   cases hx2
   rcases hc.ev n x0 h0 with q|⟨q,hp,d,hd1,hd2⟩
   ·rw[hx] at q;cases q;exact hw hw2
   ·rw[hd1] at hw2
    have e:(r:Int)=d:=by simpa using hw2
    have e2:r=d:=by omega
    subst e2;exact hd2 s (by rw[←hc.sx h0 hx];exact hsx) hl
def Calm (R:Nat) (W:Nat→Prop) (X:Nat→Prop) (c:List Ins):Prop:=∀ r,r<R→¬ W r→¬ X r→∀ n,¬ DeadAt c r n
theorem Calm.leave {R:Nat} {W W' X:Nat→Prop} {c:List Ins} {m:Nat} {x:Ins} (h:Calm R W X c) (hx:c[m]? = some x) (hp:x.op∈pureOps) (hW:∀ r,W r→W' r) (hU:∀ r:Nat,(r:Int)∈usX x→W' r):Calm R W' X (leave c m x) :=
 fun r hr hw hX n hd=>h r hr (fun q=>hw (hW r q)) hX n (hd.back hx hp (fun q=>hw (hU r q)))
def busy (c:List Ins):Nat:=(c.filter fun x=>decide (x.op≠1)).length
theorem busy_leave {c:List Ins} {m:Nat} {x:Ins} (hx:c[m]? = some x) (hp:x.op∈pureOps):busy (leave c m x)+1=busy c:=by
 have hop:x.op≠1:=fun e=>by rw[e] at hp;revert hp;decide
 have hm:=(List.getElem?_eq_some_iff.1 hx).1;have hxe:=(List.getElem?_eq_some_iff.1 hx).2;unfold busy leave;rw[List.set_eq_take_append_cons_drop,if_pos hm]
 have hcc:c=c.take m++(x::c.drop (m+1)):=by
  rw[←hxe,List.getElem_cons_drop,List.take_append_drop]
 conv=>rhs;rw[hcc]
 rw[List.filter_append,List.filter_append,List.length_append,List.length_append];rw[List.filter_cons_of_neg (by simp[nopI]),List.filter_cons_of_pos (by simp[hop])];simp
 omega
set_option maxHeartbeats 4000000
structure Only (mb:Nat) (w w':World):Prop where
 os:w'.os=w.os
 tape:w'.tape=w.tape
 output:w'.output=w.output
 size:w'.heap.size=w.heap.size
 block:∀ k,k≠mb→w'.heap[k]? = w.heap[k]?
theorem Only.refl (mb:Nat) (w:World):Only mb w w:=⟨rfl,rfl,rfl,rfl,fun _ _=>rfl⟩
theorem Only.set {mb:Nat} {w w':World} (h:Only mb w w') (o:Nat) (v:Value):Only mb w (w'.setCell ⟨mb,o,none⟩ v) :=
 ⟨h.os,h.tape,h.output,by rw[gsize_setF];exact h.size,fun k hk=>(gset_otherF hk).trans (h.block k hk)⟩
theorem Only.trans {mb:Nat} {a b c:World} (h:Only mb a b) (k:Only mb b c):Only mb a c :=
 ⟨k.os.trans h.os,k.tape.trans h.tape,k.output.trans h.output,k.size.trans h.size,fun q hq=>(k.block q hq).trans (h.block q hq)⟩
theorem Only.drew {mb:Nat} {w w':World} (h:Only mb w w'):Only mb w w'.drew:=⟨h.os,h.tape,h.output,h.size,h.block⟩
theorem only_setCells {mb:Nat}:∀ (vs:List Value) (o:Nat) (w w':World),Only mb w w'→Only mb w (w'.setCells mb o vs)
 | [],_,_,_,h=>h
 |v::r,o,w,w',h=>by rw[World.setCells];exact only_setCells r (o+1) w _ (h.set o v)
theorem Only.cell {mb b o:Nat} {w w':World} {v:Value} (h:Only mb w w') (hb:b≠mb) (hc:w.cell? ⟨b,o,none⟩=some v):w'.cell? ⟨b,o,none⟩=some v:=by
 rw[World.cell?_of_block (w:=w) (h.block b hb)];exact hc
def retS (mb n:Nat) (m:Nat→Bool) (w:World):Ending→World→Prop:=fun e W=>e=.returned (.tuple #[])∧MetAt W mb n m∧Only mb w W
theorem zero_bool:∀ w,(zeroValue 4).run prog w=.ok (.bool false) w:=by
 intro w
 kernel_rfl
theorem reset_any (XB mb n cm:Nat) (m:Nat→Bool) (w:World) (x1:w.cell? ⟨XB,1,none⟩=some (.slice (some ⟨mb,0,none⟩) n cm)) (hne:XB≠mb) (HM:Hid (MetAt w mb n m)) :
  Calls prog 82 #[.pointer (some ⟨XB,0,none⟩)] w (retS mb n (fun _=>false) w):=by
 have hcl:∃ W,(Builtin.clear_ #[37] 0 #[.slice (some ⟨mb,0,none⟩) n cm]).run prog w=.ok (.tuple #[]) W∧MetAt W mb n (fun _=>false)∧Only mb w W:=by
  by_cases h0:n=0
  ·subst h0
   refine⟨w,?_,(fun i hi=>by omega),Only.refl _ _⟩;simp[Builtin.clear_,run_underlying underlying37]
  ·have h:=Lib.run_clear_slice (P:=prog) w 37 4 0 (.bool false) underlying37 zero_bool rfl rfl mb 0 n cm (by omega) (fun j hj=>by rw[Nat.zero_add,(HM.out j hj).1];rfl) (fun j hj=>by rw[Nat.zero_add];exact(HM.out j hj).2)
   refine⟨_,h,fun i hi=>⟨?_,?_⟩,only_setCells _ _ _ _ (Only.refl _ _)⟩
   ·have:=World.cell?_setCells_in mb (List.replicate n (.bool false)) 0 w (fun j hj=>by rw[Nat.zero_add,(HM.out j (by simpa using hj)).1];rfl) i (by simpa using hi)
    rw[Nat.zero_add] at this;rw[this];simp
   ·rw[World.frozen?_setCells];exact(HM.out i hi).2
 obtain⟨W,hr,h1,h2⟩:=hcl;have HR:=hidF (And.intro h1 h2);clear h1 h2
 go_enter func82,ntmps82
 go_wp2;go_end0;exact⟨rfl,HR.out.1,HR.out.2⟩
def setM (m:Nat→Bool) (b:Bool) (l:List Nat):Nat→Bool:=fun i=>if i∈l then b else m i
theorem setM_nil (m:Nat→Bool) (b:Bool):setM m b []=m:=by
 funext i
 simp[setM]
theorem setM_snoc (m:Nat→Bool) (b:Bool) (l:List Nat) (y i:Nat):setM m b (l++[y]) i=if i=y then b else setM m b l i:=by
 unfold setM
 by_cases e:i=y
 ·simp[e]
 ·simp[e]
theorem MetAt.setB {w:World} {mb n x:Nat} {m m':Nat→Bool} {b:Bool} (h:MetAt w mb n m) (hm:∀ i,m' i=if i=x then b else m i):MetAt (w.setCell ⟨mb,x,none⟩ (.bool b)) mb n m':=fun i hi=>by
 refine⟨?_,by rw[World.frozen?_setCell];exact(h i hi).2⟩;rw[hm i]
 by_cases e:i=x
 ·subst e
  rw[if_pos rfl];exact World.cell?_setCell_same _ _ _ (h i hi).1
 ·rw[World.cell?_setCell_other _ _ _ _ (fun e2=>e (by cases e2;rfl)),if_neg e]
  exact(h i hi).1
theorem close_walk (XB mb n cm vb vo ns sc:Nat) (sa:Option Addr) (ss:List Nat) (m:Nat→Bool) (w:World) (HN:Hid (ns=ss.length)) (hns:ns≤1000000000000) (x1:w.cell? ⟨XB,1,none⟩=some (.slice (some ⟨mb,0,none⟩) n cm)) (hne:XB≠mb) (hvb:0<ns→vb≠mb)
  (HSA:Hid (0<ns→sa=some ⟨vb,vo,none⟩)) (HC:Hid (∀ (i s:Nat),ss[i]? = some s→w.cell? ⟨vb,vo+i,none⟩=some (.int .i64 (s:Int)))) (HS:Hid (∀ s∈ss,s<n)) (HM:Hid (MetAt w mb n m)) :
  Calls prog 83 #[.pointer (some ⟨XB,0,none⟩),.slice sa ns sc] w (retS mb n (setM m true ss) w):=by
 go_enter func83,ntmps83
 go_wp2
 go_loopw [8] (fun vv wz=>∃ i:Nat,i≤ns∧vv=.int .i64 i∧Hid (MetAt wz mb n (setM m true (ss.take i)))∧Hid (Only mb w wz)) (fun vv _=>ns - (intOf vv).toNat)
 case atStart=>exact⟨0,by omega,rfl,hidF (by rw[List.take_zero,setM_nil];exact HM.out),hidF (Only.refl _ _)⟩
 case round =>
  obtain⟨i,hi,rfl,HI,HO⟩:=hrel
  rename World=>wz
  have x1':=HO.out.cell hne x1
  by_cases hin:i<ns
  ·have j0:(0:Int)≤i:=by omega
   have j1:(i:Int)<ns:=by omega
   have hget:=List.getElem?_eq_getElem (l:=ss) (show i<ss.length by rw[←HN.out];exact hin)
   generalize ss[i]'(by rw[←HN.out];exact hin)=s at hget
   obtain rfl:=HSA.out (by omega);have hsn:s<n:=HS.out s (List.mem_of_getElem? hget);have cx:=HO.out.cell (hvb (by omega)) (HC.out i s hget);have HG:=hidF hget;have k0:(0:Int)≤s:=by omega
   have k1:(s:Int)<n:=by omega
   obtain⟨hm1,hf1⟩:=HI.out s hsn;clear hget;go_wp2
   go_roundw
   case rel =>
    refine⟨i+1,by omega,by simp,hidF (HI.out.setB (fun k=>?_)),hidF (HO.out.set _ _)⟩;rw[List.take_add_one,HG.out];exact setM_snoc _ _ _ _ _
   case measure=>simp[intOf];omega
  ·obtain rfl:ns=i:=by omega
   have HE:Hid (MetAt wz mb n (setM m true ss)):=by
    have h:=HI.out;rw[HN.out,List.take_length] at h;exact h
   go_wp2;go_end0;exact⟨rfl,HE.out,HO.out⟩
theorem close_any (XB mb n cm:Nat) (v:Value) (ss:List Nat) (m:Nat→Bool) (w:World) (hns:ss.length≤1000000000000) (x1:w.cell? ⟨XB,1,none⟩=some (.slice (some ⟨mb,0,none⟩) n cm)) (hne:XB≠mb) (hil:IL w v (up ss)) (hvb:∀ b o s k c,v=.slice (some ⟨b,o,s⟩) k c→b≠mb) (hS:∀ s∈ss,s<n) (hM:MetAt w mb n m) :
  Calls prog 83 #[.pointer (some ⟨XB,0,none⟩),v] w (retS mb n (setM m true ss) w):=by
 obtain⟨a,cap,hv,h1,h0,h2⟩:=hil;rw[up_length] at hv h1;subst hv
 by_cases hl:ss=[]
 ·subst hl
  exact close_walk XB mb n cm 0 0 0 cap a [] m w rfl (by omega) x1 hne (fun h=>by omega) (fun h=>by omega) (fun i s hs=>by simp at hs) hS hM
 ·obtain⟨b,off,rfl,hc⟩:=h2 (fun e=>hl (by have:=congrArg List.length e;rw[up_length] at this;exact List.length_eq_zero_iff.1 this))
  exact close_walk XB mb n cm b off ss.length cap _ ss m w rfl hns x1 hne (fun _=>hvb b off none _ _ rfl) (fun _=>rfl) (fun i s hs=>hc i s (by rw[up_get,hs];rfl)) hS hM
theorem open_walk (XB mb n cm vb vo ns sc:Nat) (sa:Option Addr) (ss:List Nat) (m:Nat→Bool) (w:World) (HN:Hid (ns=ss.length)) (hns:ns≤1000000000000) (x1:w.cell? ⟨XB,1,none⟩=some (.slice (some ⟨mb,0,none⟩) n cm)) (hne:XB≠mb) (hvb:0<ns→vb≠mb)
  (HSA:Hid (0<ns→sa=some ⟨vb,vo,none⟩)) (HC:Hid (∀ (i s:Nat),ss[i]? = some s→w.cell? ⟨vb,vo+i,none⟩=some (.int .i64 (s:Int)))) (HS:Hid (∀ s∈ss,s<n)) (HM:Hid (MetAt w mb n m)) :
  Calls prog 84 #[.pointer (some ⟨XB,0,none⟩),.slice sa ns sc] w (retS mb n (setM m false ss) w):=by
 go_enter func84,ntmps84
 go_wp2
 go_loopw [8] (fun vv wz=>∃ i:Nat,i≤ns∧vv=.int .i64 i∧Hid (MetAt wz mb n (setM m false (ss.take i)))∧Hid (Only mb w wz)) (fun vv _=>ns - (intOf vv).toNat)
 case atStart=>exact⟨0,by omega,rfl,hidF (by rw[List.take_zero,setM_nil];exact HM.out),hidF (Only.refl _ _)⟩
 case round =>
  obtain⟨i,hi,rfl,HI,HO⟩:=hrel
  rename World=>wz
  have x1':=HO.out.cell hne x1
  by_cases hin:i<ns
  ·have j0:(0:Int)≤i:=by omega
   have j1:(i:Int)<ns:=by omega
   have hget:=List.getElem?_eq_getElem (l:=ss) (show i<ss.length by rw[←HN.out];exact hin)
   generalize ss[i]'(by rw[←HN.out];exact hin)=s at hget
   obtain rfl:=HSA.out (by omega);have hsn:s<n:=HS.out s (List.mem_of_getElem? hget);have cx:=HO.out.cell (hvb (by omega)) (HC.out i s hget);have HG:=hidF hget;have k0:(0:Int)≤s:=by omega
   have k1:(s:Int)<n:=by omega
   obtain⟨hm1,hf1⟩:=HI.out s hsn;clear hget;go_wp2
   go_roundw
   case rel =>
    refine⟨i+1,by omega,by simp,hidF (HI.out.setB (fun k=>?_)),hidF (HO.out.set _ _)⟩;rw[List.take_add_one,HG.out];exact setM_snoc _ _ _ _ _
   case measure=>simp[intOf];omega
  ·obtain rfl:ns=i:=by omega
   have HE:Hid (MetAt wz mb n (setM m false ss)):=by
    have h:=HI.out;rw[HN.out,List.take_length] at h;exact h
   go_wp2;go_end0;exact⟨rfl,HE.out,HO.out⟩
theorem open_any (XB mb n cm:Nat) (v:Value) (ss:List Nat) (m:Nat→Bool) (w:World) (hns:ss.length≤1000000000000) (x1:w.cell? ⟨XB,1,none⟩=some (.slice (some ⟨mb,0,none⟩) n cm)) (hne:XB≠mb) (hil:IL w v (up ss)) (hvb:∀ b o s k c,v=.slice (some ⟨b,o,s⟩) k c→b≠mb) (hS:∀ s∈ss,s<n) (hM:MetAt w mb n m) :
  Calls prog 84 #[.pointer (some ⟨XB,0,none⟩),v] w (retS mb n (setM m false ss) w):=by
 obtain⟨a,cap,hv,h1,h0,h2⟩:=hil;rw[up_length] at hv h1;subst hv
 by_cases hl:ss=[]
 ·subst hl
  exact open_walk XB mb n cm 0 0 0 cap a [] m w rfl (by omega) x1 hne (fun h=>by omega) (fun h=>by omega) (fun i s hs=>by simp at hs) hS hM
 ·obtain⟨b,off,rfl,hc⟩:=h2 (fun e=>hl (by have:=congrArg List.length e;rw[up_length] at this;exact List.length_eq_zero_iff.1 this))
  exact open_walk XB mb n cm b off ss.length cap _ ss m w rfl hns x1 hne (fun _=>hvb b off none _ _ rfl) (fun _=>rfl) (fun i s hs=>hc i s (by rw[up_get,hs];rfl)) hS hM
set_option maxHeartbeats 16000000
noncomputable def tcLoop:Code:=(((Tryz.f31.body.map loopsOf).getD [])[0]?).getD .skip
def ITc (w:World) (RX NR NW R N cap cb co:Nat) (ca:Option Addr) (code:List Ins) (z0 z1 z9 z10 z11 z12 z13 z14 z15 z53 z54:Value) (a:Act) (W:World):Prop:=∃ (i:Nat) (ms:List Nat) (z4 z5 z6 z7 z8 z19 z20 z21 z22 z23 z24 z25 z26 z27 z28 z29 z30 z31 z32 z33 z34 z35 z36 z37 z38 z39 z40 z41 z42 z43 z44 z45 z46 z47 z48 z49 z50 z51 z52:Value),i≤N∧LTc w RX NR NW R N cap cb co ca code i ms W∧a=⟨#[z0,z1,.pointer (some ⟨RX,0,none⟩),.slice (some ⟨NW,0,none⟩) R R,z4,z5,z6,z7,z8,z9,z10,z11,z12,z13,z14,z15,.slice ca N cap,.int .i64 N,.int .i64 (i:Int),z19,z20,z21,z22,z23,z24,z25,z26,z27,z28,z29,z30,z31,z32,z33,z34,z35,z36,z37,z38,z39,z40,z41,z42,z43,z44,z45,z46,z47,z48,z49,z50,z51,z52,z53,z54],ms.map mkD⟩
def muTc (n:Nat) (a:Act) (_:World):Nat:=n - (intOf (a.tmps.getD 18 undef)).toNat
structure MTc (w:World) (RX NR NW R N cap cb co:Nat) (ca:Option Addr) (code:List Ins) (i:Nat) (x:Ins) (va:Option Addr) (vn vc KB:Nat) (ms:List Nat) (W:World):Prop where
 t2:∃ rr rw,T2 w RX NR NW R (gOf (esG usX code (i+1))) (gOf (esG wrX code i)) rr rw W∧¬ Ob R rw KB
 ma:Mk w NR NW ms W
 nd:W.cell? ⟨KB,0,none⟩=some (.int .i64 (i:Int))
 kb:KB≠NW
 c0:W.cell? ⟨KB+1,0,none⟩=some (.int .i64 x.op)
 c1:W.cell? ⟨KB+1,1,none⟩=some (.int .i64 x.sub)
 c2:W.cell? ⟨KB+1,2,none⟩=some (.int .i64 x.a)
 c3:W.cell? ⟨KB+1,3,none⟩=some (.int .i64 x.b)
 c4:W.cell? ⟨KB+1,4,none⟩=some (.int .i64 x.d)
 c5:W.cell? ⟨KB+1,5,none⟩=some (.int .i64 x.k)
 c6:W.cell? ⟨KB+1,6,none⟩=some (.slice va vn vc)
 c7:W.cell? ⟨KB+1,7,none⟩=some (.int .i64 x.s)
 c8:W.cell? ⟨KB+1,8,none⟩=some (.int .i64 x.t)
theorem JBk.t2 {W3:World} {w:World} {RX NR NW R i:Nat} {rc:Loop} {rr rw:Nat→Value} {es:List (Nat×Nat)} {gw:Nat→List Nat} {pre:List Int} {W5:World} (h:T2 w RX NR NW R (gOf es) gw rr rw W3) (hJ:JBk W3 w.heap.size NR R rc rr es i pre W5) (b3:B3 w RX NR NW) (o:Obj) :
  ∃ rr',T2 w RX NR NW R (gOf (es++edN i pre)) gw rr' rw (W5.putObj (W3.heap.size+1) o):=by
 obtain⟨rr',hni,hob⟩:=hJ.ni;have hsz:=hJ.size;refine⟨rr',h.grow1 b3 (hni.loop hJ.lp (fun k hk=>put_otherF hk)) (fun k ⟨j,hj,e⟩=>?_) (fun k h1 h2 h3=>(put_otherF (by omega)).trans (hJ.block k h1 h2 (ob_all.2 h3))) (by rw[World.putObj_size];omega) hJ.os hJ.tape hJ.output⟩
 rcases hob j hj k e with q|q
 ·exact .inl ⟨j,hj,q⟩
 ·exact .inr (by omega)
theorem T2.gw {w:World} {RX NR NW R:Nat} {gr gw gw':Nat→List Nat} {rr rw:Nat→Value} {W:World} (h:T2 w RX NR NW R gr gw rr rw W) (e:∀ k,gw k=gw' k):T2 w RX NR NW R gr gw' rr rw W:=by
 have:gw=gw':=funext e;rw[←this];exact h
theorem esG_succ {f:Ins→List Int} {code:List Ins} {i:Nat} {x:Ins} (h:code[i]? = some x):esG f code (i+1)=esG f code i++edN i (f x):=by
 show esG f code i++edN i (((code[i]?).map f).getD [])=_
 rw[h]
 rfl
theorem tc_step (w:World) (RX NR NW R N cap cb co:Nat) (ca:Option Addr) (code:List Ins) (z0 z1 z9 z10 z11 z12 z13 z14 z15 z53 z54:Value) (z4 z5 z6 z7 z8 z19 z20 z21 z22 z23 z24 z25 z26 z27 z28 z29 z30 z31 z32 z33 z34 z35 z36 z37 z38 z39 z40 z41 z42 z43 z44 z45 z46 z47 z48 z49 z50 z51 z52:Value) (i:Nat) (ms:List Nat) (Q0:Exit→Act→World→Prop) (W:World) (hn:N≤100000) (HCL:Hid (code.length=N)) (HCA:Hid (0<N→ca=some ⟨cb,co,none⟩)) (HIN:Hid (∀ (i:Nat) x,code[i]? = some x→InsAt w cb (co+i*9) x)) (HSH:Hid (ShTab w)) (HUS:Hid (∀ x∈code,∀ y∈usX x,0≤y∧y<R)) (HWS:Hid (∀ x∈code,∀ y∈wrX x,0≤y∧y<R)) (HLU:Hid (∀ i,i≤N→(esG usX code i).length≤1000000000000)) (HLW:Hid (∀ i,i≤N→(esG wrX code i).length≤1000000000000)) (HB3:Hid (B3 w RX NR NW)) (HL:Hid (LTc w RX NR NW R N cap cb co ca code i ms W)) (hin:i<N) :
  Code.wp prog tcLoop (Exit.then (fun a' w'=>ITc w RX NR NW R N cap cb co ca code z0 z1 z9 z10 z11 z12 z13 z14 z15 z53 z54 a' w'∧muTc N a' w'<muTc N ⟨#[z0,z1,.pointer (some ⟨RX,0,none⟩),.slice (some ⟨NW,0,none⟩) R R,z4,z5,z6,z7,z8,z9,z10,z11,z12,z13,z14,z15,.slice ca N cap,.int .i64 N,.int .i64 (i:Int),z19,z20,z21,z22,z23,z24,z25,z26,z27,z28,z29,z30,z31,z32,z33,z34,z35,z36,z37,z38,z39,z40,z41,z42,z43,z44,z45,z46,z47,z48,z49,z50,z51,z52,z53,z54],ms.map mkD⟩ W) Q0) ⟨#[z0,z1,.pointer (some ⟨RX,0,none⟩),.slice (some ⟨NW,0,none⟩) R R,z4,z5,z6,z7,z8,z9,z10,z11,z12,z13,z14,z15,.slice ca N cap,.int .i64 N,.int .i64 (i:Int),z19,z20,z21,z22,z23,z24,z25,z26,z27,z28,z29,z30,z31,z32,z33,z34,z35,z36,z37,z38,z39,z40,z41,z42,z43,z44,z45,z46,z47,z48,z49,z50,z51,z52,z53,z54],ms.map mkD⟩ W:=by
 obtain⟨rr,rw,ht2,hmk⟩:=HL.out;obtain rfl:=HCA.out (by omega);have hget:=List.getElem?_eq_getElem (l:=code) (show i<code.length by rw[HCL.out];exact hin)
 generalize code[i]'(by rw[HCL.out];exact hin)=x at hget
 obtain⟨v,hil,e0,e1,e2,e3,e4,e5,e6,e7,e8⟩:=(HIN.out i x hget).keep ht2.bel;obtain⟨va,vc,rfl,_⟩:=hil.partsF
 generalize x.args.length=vn at *
 have HGET:=hidF hget;have HT2:=hidF ht2;have HMK:=hidF hmk;have HIL:=hidF hil;have HSW:=hidF (HSH.out.keep ht2.bel);have hRX:RX<W.heap.size:=block_lt_of_cell ht2.rx;have j0:(0:Int)≤i:=by omega
 have j1:(i:Int)<N:=by omega
 have HSXX:Hid (∀ y∈usX x,0≤y∧y<R):=HUS.out x (List.mem_of_getElem? hget);have HWXX:Hid (∀ y∈wrX x,0≤y∧y<R):=HWS.out x (List.mem_of_getElem? hget);clear hget ht2 hmk hil HL
 conv=>arg 2;whnf
 go_wp2_with (go_at_call 50;refine(uses_made2 _ _ _ _ _ _ _ _ _ _ _ x.args _ _ rfl (HSW.out.keep (bel_alloc (bel_alloc (Below.refl _ _) _) _)) (HIL.out.keep (bel_alloc (bel_alloc (Below.refl _ _) _) _))).mono ?_;rintro e W3 ⟨sb,ib,v,rfl,hus,hb3,hsb,hib,hvf⟩)
 obtain⟨l',hl'⟩:∃ l',(if (shOf x.op).args=true then x.args else [])=l':=⟨_,rfl⟩;rw[hl'] at hus;have HUX:Hid (usX x=usP (shOf x.op) x.a x.b l'):=by show _=_;unfold usX;rw[hl']
 obtain⟨u0,u1,u2,u3,u4,u5⟩:=hus;obtain⟨va2,vc2,rfl,h8⟩:=u5.partsF;have hbz:Below W.heap.size W W3:=bel_trans (bel_alloc (bel_alloc (Below.refl _ _) _) _) hb3;have cN:W3.cell? ⟨W.heap.size,0,none⟩=some (.int .i64 (i:Int)):=keep_cell hb3 (keep_alloc (cell_new2 W _ _ _ rfl) _);have c0:W3.cell? ⟨W.heap.size+1,0,none⟩=some (.int .i64 x.op):=keep_cell hb3 (by simp);have c1:W3.cell? ⟨W.heap.size+1,1,none⟩=some (.int .i64 x.sub):=keep_cell hb3 (by simp);have c2:W3.cell? ⟨W.heap.size+1,2,none⟩=some (.int .i64 x.a):=keep_cell hb3 (by simp);have c3:W3.cell? ⟨W.heap.size+1,3,none⟩=some (.int .i64 x.b):=keep_cell hb3 (by simp);have c4:W3.cell? ⟨W.heap.size+1,4,none⟩=some (.int .i64 x.d):=keep_cell hb3 (by simp);have c5:W3.cell? ⟨W.heap.size+1,5,none⟩=some (.int .i64 x.k):=keep_cell hb3 (by simp);have c6:W3.cell? ⟨W.heap.size+1,6,none⟩=some (.slice va vn vc):=keep_cell hb3 (by simp);have c7:W3.cell? ⟨W.heap.size+1,7,none⟩=some (.int .i64 x.s):=keep_cell hb3 (by simp);have c8:W3.cell? ⟨W.heap.size+1,8,none⟩=some (.int .i64 x.t):=keep_cell hb3 (by simp);have hsb2:W.heap.size+2≤sb:=by simp at hsb;omega
 have hib2:W.heap.size+2≤ib:=by simp at hib;omega
 have hs3:W.heap.size+2≤W3.heap.size:=by have:=hb3.size;simp at this;omega
 have hsb3:sb<W3.heap.size:=block_lt_of_cell u0;have hib3:ib<W3.heap.size:=block_lt_of_cell u2;have HVF:Hid (∀ b o s n c,Value.slice va2 l'.length vc2=.slice (some ⟨b,o,s⟩) n c→W.heap.size+2≤b):=fun b o s n c h=>by have:=hvf b o s n c h;simp at this;omega
 have HBZ:=hidF hbz;have HCN:=hidF cN;have HU:=hidF (And.intro u0 (And.intro u1 (And.intro u2 (And.intro u3 (And.intro u4 u5)))));have HC9:=hidF (And.intro c0 (And.intro c1 (And.intro c2 (And.intro c3 (And.intro c4 (And.intro c5 (And.intro c6 (And.intro c7 c8))))))));have HT3:=hidF (HT2.out.keep hbz);have hlt:∀ k,Ob R rr k→k<W.heap.size:=fun k hk=>(HT2.out.nr.obw hk).2;have HLT:=hidF hlt;clear hbz cN u0 u1 u2 u3 u4 u5 hb3 hsb hib hvf hlt e0 e1 e2 e3 e4 e5 e6 e7 e8 c0 c1 c2 c3 c4 c5 c6 c7 c8 hl';refine(wpIn_wide (n:=3)).1 ?_;refine range_outer (F:=Fence.wide) rfl (by omega) (gf:=80) (lb:=#[.pointer (some ⟨sb,0,none⟩),.pointer (some ⟨ib,0,none⟩)]) (by simp[Act.eval]) trivial (enters_of func80 (by kernel_rfl) rfl) ?_;intro fn _;refine callsIn_wide.2 ?_
 generalize hrc:loopRec fn _ _ _ _ _=rc
 have HRC:=hidF hrc;clear hrc;have hNR:NR<W.heap.size:=HT2.out.sz.1;have hNW:NW<W.heap.size:=HT2.out.sz.2;have HKK:Hid (∀ pre W',JBk W3 w.heap.size NR R rc rr (esG usX code i) i pre W'→∀ k,W.heap.size≤k→k<W3.heap.size→W'.heap[k]? = W3.heap[k]?):=fun pre W' hJ k h1 h2=>hJ.block k h2 (by omega) (ob_all.2 (fun o=>by have:=HLT.out k o;omega));refine(uses1_any (W3.heap.size+1) sb ib (shOf x.op) x.a x.b va2 l'.length vc2 l' (loopW W3 rc) (JBk W3 w.heap.size NR R rc rr (esG usX code i) i) (fun _=>False) rfl h8 (JBk.enter HT3.out.nr) ?_ ?_).mono ?_
 ·intro pre W' hJ
  have hk:=HKK.out pre W' hJ;obtain⟨s0,s1,s2,s3,s4,s5⟩:=HU.out;exact⟨cell_of s0 (fun _=>hk _ (by omega) hsb3),cell_of s1 (fun _=>hk _ (by omega) hsb3),cell_of s2 (fun _=>hk _ (by omega) hib3),cell_of s3 (fun _=>hk _ (by omega) hib3),cell_of s4 (fun _=>hk _ (by omega) hib3),s5.of2 (fun b o s n c e hb=>hk b (by have:=HVF.out b o s n c e;omega) hb)⟩
 ·intro pre y rest W' hsp hJ
  have hy:=HSXX.out y (by rw[HUX.out,hsp];simp);obtain⟨z,rfl⟩:∃ z:Nat,y=z:=⟨y.toNat,by omega⟩;obtain⟨rv',hni',hob⟩:=hJ.ni;have hlp:=hJ.lp;rw[←HRC.out] at hlp
  have hlen:(gOf (esG usX code i++edN i pre) z).length≤1000000000000:=by
   have h1:=gOf_length (esG usX code i++edN i pre) z;have h2:=HLU.out (i+1) (by omega);rw[esG_succ HGET.out,HUX.out,hsp] at h2;rw[List.length_append] at h1 h2;have h3:(edN i pre).length=pre.length:=by simp[edN]
   have h4:(edN i (pre++(z:Int)::rest)).length=pre.length+(rest.length+1):=by simp[edN]
   omega
  have hob2:∀ k,k<W3.heap.size+1→¬ Ob R rr k→∀ j,j<R→some k≠(rv' j).ownBlock:=fun k hk h j hj e=>by
   rcases hob j hj k e.symm with q|q
   ·exact h ⟨j,hj,q⟩
   ·omega
  have hnx:∀ k,W.heap.size≤k→¬ Ob R rr k:=fun k hk o=>by have:=HLT.out k o;omega
  refine tc_round (W3.heap.size+1) RX W.heap.size NR R w.heap.size z i _ rv' (gOf (esG usX code i++edN i pre)) fn _ _ _ _ _ _ _ _ _ _ _ _ _ _ _ _ _ _ _ _ _ _ _ _ _ _ _ _ _ _ _ _ _ _ _ _ _ _ _ _ _ _ _ _ _ _ _ _ _ _ _ _ _  W' _ hlp (cell_of HT3.out.rx (fun _=>hJ.block RX (by omega) HB3.out.b (ob_all.2 HT3.out.x1))) (cell_of HCN.out (fun _=>HKK.out pre W' hJ _ (by omega) (by omega))) hni' (by omega) hlen (by have:=hJ.size;have:=HT3.out.bel.size;omega) (fun j hj=>⟨hob2 RX (by omega) HT3.out.x1 j hj,hob2 _ (by omega) (hnx _ (by omega)) j hj⟩) ⟨HB3.out.b,by omega⟩ ?_;intro W2 rv2 n1 n2 n3 n4 n5 n6 n7 n8;replace n3:W2.heap[W3.heap.size+1]? = some (.loop rc):=by rw[←HRC.out];exact n3
  have hsz:=hJ.size;refine⟨true,rfl,fun _=>⟨n5.trans hJ.os,n6.trans hJ.tape,n7.trans hJ.output,Nat.le_trans hJ.size n4,fun k hk h1 h2=>(n2 k (by omega) h1 (by omega) (hob2 k (by omega) (ob_all.1 h2))).trans (hJ.block k hk h1 h2),(n2 _ (by omega) (by omega) (by omega) (hob2 _ (by omega) (hnx _ (by omega)))).trans hJ.df,n3,rv2,NI.ext n1 (fun k=>?_),fun j hj b hb=>?_⟩,fun h=>by cases h⟩
  ·rw[addG_gOf,edN_snoc,List.append_assoc]
   rfl
  ·rcases n8 j hj b hb with q|q
   ·exact hob j hj b q
   ·right;omega
 ·rintro e W5 ⟨rfl,hJ⟩
  replace hJ:=hJ.resolve_right (fun h=>h);refine⟨⟨_,rfl⟩,rc,hJ.lp,by rw[←HRC.out];simp[loopRec],.inl ⟨by rw[←HRC.out];rfl,?_⟩⟩;refine gq_namedF (MTc w RX NR NW R N cap cb co (some ⟨cb,co,none⟩) code i x va vn vc W.heap.size (W3.heap.size::ms)) ?_ ?_
  ·have hsz:=hJ.size
   have p1:∀ o' k,k≠W3.heap.size+1→(W5.putObj (W3.heap.size+1) o').heap[k]? = W5.heap[k]? := fun _ k hk=>put_otherF hk;have hk:=HKK.out _ W5 hJ;obtain⟨rr',ht⟩:=hJ.t2 HT3.out HB3.out (.loop { rc with state:=.exhausted });have q:∀ b,W.heap.size≤b→b<W3.heap.size→(W5.putObj (W3.heap.size+1) (.loop { rc with state:=.exhausted })).heap[b]? = W3.heap[b]? := fun b h1 h2=>(p1 _ b (by omega)).trans (hk b h1 h2);obtain⟨c0,c1,c2,c3,c4,c5,c6,c7,c8⟩:=HC9.out;refine⟨⟨rr',rw,?_,fun o=>by have:=(HT2.out.nw.obw o).2;omega⟩,⟨?_,?_⟩,cell_of HCN.out (q _ (by omega)),by omega,cell_of c0 (q _ (by omega)),cell_of c1 (q _ (by omega)),cell_of c2 (q _ (by omega)),cell_of c3 (q _ (by omega)),cell_of c4 (q _ (by omega)),cell_of c5 (q _ (by omega)),cell_of c6 (q _ (by omega)),cell_of c7 (q _ (by omega)),cell_of c8 (q _ (by omega))⟩
   ·rw[esG_succ HGET.out,HUX.out]
    exact ht
   ·refine List.nodup_cons.2 ⟨fun hd=>?_,HMK.out.1⟩
    have:=(zge (HMK.out.2 _ hd).1).1
    omega
   ·intro d hd
    rcases List.mem_cons.1 hd with rfl|hd
    ·exact⟨(p1 _ _ (by omega)).trans hJ.df,by have:=HT2.out.bel.size;omega,by omega,by omega⟩
    ·obtain⟨q1,q4⟩:=HMK.out.2 d hd
     have hl:=(zge q1).1;have q5:W3.heap[d]? = some (.deferred (some [])):=(HBZ.out.block d hl).trans q1;refine⟨(p1 _ d (by omega)).trans ((hJ.block d (by omega) q4.2.1 (ob_all.2 (HT3.out.nr.ndef q5).2)).trans q5),q4⟩
  intro W7 hM;have HM7:=hidF hM;clear hM hJ;dsimp only;obtain⟨⟨rr2,rw2,ht7,hkb⟩,hma,hnd,hkn,c0,c1,c2,c3,c4,c5,c6,c7,c8⟩:=HM7.out;have HT7:=hidF ht7;have HMA:=hidF hma;have HKB:=hidF hkb;have HND:=hidF hnd;have HS7:=hidF (HSH.out.keep ht7.bel);have HTW:=hidF (target_walk x.op x.sub x.a x.b x.d x.k va vn vc x.s x.t _ W7 rfl HS7);clear ht7 hma hkb hnd HM7
  cases hq:readB (shOf x.op).d x.d with
  |false =>
   rw[if_neg (by rw[hq];simp)] at HTW;have HWX:Hid (wrX x=[]):=by show _=_;unfold wrX;rw[if_neg (by rw[hq];simp)]
   clear hq
   go_wp2_with (go_at_call 51;refine HTW.out.mono ?_;rintro e W8 ⟨rfl,hb8⟩)
   have HFIN:Hid (LTc w RX NR NW R N cap cb co (some ⟨cb,co,none⟩) code (i+1) (W3.heap.size::ms) W8):=⟨rr2,rw2,(HT7.out.keep hb8).gw (fun k=>by rw[esG_succ HGET.out,HWX.out];simp[edN]),HMA.out.keep hb8⟩;have e1:((i:Int)+1)=((i+1:Nat):Int):=by omega
   rw[e1];refine⟨⟨i+1,W3.heap.size::ms,_,_,_,_,_,_,_,_,_,_,_,_,_,_,_,_,_,_,_,_,_,_,_,_,_,_,_,_,_,_,_,_,_,_,_,_,_,_,_,by omega,HFIN.out,rfl⟩,?_⟩;unfold muTc;simp[intOf]
   omega
  |true =>
   rw[if_pos (by rw[hq])] at HTW;have HWX:Hid (wrX x=[x.d]):=by show _=_;unfold wrX;rw[if_pos (by rw[hq])]
   have hd:=HWXX.out x.d (by rw[HWX.out];simp);obtain⟨z,hz⟩:∃ z:Nat,x.d=z:=⟨x.d.toNat,by omega⟩;replace HTW:Hid (Calls prog 51 #[.agg #[.int .i64 x.op,.int .i64 x.sub,.int .i64 x.a,.int .i64 x.b,.int .i64 x.d,.int .i64 x.k,.slice va vn vc,.int .i64 x.s,.int .i64 x.t]] W7 (retP (.tuple #[.int .i64 (z:Int),.bool true]) W7)):=by have:=HTW.out;rw[hz] at this ⊢;exact this
   have hzR:z<R:=by omega
   have HZ:=hidF hz;clear hq hz hd
   go_upto_region 10 with (go_at_call 51;refine HTW.out.mono ?_;rintro e W8 ⟨rfl,hb8⟩)
   have HT8:=hidF (HT7.out.keep hb8);have HMA8:=hidF (HMA.out.keep hb8);refine wp_calm ?_;refine tc_reg W.heap.size NW R w.heap.size z i rw2 (gOf (esG wrX code i)) _ _ _ _ _ _ _ _ _ _ _ _ _ _ _ _ _ _ _ _ _ _ _ _ _ _ _ _ _ _ _ _ _ _ _ _ _ _ _ _ _ _ _ _ _ _ _ _ _ _ _ _  _ _ W8 (fun c a dd v x h=>by cases h.1) (keep_cell hb8 HND.out) HT8.out.nw (by omega) (Nat.le_trans (gOf_length _ _) (HLW.out i (by omega))) (by have:=HT8.out.bel.size;omega) (ob_all.2 HKB.out) hkn ?_;intro y42 y43 y44 y45 y46 y47 y48 y49 y50 y51 W9 rw3 n1 n2 n4 n5 n6 n7 n8
   have HFIN:Hid (LTc w RX NR NW R N cap cb co (some ⟨cb,co,none⟩) code (i+1) (W3.heap.size::ms) W9):=by
    refine⟨rr2,rw3,(HT8.out.grow2 HB3.out n1 (fun k ⟨j,hj,e⟩=>?_) (fun k h1 h2 h3=>n2 k h2 h1 (ob_all.2 h3)) n4 n5 n6 n7).gw (fun k=>?_),HMA8.out.1,fun d hd=>?_⟩
    ·rcases n8 j hj k e with q|q
     ·exact .inl ⟨j,hj,q⟩
     ·exact .inr q
    ·rw[esG_succ HGET.out,HWX.out,HZ.out,addG_gOf]
     simp[edN]
    ·obtain⟨q1,q2⟩:=HMA8.out.2 d hd
     exact⟨(n2 d q2.2.2 (zge q1).1 (ob_all.2 (HT8.out.nw.ndef q1).2)).trans q1,q2⟩
   clear n1 n2 n4 n5 n6 n7 n8;refine⟨rfl,?_⟩;go_wp2;have e1:((i:Int)+1)=((i+1:Nat):Int):=by omega
   rw[e1];refine⟨⟨i+1,W3.heap.size::ms,_,_,_,_,_,_,_,_,_,_,_,_,_,_,_,_,_,_,_,_,_,_,_,_,_,_,_,_,_,_,_,_,_,_,_,_,_,_,_,by omega,HFIN.out,rfl⟩,?_⟩;unfold muTc;simp[intOf]
   omega
set_option maxHeartbeats 8000000
noncomputable def tcR1:Code:=((Tryz.f31.body.bind (regionNF 1)).getD .skip)
structure R1 (w1:World) (RX NR NW R:Nat) (W:World):Prop where
 os:W.os=w1.os
 tape:W.tape=w1.tape
 output:W.output=w1.output
 size:W.heap.size=w1.heap.size+2
 block:∀ k,k<w1.heap.size→k≠RX→W.heap[k]? = w1.heap[k]?
 ne:NR≠NW
 lr:w1.heap.size≤NR∧NR<w1.heap.size+2
 lw:w1.heap.size≤NW∧NW<w1.heap.size+2
 rx:W.cell? ⟨RX,0,none⟩=some (.slice (some ⟨NR,0,none⟩) R R)
 rz:W.frozen? ⟨RX,0,none⟩=false
 cr:∀ i,i<R→W.cell? ⟨NR,i,none⟩=some (.slice none 0 0)∧W.frozen? ⟨NR,i,none⟩=false
 cw:∀ i,i<R→W.cell? ⟨NW,i,none⟩=some (.slice none 0 0)∧W.frozen? ⟨NW,i,none⟩=false
theorem frozen_new (w:World) (c:Array Value) (e:TypeId) (k:Nat) (hk:w.heap.size=k):(w.alloc (.cells c e)).frozen? ⟨k,0,none⟩=false:=by
 have hh:(w.alloc (.cells c e)).heap[w.heap.size]? = some (.cells c e (0,0)):=by
  show (w.heap.push _)[w.heap.size]? = _
  simp
 rw[←hk];unfold World.frozen?;rw[hh];simp
theorem alloc_old {V:World} {o:Obj} {k:Nat} (h:k<V.heap.size):(V.alloc o).heap[k]? = V.heap[k]? := Below.heap_alloc V o k h
theorem r1_A (w1:World) (RX R:Nat) (crx:w1.cell? ⟨RX,0,none⟩=some (.slice none 0 0)) (frx:w1.frozen? ⟨RX,0,none⟩=false) (hRX:RX<w1.heap.size):R1 w1 RX (w1.heap.size) (w1.heap.size+1) R ((((w1.setCell ⟨RX,0,none⟩ (.slice (some ⟨w1.heap.size,0,none⟩) R R)).alloc (.cells (madeCells #[.slice none 0 0] R) 22)).alloc (.cells (madeCells #[.slice none 0 0] R) 22)).drew):=by
 obtain⟨V,hV⟩:∃ V,w1.setCell ⟨RX,0,none⟩ (.slice (some ⟨w1.heap.size,0,none⟩) R R)=V:=⟨_,rfl⟩;have hs0:V.heap.size=w1.heap.size:=by rw[←hV,gsize_setF]
 have ha:=made_at V (.slice none 0 0) R 22;have hb:=made_at (V.alloc (.cells (madeCells #[.slice none 0 0] R) 22)) (.slice none 0 0) R 22;have hs1:(V.alloc (.cells (madeCells #[.slice none 0 0] R) 22)).heap.size=w1.heap.size+1:=by rw[World.size_alloc,hs0]
 rw[hs0] at ha;rw[hs1] at hb;have cV:V.cell? ⟨RX,0,none⟩=some (.slice (some ⟨w1.heap.size,0,none⟩) R R):=by rw[←hV];exact World.cell?_setCell_same _ _ _ crx
 have fV:V.frozen? ⟨RX,0,none⟩=false:=by rw[←hV,World.frozen?_setCell];exact frx
 have ka:∀ i,i<R→((V.alloc (.cells (madeCells #[.slice none 0 0] R) 22)).alloc (.cells (madeCells #[.slice none 0 0] R) 22)).cell? ⟨w1.heap.size,i,none⟩=some (.slice none 0 0)∧((V.alloc (.cells (madeCells #[.slice none 0 0] R) 22)).alloc (.cells (madeCells #[.slice none 0 0] R) 22)).frozen? ⟨w1.heap.size,i,none⟩=false:=fun i hi=>⟨keep_alloc (ha i hi).1 _,keep_frozen (bel_alloc (Below.refl _ _) _) (ha i hi).1 (ha i hi).2⟩;rw[hV];refine⟨by rw[←hV];rfl,by rw[←hV];rfl,by rw[←hV];rfl,by show ((V.alloc (.cells (madeCells #[.slice none 0 0] R) 22)).alloc (.cells (madeCells #[.slice none 0 0] R) 22)).heap.size=_;rw[World.size_alloc,hs1],fun k hk hne=>?_,by omega,⟨by omega,by omega⟩,⟨by omega,by omega⟩,keep_alloc (keep_alloc cV _) _,keep_frozen (bel_alloc (bel_alloc (Below.refl _ _) _) _) cV fV,ka,hb⟩
 show ((V.alloc (.cells (madeCells #[.slice none 0 0] R) 22)).alloc (.cells (madeCells #[.slice none 0 0] R) 22)).heap[k]? = _
 rw[alloc_old (by omega),alloc_old (by omega),←hV,gset_otherF hne]
theorem r1_C (w1:World) (RX R:Nat) (crx:w1.cell? ⟨RX,0,none⟩=some (.slice none 0 0)) (frx:w1.frozen? ⟨RX,0,none⟩=false) (hRX:RX<w1.heap.size):R1 w1 RX (w1.heap.size+1) (w1.heap.size) R ((((w1.setCell ⟨RX,0,none⟩ (.slice (some ⟨w1.heap.size+1,0,none⟩) R R)).alloc (.cells (madeCells #[.slice none 0 0] R) 22)).alloc (.cells (madeCells #[.slice none 0 0] R) 22)).drew):=by
 obtain⟨V,hV⟩:∃ V,w1.setCell ⟨RX,0,none⟩ (.slice (some ⟨w1.heap.size+1,0,none⟩) R R)=V:=⟨_,rfl⟩;have hs0:V.heap.size=w1.heap.size:=by rw[←hV,gsize_setF]
 have ha:=made_at V (.slice none 0 0) R 22;have hb:=made_at (V.alloc (.cells (madeCells #[.slice none 0 0] R) 22)) (.slice none 0 0) R 22;have hs1:(V.alloc (.cells (madeCells #[.slice none 0 0] R) 22)).heap.size=w1.heap.size+1:=by rw[World.size_alloc,hs0]
 rw[hs0] at ha;rw[hs1] at hb;have cV:V.cell? ⟨RX,0,none⟩=some (.slice (some ⟨w1.heap.size+1,0,none⟩) R R):=by rw[←hV];exact World.cell?_setCell_same _ _ _ crx
 have fV:V.frozen? ⟨RX,0,none⟩=false:=by rw[←hV,World.frozen?_setCell];exact frx
 have ka:∀ i,i<R→((V.alloc (.cells (madeCells #[.slice none 0 0] R) 22)).alloc (.cells (madeCells #[.slice none 0 0] R) 22)).cell? ⟨w1.heap.size,i,none⟩=some (.slice none 0 0)∧((V.alloc (.cells (madeCells #[.slice none 0 0] R) 22)).alloc (.cells (madeCells #[.slice none 0 0] R) 22)).frozen? ⟨w1.heap.size,i,none⟩=false:=fun i hi=>⟨keep_alloc (ha i hi).1 _,keep_frozen (bel_alloc (Below.refl _ _) _) (ha i hi).1 (ha i hi).2⟩;rw[hV];refine⟨by rw[←hV];rfl,by rw[←hV];rfl,by rw[←hV];rfl,by show ((V.alloc (.cells (madeCells #[.slice none 0 0] R) 22)).alloc (.cells (madeCells #[.slice none 0 0] R) 22)).heap.size=_;rw[World.size_alloc,hs1],fun k hk hne=>?_,by omega,⟨by omega,by omega⟩,⟨by omega,by omega⟩,keep_alloc (keep_alloc cV _) _,keep_frozen (bel_alloc (bel_alloc (Below.refl _ _) _) _) cV fV,hb,ka⟩
 show ((V.alloc (.cells (madeCells #[.slice none 0 0] R) 22)).alloc (.cells (madeCells #[.slice none 0 0] R) 22)).heap[k]? = _
 rw[alloc_old (by omega),alloc_old (by omega),←hV,gset_otherF hne]
theorem tc_r1 (FB RX R:Nat) (z0 z3 z4 z5 z6 z7 z8 z9 z10 z11 z12 z13 z14 z15 z16 z17 z18 z19 z20 z21 z22 z23 z24 z25 z26 z27 z28 z29 z30 z31 z32 z33 z34 z35 z36 z37 z38 z39 z40 z41 z42 z43 z44 z45 z46 z47 z48 z49 z50 z51 z52 z53 z54:Value) (DF:List Deferred) (Q0:Exit→Act→World→Prop) (w1:World) (hQ0:∀ c (a:Act) (dd:Option Tmp) v x,Q0 (.panic c) (a.put dd v) x→Q0 (.panic c) a x)
  (hR:R≤1000000) (h1:w1.cell? ⟨FB,2,none⟩=some (.int .i64 (R:Int))) (crx:w1.cell? ⟨RX,0,none⟩=some (.slice none 0 0)) (frx:w1.frozen? ⟨RX,0,none⟩=false) (hRX:RX<w1.heap.size) (HNE:Hid (FB≠RX))
  (HK:Hid (∀ y9 y10 y11 y12 y13 y14 NR NW (W:World),R1 w1 RX NR NW R W→Q0 .normal ⟨#[z0,.pointer (some ⟨FB,0,none⟩),.pointer (some ⟨RX,0,none⟩),.slice (some ⟨NW,0,none⟩) R R,z4,z5,z6,z7,z8,y9,y10,y11,y12,y13,y14,z15,z16,z17,z18,z19,z20,z21,z22,z23,z24,z25,z26,z27,z28,z29,z30,z31,z32,z33,z34,z35,z36,z37,z38,z39,z40,z41,z42,z43,z44,z45,z46,z47,z48,z49,z50,z51,z52,z53,z54],DF⟩ W)) :
  Code.wp prog tcR1 Q0 ⟨#[z0,.pointer (some ⟨FB,0,none⟩),.pointer (some ⟨RX,0,none⟩),z3,z4,z5,z6,z7,z8,z9,z10,z11,z12,z13,z14,z15,z16,z17,z18,z19,z20,z21,z22,z23,z24,z25,z26,z27,z28,z29,z30,z31,z32,z33,z34,z35,z36,z37,z38,z39,z40,z41,z42,z43,z44,z45,z46,z47,z48,z49,z50,z51,z52,z53,z54],DF⟩ w1:=by
 have mk1:=mk_rows R hR
 conv=>arg 2;whnf
 refine wp_region_held_drew (S:=(fun w'=>w'.cell? ⟨FB,2,none⟩=some (.int .i64 (R:Int)))) (by kernel_rfl) (h1) (fun hH=>?_);refine wpAnyH_take (i:=0) (oi:=?o0) (v:=?v0) ?i0 (by kernel_rfl) (by kernel_rfl) (by kernel_rfl) ?q0 ?y0 hH ?_
 case i0=>simp only[zga,zgs,zgz];rfl
 case q0=>exact fun _ _ _=>hQ0 _ _ _ _ _
 case y0=>refine .inl ⟨by rfl,?_⟩;intro w' hSw;(try dsimp only at hSw);go_simp;try with_reducible rfl
 simp only[Act.put,zsa,zsz,zss];refine wpAnyH_take (i:=1) (oi:=?o1) (v:=?v1) ?i1 (by kernel_rfl) (by kernel_rfl) (by kernel_rfl) ?q1 ?y1 hH ?_
 case i1=>simp only[zga,zgs,zgz];rfl
 case q1=>exact fun _ _ _=>hQ0 _ _ _ _ _
 case y1=>refine .inl ⟨by rfl,?_⟩;intro w' hSw;(try dsimp only at hSw);go_simp;try with_reducible rfl
 simp only[Act.put,zsa,zsz,zss];refine wpAnyH_take (i:=3) (oi:=?o2) (v:=?v2) ?i2 (by kernel_rfl) (by kernel_rfl) (by kernel_rfl) ?q2 ?y2 hH ?_
 case i2=>simp only[zga,zgs,zgz];rfl
 case q2=>exact fun _ _ _=>hQ0 _ _ _ _ _
 case y2=>refine .inl ⟨by rfl,?_⟩;intro w' hSw;(try dsimp only at hSw);go_simp;try with_reducible rfl
 simp only[Act.put,zsa,zsz,zss];refine wpAnyH_take (i:=4) (oi:=?o3) (v:=?v3) ?i3 (by kernel_rfl) (by kernel_rfl) (by kernel_rfl) ?q3 ?y3 hH ?_
 case i3=>simp only[zga,zgs,zgz];rfl
 case q3=>exact fun _ _ _=>hQ0 _ _ _ _ _
 case y3=>refine .inl ⟨by rfl,?_⟩;intro w' hSw;(try dsimp only at hSw);go_simp;try with_reducible rfl
 simp only[Act.put,zsa,zsz,zss];refine wpAnyH_ready (rs:=[2,5]) (by kernel_rfl) (by simp) ?_;refine(AllReadyH.cons (o:=?o4) ?i4 (fun K hK=>?g4) (AllReadyH.cons (o:=?o5) ?i5 (fun K hK=>?g5) AllReadyH.nil))
 case i4=>simp only[zga,zgs,zgz];rfl
 case i5=>simp only[zga,zgs,zgz];rfl
 case g4 =>
  go_simp;refine hK.out _ _ (keep_alloc hH _) (fun hN=>?_);clear hK K hH;have hH:=hN;clear hN
  try simp only[Act.put,zsa,zsz,zss]
  refine wpAnyH_ready (rs:=[5,6]) (by kernel_rfl) (by simp) ?_;refine(AllReadyH.cons (o:=?o6) ?i6 (fun K hK=>?g6) (AllReadyH.cons (o:=?o7) ?i7 (fun K hK=>?g7) AllReadyH.nil))
  case i6=>simp only[zga,zgs,zgz];rfl
  case i7=>simp only[zga,zgs,zgz];rfl
  case g6 =>
   go_simp;refine hK.out _ _ (keep_alloc hH _) (fun hN=>?_);clear hK K hH;have hH:=hN;clear hN
   try simp only[Act.put,zsa,zsz,zss]
   refine zr (r:=6) (o:=?o8) (by kernel_rfl) ?i8 (fun K hK=>?g8)
   case i8=>simp only[zga,zgs,zgz];rfl
   case g8 =>
    go_simp;refine hK.out _ _ (keep_alloc (keep_alloc (keep_set (p:=⟨RX,0,none⟩) h1 HNE.out) _) _) (fun hN=>?_);clear hK K hH;have hH:=hN;clear hN
    try simp only[Act.put,zsa,zsz,zss]
    refine wpAnyH_take (i:=7) (oi:=?o9) (v:=?v9) ?i9 (by kernel_rfl) (by kernel_rfl) (by kernel_rfl) ?q9 ?y9 hH ?_
    case i9=>simp only[zga,zgs,zgz];rfl
    case q9=>exact fun _ _ _=>hQ0 _ _ _ _ _
    case y9=>refine .inl ⟨by rfl,?_⟩;intro w' hSw;(try dsimp only at hSw);go_simp;try with_reducible rfl
    simp only[Act.put,zsa,zsz,zss];refine wpAnyH_done (by kernel_rfl) ?_ _;exact HK.out _ _ _ _ _ _ _ _ _ (r1_A w1 RX R crx frx hRX)
  case g7 =>
   go_simp;refine hK.out _ _ (keep_alloc (keep_set (p:=⟨RX,0,none⟩) h1 HNE.out) _) (fun hN=>?_);clear hK K hH;have hH:=hN;clear hN
   try simp only[Act.put,zsa,zsz,zss]
   refine zr (r:=5) (o:=?o10) (by kernel_rfl) ?i10 (fun K hK=>?g10)
   case i10=>simp only[zga,zgs,zgz];rfl
   case g10 =>
    go_simp;refine hK.out _ _ (keep_alloc hH _) (fun hN=>?_);clear hK K hH;have hH:=hN;clear hN
    try simp only[Act.put,zsa,zsz,zss]
    refine wpAnyH_take (i:=7) (oi:=?o11) (v:=?v11) ?i11 (by kernel_rfl) (by kernel_rfl) (by kernel_rfl) ?q11 ?y11 hH ?_
    case i11=>simp only[zga,zgs,zgz];rfl
    case q11=>exact fun _ _ _=>hQ0 _ _ _ _ _
    case y11=>refine .inl ⟨by rfl,?_⟩;intro w' hSw;(try dsimp only at hSw);go_simp;try with_reducible rfl
    simp only[Act.put,zsa,zsz,zss];refine wpAnyH_done (by kernel_rfl) ?_ _;exact HK.out _ _ _ _ _ _ _ _ _ (r1_A w1 RX R crx frx hRX)
 case g5 =>
  go_simp;refine hK.out _ _ (keep_alloc hH _) (fun hN=>?_);clear hK K hH;have hH:=hN;clear hN
  try simp only[Act.put,zsa,zsz,zss]
  refine zr (r:=2) (o:=?o12) (by kernel_rfl) ?i12 (fun K hK=>?g12)
  case i12=>simp only[zga,zgs,zgz];rfl
  case g12 =>
   go_simp;refine hK.out _ _ (keep_alloc hH _) (fun hN=>?_);clear hK K hH;have hH:=hN;clear hN
   try simp only[Act.put,zsa,zsz,zss]
   refine zr (r:=6) (o:=?o13) (by kernel_rfl) ?i13 (fun K hK=>?g13)
   case i13=>simp only[zga,zgs,zgz];rfl
   case g13 =>
    go_simp;refine hK.out _ _ (keep_alloc (keep_alloc (keep_set (p:=⟨RX,0,none⟩) h1 HNE.out) _) _) (fun hN=>?_);clear hK K hH;have hH:=hN;clear hN
    try simp only[Act.put,zsa,zsz,zss]
    refine wpAnyH_take (i:=7) (oi:=?o14) (v:=?v14) ?i14 (by kernel_rfl) (by kernel_rfl) (by kernel_rfl) ?q14 ?y14 hH ?_
    case i14=>simp only[zga,zgs,zgz];rfl
    case q14=>exact fun _ _ _=>hQ0 _ _ _ _ _
    case y14=>refine .inl ⟨by rfl,?_⟩;intro w' hSw;(try dsimp only at hSw);go_simp;try with_reducible rfl
    simp only[Act.put,zsa,zsz,zss];refine wpAnyH_done (by kernel_rfl) ?_ _;exact HK.out _ _ _ _ _ _ _ _ _ (r1_C w1 RX R crx frx hRX)
theorem tc_out (w:World) (RX NR NW R N cap cb co:Nat) (ca:Option Addr) (code:List Ins) (z0 z1 z9 z10 z11 z12 z13 z14 z15 z53 z54:Value) (z4 z5 z6 z7 z8 z19 z20 z21 z22 z23 z24 z25 z26 z27 z28 z29 z30 z31 z32 z33 z34 z35 z36 z37 z38 z39 z40 z41 z42 z43 z44 z45 z46 z47 z48 z49 z50 z51 z52:Value) (ms:List Nat) (Q0:Exit→Act→World→Prop) (W:World) (HX:Hid (Q0 (.exit 0) ⟨#[z0,z1,.pointer (some ⟨RX,0,none⟩),.slice (some ⟨NW,0,none⟩) R R,z4,z5,z6,z7,z8,z9,z10,z11,z12,z13,z14,z15,.slice ca N cap,.int .i64 N,.int .i64 (N:Int),.bool false,z20,z21,z22,z23,z24,z25,z26,z27,z28,z29,z30,z31,z32,z33,z34,z35,z36,z37,z38,z39,z40,z41,z42,z43,z44,z45,z46,z47,z48,z49,z50,z51,z52,z53,z54],ms.map mkD⟩ W)) (K:Act→World→Prop) :
  Code.wp prog tcLoop (Exit.then K Q0) ⟨#[z0,z1,.pointer (some ⟨RX,0,none⟩),.slice (some ⟨NW,0,none⟩) R R,z4,z5,z6,z7,z8,z9,z10,z11,z12,z13,z14,z15,.slice ca N cap,.int .i64 N,.int .i64 (N:Int),z19,z20,z21,z22,z23,z24,z25,z26,z27,z28,z29,z30,z31,z32,z33,z34,z35,z36,z37,z38,z39,z40,z41,z42,z43,z44,z45,z46,z47,z48,z49,z50,z51,z52,z53,z54],ms.map mkD⟩ W:=by
 conv=>arg 2;whnf
 go_wp2;exact HX.out
theorem tc_loop (w:World) (RX NR NW R N cap cb co:Nat) (ca:Option Addr) (code:List Ins) (z0 z1 z9 z10 z11 z12 z13 z14 z15 z53 z54:Value) (z4 z5 z6 z7 z8 z19 z20 z21 z22 z23 z24 z25 z26 z27 z28 z29 z30 z31 z32 z33 z34 z35 z36 z37 z38 z39 z40 z41 z42 z43 z44 z45 z46 z47 z48 z49 z50 z51 z52:Value) (Q0:Exit→Act→World→Prop) (W:World) (hn:N≤100000) (HCL:Hid (code.length=N)) (HCA:Hid (0<N→ca=some ⟨cb,co,none⟩)) (HIN:Hid (∀ (i:Nat) x,code[i]? = some x→InsAt w cb (co+i*9) x)) (HSH:Hid (ShTab w)) (HUS:Hid (∀ x∈code,∀ y∈usX x,0≤y∧y<R)) (HWS:Hid (∀ x∈code,∀ y∈wrX x,0≤y∧y<R)) (HLU:Hid (∀ i,i≤N→(esG usX code i).length≤1000000000000)) (HLW:Hid (∀ i,i≤N→(esG wrX code i).length≤1000000000000)) (HB3:Hid (B3 w RX NR NW)) (HL:Hid (LTc w RX NR NW R N cap cb co ca code 0 [] W))
  (HX:Hid (∀ (ms:List Nat) (z4 z5 z6 z7 z8 z19 z20 z21 z22 z23 z24 z25 z26 z27 z28 z29 z30 z31 z32 z33 z34 z35 z36 z37 z38 z39 z40 z41 z42 z43 z44 z45 z46 z47 z48 z49 z50 z51 z52:Value) (W':World),LTc w RX NR NW R N cap cb co ca code N ms W'→Q0 (.exit 0) ⟨#[z0,z1,.pointer (some ⟨RX,0,none⟩),.slice (some ⟨NW,0,none⟩) R R,z4,z5,z6,z7,z8,z9,z10,z11,z12,z13,z14,z15,.slice ca N cap,.int .i64 N,.int .i64 (N:Int),z19,z20,z21,z22,z23,z24,z25,z26,z27,z28,z29,z30,z31,z32,z33,z34,z35,z36,z37,z38,z39,z40,z41,z42,z43,z44,z45,z46,z47,z48,z49,z50,z51,z52,z53,z54],ms.map mkD⟩ W')) :
  Code.wp prog (Code.loop tcLoop) Q0 ⟨#[z0,z1,.pointer (some ⟨RX,0,none⟩),.slice (some ⟨NW,0,none⟩) R R,z4,z5,z6,z7,z8,z9,z10,z11,z12,z13,z14,z15,.slice ca N cap,.int .i64 N,.int .i64 0,z19,z20,z21,z22,z23,z24,z25,z26,z27,z28,z29,z30,z31,z32,z33,z34,z35,z36,z37,z38,z39,z40,z41,z42,z43,z44,z45,z46,z47,z48,z49,z50,z51,z52,z53,z54],[]⟩ W:=by
 refine wp_loop (ITc w RX NR NW R N cap cb co ca code z0 z1 z9 z10 z11 z12 z13 z14 z15 z53 z54) (muTc N) ⟨0,[],z4,z5,z6,z7,z8,z19,z20,z21,z22,z23,z24,z25,z26,z27,z28,z29,z30,z31,z32,z33,z34,z35,z36,z37,z38,z39,z40,z41,z42,z43,z44,z45,z46,z47,z48,z49,z50,z51,z52,by omega,HL.out,rfl⟩ ?_;rintro a W2 ⟨i,ms,u4,u5,u6,u7,u8,u19,u20,u21,u22,u23,u24,u25,u26,u27,u28,u29,u30,u31,u32,u33,u34,u35,u36,u37,u38,u39,u40,u41,u42,u43,u44,u45,u46,u47,u48,u49,u50,u51,u52,hi,hL,rfl⟩
 by_cases hin:i<N
 ·exact tc_step w RX NR NW R N cap cb co ca code z0 z1 z9 z10 z11 z12 z13 z14 z15 z53 z54 u4 u5 u6 u7 u8 u19 u20 u21 u22 u23 u24 u25 u26 u27 u28 u29 u30 u31 u32 u33 u34 u35 u36 u37 u38 u39 u40 u41 u42 u43 u44 u45 u46 u47 u48 u49 u50 u51 u52 i ms Q0 W2 hn HCL HCA HIN HSH HUS HWS HLU HLW HB3 hL hin
 ·obtain rfl:i=N:=by omega
  exact tc_out w RX NR NW R i cap cb co ca code z0 z1 z9 z10 z11 z12 z13 z14 z15 z53 z54 u4 u5 u6 u7 u8 u19 u20 u21 u22 u23 u24 u25 u26 u27 u28 u29 u30 u31 u32 u33 u34 u35 u36 u37 u38 u39 u40 u41 u42 u43 u44 u45 u46 u47 u48 u49 u50 u51 u52 ms Q0 W2 (HX.out ms u4 u5 u6 u7 u8 (.bool false) u20 u21 u22 u23 u24 u25 u26 u27 u28 u29 u30 u31 u32 u33 u34 u35 u36 u37 u38 u39 u40 u41 u42 u43 u44 u45 u46 u47 u48 u49 u50 u51 u52 W2 hL) _
def retTc (R N:Nat) (code:List Ins) (w:World):Ending→World→Prop:=fun e W=>∃ NR NW rr rw,e=.returned (.tuple #[.slice (some ⟨NR,0,none⟩) R R,.slice (some ⟨NW,0,none⟩) R R])∧NI w.heap.size NR R rr (gOf (esG usX code N)) W∧NI w.heap.size NW R rw (gOf (esG wrX code N)) W∧Below w.heap.size w W∧w.heap.size≤NR∧w.heap.size≤NW
theorem touches_walk (w:World) (fname:ByteArray) (pv:Value) (frm ent:Int) (R N cap cb co:Nat) (ca:Option Addr) (code:List Ins) (hpv:∃ pa pn pc,pv=.slice pa pn pc) (hR:R≤1000000) (hn:N≤100000) (HCL:Hid (code.length=N)) (HCA:Hid (0<N→ca=some ⟨cb,co,none⟩)) (HIN:Hid (∀ (i:Nat) x,code[i]? = some x→InsAt w cb (co+i*9) x)) (HSH:Hid (ShTab w)) (HUS:Hid (∀ x∈code,∀ y∈usX x,0≤y∧y<R)) (HWS:Hid (∀ x∈code,∀ y∈wrX x,0≤y∧y<R)) (HLU:Hid (∀ i,i≤N→(esG usX code i).length≤1000000000000)) (HLW:Hid (∀ i,i≤N→(esG wrX code i).length≤1000000000000)) :
  Calls prog 31 #[.agg #[.string fname,pv,.int .i64 (R:Int),.int .i64 frm,.int .i64 ent,.slice ca N cap]] w (retTc R N code w):=by
 obtain⟨pa,pn,pc,rfl⟩:∃ pa pn pc,pv=.slice pa pn pc:=hpv;refine callsIn_wide.1 (callsIn_of_wp_marks (n:=3) func31 rfl trivial ?_);simp only[ntmps31,List.size_toArray,List.length_cons,List.length_nil,Nat.reduceAdd,Nat.reduceSub,Array.replicate_succ,Array.replicate_zero,List.push_toArray,List.append_toArray,List.nil_append,List.cons_append];refine wpIn_wide.2 ?_
 go_upto_region 1 with fail
 have hfz:((w.alloc (.cells #[.string fname,.slice pa pn pc,.int .i64 (R:Int),.int .i64 frm,.int .i64 ent,.slice ca N cap] 25)).alloc (.cells #[.slice none 0 0] 58)).frozen? ⟨w.heap.size+1,0,none⟩=false:=frozen_new _ _ _ _ (World.size_alloc _ _);refine wp_calm ?_;refine tc_r1 w.heap.size (w.heap.size+1) R _ _ _ _ _ _ _ _ _ _ _ _ _ _ _ _ _ _ _ _ _ _ _ _ _ _ _ _ _ _ _ _ _ _ _ _ _ _ _ _ _ _ _ _ _ _ _ _ _ _ _ _ _  _ _ _ (fun c a dd v x h=>by cases h.1) hR (by simp) (by simp) hfz (by simp) (hidF (by omega)) ?_;intro y9 y10 y11 y12 y13 y14 NR NW W hr1;refine⟨rfl,?_⟩;have hsz:((w.alloc (.cells #[.string fname,.slice pa pn pc,.int .i64 (R:Int),.int .i64 frm,.int .i64 ent,.slice ca N cap] 25)).alloc (.cells #[.slice none 0 0] 58)).heap.size=w.heap.size+2:=by simp
 have hbw:Below w.heap.size w ((w.alloc (.cells #[.string fname,.slice pa pn pc,.int .i64 (R:Int),.int .i64 frm,.int .i64 ent,.slice ca N cap] 25)).alloc (.cells #[.slice none 0 0] 58)):=bel_alloc (bel_alloc (Below.refl _ _) _) _
 have c5:W.cell? ⟨w.heap.size,5,none⟩=some (.slice ca N cap):=by
  refine cell_of (W:=((w.alloc (.cells #[.string fname,.slice pa pn pc,.int .i64 (R:Int),.int .i64 frm,.int .i64 ent,.slice ca N cap] 25)).alloc (.cells #[.slice none 0 0] 58))) (by simp) (fun h=>hr1.block _ h (by omega))
 have hbW:Below w.heap.size w W:=⟨hr1.os.trans hbw.os,hr1.tape.trans hbw.tape,hr1.output.trans hbw.output,by rw[hr1.size,hsz];omega,fun k hk=>(hr1.block k (by omega) (by omega)).trans (hbw.block k hk)⟩;have hlr:=hr1.lr;have hlw:=hr1.lw;rw[hsz] at hlr hlw
 have HL0:Hid (LTc w (w.heap.size+1) NR NW R N cap cb co ca code 0 [] W):=by
  refine⟨fun _=>.slice none 0 0,fun _=>.slice none 0 0,⟨?_,?_,?_,?_,?_,hbW,hr1.rx,hr1.rz,?_,?_,?_⟩,List.nodup_nil,fun d hd=>by cases hd⟩
  ·exact NI.ext (NI.start _ _ _ _ hr1.cr) (fun i=>by simp[gOf,esG])
  ·exact NI.ext (NI.start _ _ _ _ hr1.cw) (fun i=>by simp[gOf,esG])
  ·rintro k ⟨j,_,e⟩;cases e
  ·rintro⟨j,_,e⟩;cases e
  ·rintro⟨j,_,e⟩;cases e
  ·rintro⟨j,_,e⟩;cases e
  ·rintro⟨j,_,e⟩;cases e
  ·rw[hr1.size,hsz];omega
 have HB3:Hid (B3 w (w.heap.size+1) NR NW):=⟨hr1.ne,by omega,by omega,by omega,by omega,by omega⟩;clear hr1 hfz hsz hbw hbW hlr hlw;go_wp2;refine tc_loop w (w.heap.size+1) NR NW R N cap cb co ca code _ _ _ _ _ _ _ _ _ _ _ _ _ _ _ _ _ _ _ _ _ _ _ _ _ _ _ _ _ _ _ _ _ _ _ _ _ _ _ _ _ _ _ _ _ _ _ _ _ _  _ _ hn HCL HCA HIN HSH HUS HWS HLU HLW HB3 HL0 ?_;intro ms v4 v5 v6 v7 v8 v19 v20 v21 v22 v23 v24 v25 v26 v27 v28 v29 v30 v31 v32 v33 v34 v35 v36 v37 v38 v39 v40 v41 v42 v43 v44 v45 v46 v47 v48 v49 v50 v51 v52 W' hL;obtain⟨rr,rw,ht2,hmk⟩:=hL;have HT:=hidF ht2;have HM:=hidF hmk;have hrx:=ht2.rx;have hrz:=ht2.rz;clear ht2 hmk;go_wp2;refine leaves_marks ms _ HM.out.1 ?_ ?_
 ·intro d hd
  obtain⟨q1,q2⟩:=HM.out.2 d hd;rw[gset_otherF ?_]
  ·exact q1
  ·intro e
   rw[e] at q1;simp[World.cell?,q1] at hrx
 ·intro W6 h1 h2 h3 h4 h5
  have hd1:w.heap.size+1 ∉ ms:=fun hd=>by
   have q1:=(HM.out.2 _ hd).1;simp[World.cell?,q1] at hrx
  have c6:W6.cell? ⟨w.heap.size+1,0,none⟩=some (.slice (some ⟨NR,0,none⟩) R R):=by
   rw[World.cell?_of_block (h1 _ hd1)];exact World.cell?_setCell_same _ _ _ hrx
  have hk:∀ k,k ∉ ms→k≠w.heap.size+1→W6.heap[k]? = W'.heap[k]? := fun k q1 q2=>(h1 k q1).trans (gset_otherF q2);have ht:=HT.out;have hb:=ht.bel;have hs6:W6.heap.size=W'.heap.size:=by rw[h5,gsize_setF]
  have hni:∀ {NB:Nat} {rv:Nat→Value} {g:Nat→List Nat},NI w.heap.size NB R rv g W'→¬ Ob R rv (w.heap.size+1)→w.heap.size+1≠NB→NI w.heap.size NB R rv g W6:=fun h q1 q2=>h.blk (fun k hk2=>hk k (fun hd=>by
   have hq:=h.ndef (HM.out.2 k hd).1
   rcases hk2 with ⟨h0,e⟩|ho
   ·exact hq.1 h0 e
   ·exact hq.2 ho) (fun e=>by
   subst e
   rcases hk2 with ⟨h0,e⟩|ho
   ·exact q2 e
   ·exact q1 ho))
  refine⟨_,(by simp[results,results31,go_sem,c6]),NR,NW,rr,rw,rfl,hni ht.nr ht.x1 HB3.out.b,hni ht.nw ht.x2 HB3.out.c,⟨h2.trans hb.os,h3.trans hb.tape,h4.trans hb.output,by rw[hs6];exact hb.size,fun k hk3=>(hk k (fun hd=>by have:=(HM.out.2 _ hd).2.1;omega) (by omega)).trans (hb.block k hk3)⟩,HB3.out.d,HB3.out.e⟩
theorem bk_out (w:World) (LX NB N cap cb co:Nat) (ca:Option Addr) (code:List Ins) (z0 z1 z2 z7 z8 z9 z31:Value) (z4 z5 z6 z13 z14 z15 z16 z17 z18 z19 z20 z21 z22 z23 z24 z25 z26 z27 z28 z29 z30:Value) (ms:List Nat) (Q0:Exit→Act→World→Prop) (W:World) (HX:Hid (Q0 (.exit 0) ⟨#[z0,z1,z2,.pointer (some ⟨LX,0,none⟩),z4,z5,z6,z7,z8,z9,.slice ca N cap,.int .i64 N,.int .i64 (N:Int),.bool false,z14,z15,z16,z17,z18,z19,z20,z21,z22,z23,z24,z25,z26,z27,z28,z29,z30,z31],ms.map mkD⟩ W)) (K:Act→World→Prop) :
  Code.wp prog bkLoop (Exit.then K Q0) ⟨#[z0,z1,z2,.pointer (some ⟨LX,0,none⟩),z4,z5,z6,z7,z8,z9,.slice ca N cap,.int .i64 N,.int .i64 (N:Int),z13,z14,z15,z16,z17,z18,z19,z20,z21,z22,z23,z24,z25,z26,z27,z28,z29,z30,z31],ms.map mkD⟩ W:=by
 conv=>arg 2;whnf
 go_wp2;exact HX.out
theorem bk_loop (w:World) (LX NB N cap cb co:Nat) (ca:Option Addr) (code:List Ins) (z0 z1 z2 z7 z8 z9 z31:Value) (z4 z5 z6 z13 z14 z15 z16 z17 z18 z19 z20 z21 z22 z23 z24 z25 z26 z27 z28 z29 z30:Value) (Q0:Exit→Act→World→Prop) (W:World) (hn:N≤100000) (HCL:Hid (code.length=N)) (HCA:Hid (0<N→ca=some ⟨cb,co,none⟩)) (HIN:Hid (∀ (i:Nat) x,code[i]? = some x→InsAt w cb (co+i*9) x)) (HSX:Hid (∀ x∈code,∀ y∈sxF x,0≤y∧y<N)) (HNE:Hid (LX≠NB∧w.heap.size≤NB)) (HL:Hid (LBk w LX NB N cap cb co ca code 0 [] W))
  (HX:Hid (∀ (ms:List Nat) (z4 z5 z6 z13 z14 z15 z16 z17 z18 z19 z20 z21 z22 z23 z24 z25 z26 z27 z28 z29 z30:Value) (W':World),LBk w LX NB N cap cb co ca code N ms W'→Q0 (.exit 0) ⟨#[z0,z1,z2,.pointer (some ⟨LX,0,none⟩),z4,z5,z6,z7,z8,z9,.slice ca N cap,.int .i64 N,.int .i64 (N:Int),z13,z14,z15,z16,z17,z18,z19,z20,z21,z22,z23,z24,z25,z26,z27,z28,z29,z30,z31],ms.map mkD⟩ W')) :
  Code.wp prog (Code.loop bkLoop) Q0 ⟨#[z0,z1,z2,.pointer (some ⟨LX,0,none⟩),z4,z5,z6,z7,z8,z9,.slice ca N cap,.int .i64 N,.int .i64 0,z13,z14,z15,z16,z17,z18,z19,z20,z21,z22,z23,z24,z25,z26,z27,z28,z29,z30,z31],[]⟩ W:=by
 refine wp_loop (IBk w LX NB N cap cb co ca code z0 z1 z2 z7 z8 z9 z31) (muBk N) ⟨0,[],z4,z5,z6,z13,z14,z15,z16,z17,z18,z19,z20,z21,z22,z23,z24,z25,z26,z27,z28,z29,z30,by omega,HL.out,rfl⟩ ?_;rintro a W2 ⟨i,ms,u4,u5,u6,u13,u14,u15,u16,u17,u18,u19,u20,u21,u22,u23,u24,u25,u26,u27,u28,u29,u30,hi,hL,rfl⟩
 by_cases hin:i<N
 ·exact bk_step w LX NB N cap cb co ca code z0 z1 z2 z7 z8 z9 z31 u4 u5 u6 u13 u14 u15 u16 u17 u18 u19 u20 u21 u22 u23 u24 u25 u26 u27 u28 u29 u30 i ms Q0 W2 hn HCL HCA HIN HSX HNE hL hin
 ·obtain rfl:i=N:=by omega
  exact bk_out w LX NB i cap cb co ca code z0 z1 z2 z7 z8 z9 z31 u4 u5 u6 u13 u14 u15 u16 u17 u18 u19 u20 u21 u22 u23 u24 u25 u26 u27 u28 u29 u30 ms Q0 W2 (HX.out ms u4 u5 u6 (.bool false) u14 u15 u16 u17 u18 u19 u20 u21 u22 u23 u24 u25 u26 u27 u28 u29 u30 W2 hL) _
def retG (N:Nat) (g:Nat→List Nat) (w:World):Ending→World→Prop:=fun e W=>∃ NB rv,e=.returned (.slice (some ⟨NB,0,none⟩) N N)∧NI w.heap.size NB N rv g W∧Below w.heap.size w W∧w.heap.size≤NB
theorem backward_walk (w:World) (N cap cb co:Nat) (ca:Option Addr) (code:List Ins) (hn:N≤100000) (HCL:Hid (code.length=N)) (HCA:Hid (0<N→ca=some ⟨cb,co,none⟩)) (HIN:Hid (∀ (i:Nat) x,code[i]? = some x→InsAt w cb (co+i*9) x)) (HSX:Hid (∀ x∈code,∀ y∈sxF x,0≤y∧y<N)) :
  Calls prog 30 #[.slice ca N cap] w (retG N (gOf (esT code N)) w):=by
 refine callsIn_wide.1 (callsIn_of_wp_marks (n:=3) func30 rfl trivial ?_);simp only[ntmps30,List.size_toArray,List.length_cons,List.length_nil,Nat.reduceAdd,Nat.reduceSub,Array.replicate_succ,Array.replicate_zero,List.push_toArray,List.append_toArray,List.nil_append,List.cons_append];refine wpIn_wide.2 ?_;have mk1:=mk_rows N (by omega)
 have hL0:LBk w (w.heap.size+1) w.heap.size N cap cb co ca code 0 [] ((w.alloc (.cells (madeCells #[.slice none 0 0] N) 22)).alloc (.cells #[.slice (some ⟨w.heap.size,0,none⟩) N N] 58)):=by
  refine⟨fun _=>.slice none 0 0,?_,bel_alloc (bel_alloc (Below.refl _ _) _) _,cell_new2 _ _ _ _ (World.size_alloc _ _),fun k _=>by simp[Value.ownBlock],List.nodup_nil,fun d hd=>by cases hd⟩;refine NI.ext (NI.start _ _ _ _ (fun i hi=>?_)) (fun i=>by simp[gOf,esT]);have:=made_at w (.slice none 0 0) N 22 i hi;exact⟨keep_alloc this.1 _,keep_frozen (bel_alloc (Below.refl _ _) _) this.1 this.2⟩
 have HL0:=hidF hL0;clear hL0;go_wp2;refine bk_loop w (w.heap.size+1) w.heap.size N cap cb co ca code _ _ _ _ _ _ _ _ _ _ _ _ _ _ _ _ _ _ _ _ _ _ _ _ _ _ _ _  _ _ hn HCL HCA HIN HSX ⟨by omega,Nat.le_refl _⟩ HL0 ?_;intro ms v4 v5 v6 v13 v14 v15 v16 v17 v18 v19 v20 v21 v22 v23 v24 v25 v26 v27 v28 v29 v30 W' hL;obtain⟨rv,hni,hbw,hlx,hfl,hms,hdf⟩:=hL;have HNI:=hidF hni;have HBW:=hidF hbw;have HMS:=hidF hms;have HDF:=hidF hdf;clear hni hbw hfl hms hdf;go_wp2;refine leaves_marks ms W' HMS.out (fun d hd=>(HDF.out d hd).1) ?_;intro W6 h1 h2 h3 h4 h5;have hfb:=HBW.out;refine⟨_,(by simp[results,results30,go_sem]),w.heap.size,rv,rfl,HNI.out.blk (fun k hk=>h1 k (fun hd=>?_)),⟨h2.trans hfb.os,h3.trans hfb.tape,h4.trans hfb.output,by rw[h5];exact hfb.size,fun k hk=>(h1 k (fun hd=>by have:=(HDF.out _ hd).2;omega)).trans (hfb.block k hk)⟩,Nat.le_refl _⟩;have q1:=(HDF.out k hd).1
 rcases hk with ⟨h0,rfl⟩|⟨j,hj,e⟩
 ·have hc:=(HNI.out.cell 0 h0).1
  simp[World.cell?,q1] at hc
 ·rcases (HNI.out.own j hj).2 with ⟨h1,_⟩|⟨g,cap,cur,h1,h2,h3,h4⟩
  ·rw[h1] at e;cases e
  ·rw[h1] at e
   have hg:g=k:=by simpa[Value.ownBlock] using e
   rw[hg,q1] at h3
   cases h3
end Go.Proofs.YtaimifnppackgaaGreatDoor
