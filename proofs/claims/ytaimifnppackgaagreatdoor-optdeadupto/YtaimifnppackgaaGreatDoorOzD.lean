import Derived.Test.YtaimifnppackgaaGreatDoorRRight2
import Derived.RangeFuncLeaves
import Derived.RangeFuncCalls
import Derived.RangeFuncBox
import Derived.Shelf.Abstract
import Derived.OwnWalkIn
import Derived.TacticsInMore
import Derived.LoopNIn
import Derived.LoopIn
namespace Go.Proofs.YtaimifnppackgaaGreatDoor
open Go.ChangeShapes Go.WideShapes Go.ChangeAt Go.RowKit Go.Proofs.Tryz
set_option linter.all false
set_option maxHeartbeats 4000000
theorem len_parts {w:World} {v:Value} {l:List Int} (h:IL w v l):∃ (a:Option Addr) (cap:Nat),v=.slice a l.length cap∧l.length*8≤140737488355328:=by
 obtain⟨a,cap,h1,h2,_⟩:=h;exact⟨a,cap,h1,h2⟩
structure Sp where
 name:ByteArray
 sub:Int
 a:Int
 b:Int
 d:Int
 k:Bool
 args:Bool
 s:Bool
 t:Bool
def spNone:Sp:=⟨⟨#[]⟩,0,0,0,0,false,false,false,false⟩
def spTab:List Sp:=[⟨⟨#[]⟩,0,0,0,0,false,false,false,false⟩,⟨⟨#[110,111,112]⟩,0,0,0,0,false,false,true,false⟩,⟨⟨#[99,111,110,115,116]⟩,0,0,0,1,true,false,true,false⟩,⟨⟨#[99,111,112,121]⟩,0,1,0,1,false,false,true,false⟩,⟨⟨#[117,110]⟩,1,1,0,1,false,false,true,false⟩,⟨⟨#[98,105,110]⟩,2,1,2,1,true,false,true,false⟩,⟨⟨#[108,111,97,100]⟩,4,1,0,1,true,false,true,false⟩,⟨⟨#[115,116,111,114,101]⟩,4,1,1,0,true,false,true,false⟩,⟨⟨#[103,108,111,98,97,108]⟩,5,0,0,1,true,false,true,false⟩,⟨⟨#[102,114,97,109,101]⟩,0,0,0,1,true,false,true,false⟩,⟨⟨#[99,97,108,108]⟩,6,0,0,2,false,true,true,false⟩,⟨⟨#[99,111,110,100]⟩,3,1,2,0,true,false,true,true⟩,⟨⟨#[114,101,116,117,114,110]⟩,0,2,0,0,false,false,false,false⟩,⟨⟨#[105,110]⟩,0,0,0,1,false,false,true,false⟩,⟨⟨#[111,117,116]⟩,0,1,0,0,false,false,true,false⟩]
def shOf (op:Int):Sp:=if op<0 then spNone else (spTab[op.toNat]?).getD spNone
def spV (x:Sp):Value:=.agg #[.string x.name,.int .i64 x.sub,.int .i64 x.a,.int .i64 x.b,.int .i64 x.d,.bool x.k,.bool x.args,.bool x.s,.bool x.t]
def ShTab (w:World):Prop:=∀ n:Nat,n<15→w.cell? ⟨0,n*9,none⟩=some (.string (shOf n).name)∧w.cell? ⟨0,n*9+1,none⟩=some (.int .i64 (shOf n).sub)∧w.cell? ⟨0,n*9+2,none⟩=some (.int .i64 (shOf n).a)∧w.cell? ⟨0,n*9+3,none⟩=some (.int .i64 (shOf n).b)∧w.cell? ⟨0,n*9+4,none⟩=some (.int .i64 (shOf n).d)∧w.cell? ⟨0,n*9+5,none⟩=some (.bool (shOf n).k)∧w.cell? ⟨0,n*9+6,none⟩=some (.bool (shOf n).args)∧w.cell? ⟨0,n*9+7,none⟩=some (.bool (shOf n).s)∧w.cell? ⟨0,n*9+8,none⟩=some (.bool (shOf n).t)
theorem ShTab.keep {w w':World} (h:ShTab w) (hb:Below w.heap.size w w'):ShTab w':=fun n hn=>by
 obtain⟨h0,h1,h2,h3,h4,h5,h6,h7,h8⟩:=h n hn;exact⟨keep_cell hb h0,keep_cell hb h1,keep_cell hb h2,keep_cell hb h3,keep_cell hb h4,keep_cell hb h5,keep_cell hb h6,keep_cell hb h7,keep_cell hb h8⟩
theorem wrap_i64 (x:Int):IntKind.i64.wrap x=wrap64 x:=by rw[IntKind.wrap_i64];unfold wrap64;omega
def withinB (n m:Int):Bool:=decide (0≤n)&&decide (n≤m)
theorem within_any (n m:Int) (w:World):Calls prog 55 #[.int .i64 n,.int .i64 m] w fun e w'=>e=.returned (.bool (withinB n m))∧w'=w:=by
 by_cases h:0≤n
 ·go_enter func55,ntmps55
  go_wp2;go_ret;exact⟨by simp[withinB,h],rfl⟩
 ·have q:decide (0≤n)=false:=by simpa using h
  go_enter func55,ntmps55
  go_wp2;go_ret;exact⟨by simp only[withinB,q];rfl,rfl⟩
theorem within64_any (n m:Int) (w:World):Calls prog 86 #[.int .i64 n,.int .i64 m] w fun e w'=>e=.returned (.bool (withinB n m))∧w'=w:=by
 by_cases h:0≤n
 ·go_enter func86,ntmps86
  go_wp2;go_ret;exact⟨by simp[withinB,h],rfl⟩
 ·have q:decide (0≤n)=false:=by simpa using h
  go_enter func86,ntmps86
  go_wp2;go_ret;exact⟨by simp only[withinB,q];rfl,rfl⟩
theorem withinB_in {r m:Int}:withinB r (m - 1)=inB m r:=by
 unfold withinB inB;rw[Bool.eq_iff_iff];simp
 omega
theorem hasRegister_any (b o:Nat) (regs r:Int) (w:World) (c2:w.cell? ⟨b,o+2,none⟩=some (.int .i64 regs)) (h0 : -9223372036854775808<regs) (h1:regs≤9223372036854775807) :
  Calls prog 102 #[.pointer (some ⟨b,o,none⟩),.int .i64 r] w fun e w'=>e=.returned (.bool (inB regs r))∧w'=w:=by
 have hw:IntKind.i64.wrap (regs - 1)=regs - 1:=by rw[wrap_i64];unfold wrap64;omega
 have hw2:wrap64 (regs - 1)=regs - 1:=by unfold wrap64;omega
 go_enter func102,ntmps102
 go_wp2_with (go_at_call 55;refine(within_any _ _ _).mono ?_;rintro e w1 ⟨rfl,rfl⟩)
 go_ret;exact⟨by simp[hw2,withinB_in],rfl⟩
theorem hasNode_any (b o n cap:Nat) (ca:Option Addr) (r:Int) (w:World) (c5:w.cell? ⟨b,o+5,none⟩=some (.slice ca n cap)) (h1:(n:Int)≤9223372036854775807) :
  Calls prog 75 #[.pointer (some ⟨b,o,none⟩),.int .i64 r] w fun e w'=>e=.returned (.bool (inB n r))∧w'=w:=by
 have hw:IntKind.i64.wrap ((n:Int) - 1)=n - 1:=by rw[wrap_i64];unfold wrap64;omega
 have hw2:wrap64 ((n:Int) - 1)=n - 1:=by unfold wrap64;omega
 go_enter func75,ntmps75
 go_wp2_with (go_at_call 55;refine(within_any _ _ _).mono ?_;rintro e w1 ⟨rfl,rfl⟩)
 go_ret;exact⟨by simp[hw2,withinB_in],rfl⟩
def readB (p r:Int):Bool:=p != 0&&r != -1
def lackB (p r:Int):Bool:=p==1&&r == -1
theorem isRegister_any (p r:Int) (w:World):Calls prog 81 #[.int .i64 p,.int .i64 r] w fun e w'=>e=.returned (.bool (readB p r))∧w'=w:=by
 cases h:(p != 0)
 ·go_enter func81,ntmps81
  go_wp2;go_ret;exact⟨by simp only[readB,h];rfl,rfl⟩
 ·go_enter func81,ntmps81
  go_wp2;go_ret;exact⟨by simp only[readB,h];rfl,rfl⟩
theorem lacks_any (p r:Int) (w:World):Calls prog 124 #[.int .i64 p,.int .i64 r] w fun e w'=>e=.returned (.bool (lackB p r))∧w'=w:=by
 cases h:(p==1)
 ·go_enter func124,ntmps124
  go_wp2;go_ret;exact⟨by simp only[lackB,h];rfl,rfl⟩
 ·go_enter func124,ntmps124
  go_wp2;go_ret;exact⟨by simp only[lackB,h];rfl,rfl⟩
def targetB (p d regs:Int):Bool:=p==0||(p==2&&d == -1)||inB regs d
theorem hasTarget_any (b o:Nat) (regs p d:Int) (w:World) (c2:w.cell? ⟨b,o+2,none⟩=some (.int .i64 regs)) (h0 : -9223372036854775808<regs) (h1:regs≤9223372036854775807) :
  Calls prog 104 #[.pointer (some ⟨b,o,none⟩),.int .i64 p,.int .i64 d] w fun e w'=>e=.returned (.bool (targetB p d regs))∧w'=w:=by
 have HX:Hid (Calls prog 102 #[.pointer (some ⟨b,o,none⟩),.int .i64 d] w fun e w'=>e=.returned (.bool (inB regs d))∧w'=w):=hasRegister_any b o regs d w c2 h0 h1;clear h0 h1
 cases q0:(p==0)
 ·cases q2:(p==2)
  ·go_enter func104,ntmps104
   go_wp2_with (go_at_call 102;refine HX.out.mono ?_;rintro e w1 ⟨rfl,hw⟩;replace hw:=hw.symm;subst hw)
   go_ret;exact⟨by simp only[targetB,q0,q2];rfl,rfl⟩
  ·cases qd:(d == -1)
   ·go_enter func104,ntmps104
    go_wp2_with (go_at_call 102;refine HX.out.mono ?_;rintro e w1 ⟨rfl,hw⟩;replace hw:=hw.symm;subst hw)
    go_ret;exact⟨by simp only[targetB,q0,q2,qd];rfl,rfl⟩
   ·go_enter func104,ntmps104
    go_wp2;go_ret;exact⟨by simp only[targetB,q0,q2,qd];rfl,rfl⟩
 ·go_enter func104,ntmps104
  go_wp2;go_ret;exact⟨by simp only[targetB,q0];rfl,rfl⟩
def mayB (s n:Int):Bool :=
 if s=1 then decide (1≤n)&&decide (n≤4) else if s=2 then decide (11≤n)&&decide (n≤26) else if s=3 then decide (21≤n)&&decide (n≤26) else if s=4 then n==1||n==4||n==8 else true
theorem mayBe_any (s n:Int) (w:World):Calls prog 105 #[.int .i64 s,.int .i64 n] w fun e w'=>e=.returned (.bool (mayB s n))∧w'=w:=by
 by_cases s1:s=1
 ·subst s1
  by_cases h:1≤n
  ·have q:decide (1≤n)=true:=by simpa using h
   go_enter func105,ntmps105
   go_wp2;go_ret;exact⟨by simp[mayB,h],rfl⟩
  ·have q:decide (1≤n)=false:=by simpa using h
   go_enter func105,ntmps105
   go_wp2;go_ret;exact⟨by simp only[mayB,q];rfl,rfl⟩
 have e1:(s==1)=false:=by simpa using s1
 by_cases s2:s=2
 ·subst s2
  by_cases h:11≤n
  ·have q:decide (11≤n)=true:=by simpa using h
   go_enter func105,ntmps105
   go_wp2;go_ret;exact⟨by simp[mayB,h],rfl⟩
  ·have q:decide (11≤n)=false:=by simpa using h
   go_enter func105,ntmps105
   go_wp2;go_ret;exact⟨by simp only[mayB,q];rfl,rfl⟩
 have e2:(s==2)=false:=by simpa using s2
 by_cases s3:s=3
 ·subst s3
  by_cases h:21≤n
  ·have q:decide (21≤n)=true:=by simpa using h
   go_enter func105,ntmps105
   go_wp2;go_ret;exact⟨by simp[mayB,h],rfl⟩
  ·have q:decide (21≤n)=false:=by simpa using h
   go_enter func105,ntmps105
   go_wp2;go_ret;exact⟨by simp only[mayB,q];rfl,rfl⟩
 have e3:(s==3)=false:=by simpa using s3
 by_cases s4:s=4
 ·subst s4
  cases q1:(n==1)
  ·cases q4:(n==4)
   ·go_enter func105,ntmps105
    go_wp2;go_ret;exact⟨by simp only[mayB,q1,q4];rfl,rfl⟩
   ·go_enter func105,ntmps105
    go_wp2;go_ret;exact⟨by simp only[mayB,q1,q4];rfl,rfl⟩
  ·go_enter func105,ntmps105
   go_wp2;go_ret;exact⟨by simp only[mayB,q1];rfl,rfl⟩
 have e4:(s==4)=false:=by simpa using s4
 have hm:mayB s n=true:=by unfold mayB;rw[if_neg s1,if_neg s2,if_neg s3,if_neg s4]
 rw[hm];clear hm s1 s2 s3 s4
 go_enter func105,ntmps105
 go_wp2;go_ret;exact⟨rfl,rfl⟩
theorem end_Sp {P:Program} {fn:Func} {a:Act} {w w':World} {x:Sp} (hr:(results fn a.tmps).run P w'=.ok (.agg #[.string x.name,.int .i64 x.sub,.int .i64 x.a,.int .i64 x.b,.int .i64 x.d,.bool x.k,.bool x.args,.bool x.s,.bool x.t]) w') (hd:a.defers=[]) (hb:Below w.heap.size w w') :
  bodyPost P fn (retP (spV x) w) .ret a w':=bodyPost_ret hr hd ⟨rfl,hb⟩
theorem shOf_none {op:Int} (h:op<0∨15≤op):shOf op=spNone:=by
 unfold shOf
 split
 ·rfl
 ·rw[List.getElem?_eq_none (by simp[spTab];omega)];rfl
theorem shapeOf_any (op:Int) (w:World) (ht:ShTab w):Calls prog 79 #[.int .i64 op] w (retP (spV (shOf op)) w):=by
 by_cases h0:op<0
 ·rw[shOf_none (.inl h0)]
  have q:decide (op<0)=true:=by simpa using h0
  clear ht
  go_enter func79,ntmps79
  go_wp2;exact end_Sp (by simp[results,results79,go_sem,spNone]) rfl (by repeat(first|(with_reducible first|exact Below.refl _ _|refine bel_alloc ?_ _|refine bel_set ?_ (by first|exact Nat.le_refl _|(simp;done)|(simp;omega)) _|refine Below.drew ?_)|refine bel_trans ?_ (by assumption)))
 have q:decide (op<0)=false:=by simpa using h0
 by_cases h1:15≤op
 ·rw[shOf_none (.inr h1)]
  have q1:decide (15≤op)=true:=by simpa using h1
  clear ht
  go_enter func79,ntmps79
  go_wp2;exact end_Sp (by simp[results,results79,go_sem,spNone]) rfl (by repeat(first|(with_reducible first|exact Below.refl _ _|refine bel_alloc ?_ _|refine bel_set ?_ (by first|exact Nat.le_refl _|(simp;done)|(simp;omega)) _|refine Below.drew ?_)|refine bel_trans ?_ (by assumption)))
 have q1:decide (15≤op)=false:=by simpa using h1
 obtain⟨n,rfl⟩:∃ n:Nat,op=n:=⟨op.toNat,by omega⟩;obtain⟨c0,c1,c2,c3,c4,c5,c6,c7,c8⟩:=ht n (by omega);have j0:(0:Int)≤n:=by omega
 have j1:(n:Int)<15:=by omega
 have gl:0<w.heap.size:=block_lt_of_cell c0;clear ht h0 h1
 generalize shOf (n:Int)=x at *
 go_enter func79,ntmps79
 go_wp2;exact end_Sp (by simp[results,results79,go_sem]) rfl (by repeat(first|(with_reducible first|exact Below.refl _ _|refine bel_alloc ?_ _|refine bel_set ?_ (by first|exact Nat.le_refl _|(simp;done)|(simp;omega)) _|refine Below.drew ?_)|refine bel_trans ?_ (by assumption)))
def sizesB (regs frame n:Int):Bool:=decide (n≤5000)&&withinB regs 5000&&withinB frame 65536
theorem hasSizes_any (b o n cap:Nat) (ca:Option Addr) (regs frame:Int) (w:World) (c2:w.cell? ⟨b,o+2,none⟩=some (.int .i64 regs)) (c3:w.cell? ⟨b,o+3,none⟩=some (.int .i64 frame)) (c5:w.cell? ⟨b,o+5,none⟩=some (.slice ca n cap)) :
  Calls prog 74 #[.pointer (some ⟨b,o,none⟩)] w fun e w'=>e=.returned (.bool (sizesB regs frame n))∧w'=w:=by
 by_cases h:(n:Int)≤5000
 ·have q:decide ((n:Int)≤5000)=true:=by simpa using h
  have qn:decide (n≤5000)=true:=by simp;omega
  have HA:Hid (Calls prog 55 #[.int .i64 regs,.int .i64 5000] w fun e w'=>e=.returned (.bool (withinB regs 5000))∧w'=w):=within_any _ _ _
  cases hq:withinB regs 5000
  ·rw[hq] at HA
   go_enter func74,ntmps74
   go_wp2_with (go_at_call 55;refine HA.out.mono ?_;rintro e w1 ⟨rfl,hw⟩;replace hw:=hw.symm;subst hw)
   go_ret;exact⟨by simp only[sizesB,q,hq];rfl,rfl⟩
  ·rw[hq] at HA
   go_enter func74,ntmps74
   go_wp2_with (first|(go_at_call 55;with_reducible refine HA.out.mono ?_;rintro e w1 ⟨rfl,hw⟩;replace hw:=hw.symm;subst hw)|(go_at_call 55;refine(within_any _ _ _).mono ?_;rintro e w1 ⟨rfl,rfl⟩))
   go_ret;exact⟨by simp only[sizesB,q,hq];rfl,rfl⟩
 ·have q:decide ((n:Int)≤5000)=false:=by simpa using h
  have qn:decide (n≤5000)=false:=by simp;omega
  go_enter func74,ntmps74
  go_wp2;go_ret;exact⟨by simp only[sizesB,q];rfl,rfl⟩
set_option maxRecDepth 100000
def retIF (l:List Int) (w:World):Ending→World→Prop:=fun e w'=>∃ v,e=.returned v∧IL w' v l∧(∀ b o s n c,v=.slice (some ⟨b,o,s⟩) n c→w.heap.size≤b)∧Below w.heap.size w w'
theorem IL.set {w:World} {v u:Value} {l:List Int} {p:Addr} (h:IL w v l) (hb:∀ b o s n c,v=.slice (some ⟨b,o,s⟩) n c→b≠p.block):IL (w.setCell p u) v l:=by
 obtain⟨a,cap,hv,h1,h0,h2⟩:=h;refine⟨a,cap,hv,h1,h0,fun hl=>?_⟩;obtain⟨b,off,rfl,hc⟩:=h2 hl;exact⟨b,off,rfl,fun i x hx=>keep_set (hc i x hx) (hb b off none _ _ hv)⟩
theorem gclone_nil (w:World):Calls prog 23 #[.slice none 0 0] w (retIF [] w):=by
 have hq:∀ w,(binOp .eql 22 (.slice none 0 0) (.slice none 0 0)).run prog w=.ok (.bool true) w:=fun w=>Lib.run_eql_slice_nil w 22 3 none 0 0 0 0 underlying22
 go_enter func23,ntmps23
 go_wp2;go_ret;exact⟨_,rfl,IL.nil _,(fun b o s n c h=>by cases h),Below.refl _ _⟩
theorem gclone_some (ad:Addr) (n cap:Nat) (l:List Int) (w:World) (HN:Hid (l.length=n)) (hn:n*8≤140737488355328) (HC:Hid (∀ i x,l[i]? = some x→w.cell? (ad.add i)=some (.int .i64 x))) :
  Calls prog 23 #[.slice (some ad) n cap] w (retIF l w):=by
 have hq:∀ w,(binOp .eql 22 (.slice (some ad) n cap) (.slice none 0 0)).run prog w=.ok (.bool false) w:=fun w=>Lib.run_eql_slice_nil w 22 3 (some ad) n cap 0 0 underlying22;obtain⟨i0,hi,hz0,hz1,hz2⟩:∃ i0,prog.info? 3=some i0∧i0.zero=some (.int .i64 0)∧i0.size=1∧i0.bytes=8:=info_parts (by kernel_rfl)
 go_enter func23,ntmps23
 go_wp2_with (at_builtin;refine wpList_append_own _ rfl _ _ 22 rfl w.heap.size 3 i0 (.int .i64 0) 1 8 underlying22 hi hz0 hz1 hz2 rfl (by decide) _ 0 [] rfl (World.ownsRow_made w #[] 0 (Nat.le_refl _) (by simp) rfl) ad n cap (ints l) rfl (by rw[ints_length,Nat.mul_one];exact HN.out) ?c1 ?c2 ?c3 ?c4 ?c5 ?_)
 case c1 =>
  intro j u hj;simp only[ints,List.getElem?_map,Option.map_eq_some_iff] at hj;obtain⟨x,hx,rfl⟩:=hj;exact keep_alloc (HC.out j x hx) _
 case c2=>intro u hu;simp only[ints,List.mem_map] at hu;obtain⟨x,_,rfl⟩:=hu;rfl
 case c3=>unfold maxLen;omega
 case c4=>omega
 case c5=>simp
 intro v' w2 hown' hgrow _
 have HO:Hid (w2.ownsRow w.heap.size 3 1 v' l.length (ints l)):=by
  show World.ownsRow _ _ _ _ _ _ _
  rw[HN.out];simpa using hown'
 have HB2:Hid (Below w.heap.size w w2):=by
  show Below _ _ _
  exact((Below.refl w.heap.size w).alloc (Nat.le_refl _) _).grown hgrow (by simp) (fun k hk=>by simp[Value.ownBlock] at hk;omega)
 clear hown' hgrow;go_wp2;go_ret;refine⟨_,rfl,IL.own HO.out (by rw[HN.out];exact hn),(fun b o s n c h=>?_),HB2.out⟩
 rcases HO.out.2 with ⟨e,_⟩|⟨g,cp,cur,e,hg,_⟩
 ·have h':v'=_:=h
  rw[h'] at e;cases e
 ·have h':v'=_:=h
  rw[h'] at e;cases e;exact hg
theorem gclone_any {w:World} {v:Value} {l:List Int} (h:IL w v l):Calls prog 23 #[v] w (retIF l w):=by
 obtain⟨a,cap,rfl,h1,h0,h2⟩:=h
 cases a with
 |none =>
  obtain⟨rfl,rfl⟩:=h0 rfl;exact gclone_nil w
 |some ad =>
  refine gclone_some ad l.length cap l w rfl h1 (fun i x hx=>?_);obtain⟨b,off,e,hc⟩:=h2 (fun e=>by rw[e] at hx;simp at hx)
  cases e
  rw[show (⟨b,off,none⟩:Addr).add i=⟨b,off+i,none⟩ from Addr.add_mid _ _ _];exact hc i x hx
def UsBox (W:World) (sb ib:Nat) (x:Sp) (a b:Int) (v:Value) (l:List Int):Prop:=W.cell? ⟨sb,2,none⟩=some (.int .i64 x.a)∧W.cell? ⟨sb,3,none⟩=some (.int .i64 x.b)∧W.cell? ⟨ib,2,none⟩=some (.int .i64 a)∧W.cell? ⟨ib,3,none⟩=some (.int .i64 b)∧W.cell? ⟨ib,6,none⟩=some v∧IL W v l
theorem UsBox.keep {w w':World} {sb ib:Nat} {x:Sp} {a b:Int} {v:Value} {l:List Int} (h:UsBox w sb ib x a b v l) (hb:Below w.heap.size w w'):UsBox w' sb ib x a b v l:=by
 obtain⟨h0,h1,h2,h3,h4,h5⟩:=h;exact⟨keep_cell hb h0,keep_cell hb h1,keep_cell hb h2,keep_cell hb h3,keep_cell hb h4,h5.keep hb⟩
def usP (x:Sp) (a b:Int) (l:List Int):List Int:=(if readB x.a a=true then [a] else [])++((if readB x.b b=true then [b] else [])++l.filter (· != -1))
def retUs (x:Sp) (a b:Int) (l:List Int) (w:World):Ending→World→Prop:=fun e w'=>∃ sb ib v,e=.returned (.func (.func 80) #[] #[.pointer (some ⟨sb,0,none⟩),.pointer (some ⟨ib,0,none⟩)])∧UsBox w' sb ib x a b v l∧Below w.heap.size w w'
theorem uses_made (op sub a b d k:Int) (va:Option Addr) (vn vc:Nat) (s t:Int) (l:List Int) (x:Sp) (w:World) (HX:Hid (shOf op=x)) (HT:Hid (ShTab w)) (HV:Hid (IL w (.slice va vn vc) l)) :
  Calls prog 50 #[.agg #[.int .i64 op,.int .i64 sub,.int .i64 a,.int .i64 b,.int .i64 d,.int .i64 k,.slice va vn vc,.int .i64 s,.int .i64 t]] w (retUs x a b (if x.args=true then l else []) w):=by
 have hmf:∀ (fn:Go.Fn) (first cap:Array Value) (w:World),(Instr.makeFunc fn first cap).run prog w=.ok (.func fn first cap) w:=fun _ _ _ _=>rfl;obtain⟨xn,xs,xa,xb,xd,xk,xg,xs1,xt⟩:=x
 go_enter func50,ntmps50
 cases xg with
 |true =>
  go_wp2_with (go_at_call 79;refine(shapeOf_any _ _ (HT.out.keep (bel_alloc (Below.refl _ _) _))).mono ?_;rintro e w1 ⟨rfl,hb1⟩;rw[HX.out];simp only[spV];have i2:=keep_cell hb1 (p:=⟨w.heap.size,2,none⟩) (v:=.int .i64 a) (by simp);have i3:=keep_cell hb1 (p:=⟨w.heap.size,3,none⟩) (v:=.int .i64 b) (by simp);have i6:=keep_cell hb1 (p:=⟨w.heap.size,6,none⟩) (v:=.slice va vn vc) (by simp);have z6:=keep_frozen hb1 (p:=⟨w.heap.size,6,none⟩) (v:=.slice va vn vc) (by simp) (by simp);have hs1:w.heap.size<w1.heap.size:=(by have:=hb1.size;simp at this;omega))
  refine(gclone_any (HV.out.keep (by repeat(first|(with_reducible first|exact Below.refl _ _|refine bel_alloc ?_ _|refine bel_set ?_ (by first|exact Nat.le_refl _|(simp;done)|(simp;omega)) _|refine Below.drew ?_)|refine bel_trans ?_ (by assumption))))).mono ?_;rintro e w2 ⟨v2,rfl,hil,hfr,hb2⟩;have j2:=keep_cell hb2 (p:=⟨w.heap.size,2,none⟩) (keep_alloc i2 _);have j3:=keep_cell hb2 (p:=⟨w.heap.size,3,none⟩) (keep_alloc i3 _);have j6:=keep_cell hb2 (p:=⟨w.heap.size,6,none⟩) (keep_alloc i6 _);have y6:=keep_frozen hb2 (keep_alloc i6 _) (keep_frozen (bel_alloc (Below.refl _ _) _) i6 z6);have s2:=keep_cell hb2 (p:=⟨w1.heap.size,2,none⟩) (v:=.int .i64 xa) (by simp);have s3:=keep_cell hb2 (p:=⟨w1.heap.size,3,none⟩) (v:=.int .i64 xb) (by simp);have s6:=keep_cell hb2 (p:=⟨w1.heap.size,6,none⟩) (v:=.bool true) (by simp);obtain⟨a2,c2,rfl,hlen2⟩:=len_parts hil;have HIL:=hid hil;have HFR:=hid hfr;have hs2:w1.heap.size<w2.heap.size:=(by have:=hb2.size;simp at this;omega);have HBB:Hid (Below w.heap.size w w2):=hid (by repeat(first|(with_reducible first|exact Below.refl _ _|refine bel_alloc ?_ _|refine bel_set ?_ (by first|exact Nat.le_refl _|(simp;done)|(simp;omega)) _|refine Below.drew ?_)|refine bel_trans ?_ (by assumption)));clear hil hfr hb2 i2 i3 i6 z6;go_wp2;go_ret;refine⟨_,_,.slice a2 l.length c2,rfl,⟨by go_simp,by go_simp,by go_simp,by go_simp,by go_simp,?_⟩,HBB.out.setCell (by simp) _⟩;exact HIL.out.set (fun b o s n c h=>by have:=HFR.out b o s n c h;simp at this ⊢;omega)
 |false =>
  go_wp2_with (go_at_call 79;refine(shapeOf_any _ _ (HT.out.keep (bel_alloc (Below.refl _ _) _))).mono ?_;rintro e w1 ⟨rfl,hb1⟩;rw[HX.out];simp only[spV];have i2:=keep_cell hb1 (p:=⟨w.heap.size,2,none⟩) (v:=.int .i64 a) (by simp);have i3:=keep_cell hb1 (p:=⟨w.heap.size,3,none⟩) (v:=.int .i64 b) (by simp);have i6:=keep_cell hb1 (p:=⟨w.heap.size,6,none⟩) (v:=.slice va vn vc) (by simp);have z6:=keep_frozen hb1 (p:=⟨w.heap.size,6,none⟩) (v:=.slice va vn vc) (by simp) (by simp);have hs1:w.heap.size<w1.heap.size:=(by have:=hb1.size;simp at this;omega))
  refine(gclone_any (HV.out.keep (by repeat(first|(with_reducible first|exact Below.refl _ _|refine bel_alloc ?_ _|refine bel_set ?_ (by first|exact Nat.le_refl _|(simp;done)|(simp;omega)) _|refine Below.drew ?_)|refine bel_trans ?_ (by assumption))))).mono ?_;rintro e w2 ⟨v2,rfl,hil,hfr,hb2⟩;have j2:=keep_cell hb2 (p:=⟨w.heap.size,2,none⟩) (keep_alloc i2 _);have j3:=keep_cell hb2 (p:=⟨w.heap.size,3,none⟩) (keep_alloc i3 _);have j6:=keep_cell hb2 (p:=⟨w.heap.size,6,none⟩) (keep_alloc i6 _);have y6:=keep_frozen hb2 (keep_alloc i6 _) (keep_frozen (bel_alloc (Below.refl _ _) _) i6 z6);have s2:=keep_cell hb2 (p:=⟨w1.heap.size,2,none⟩) (v:=.int .i64 xa) (by simp);have s3:=keep_cell hb2 (p:=⟨w1.heap.size,3,none⟩) (v:=.int .i64 xb) (by simp);have s6:=keep_cell hb2 (p:=⟨w1.heap.size,6,none⟩) (v:=.bool false) (by simp);obtain⟨a2,c2,rfl,hlen2⟩:=len_parts hil;have HIL:=hid hil;have HFR:=hid hfr;have hs2:w1.heap.size<w2.heap.size:=(by have:=hb2.size;simp at this;omega);have HBB:Hid (Below w.heap.size w w2):=hid (by repeat(first|(with_reducible first|exact Below.refl _ _|refine bel_alloc ?_ _|refine bel_set ?_ (by first|exact Nat.le_refl _|(simp;done)|(simp;omega)) _|refine Below.drew ?_)|refine bel_trans ?_ (by assumption)));clear hil hfr hb2 i2 i3 i6 z6;go_wp2;go_ret;refine⟨_,_,.slice none 0 0,rfl,⟨by go_simp,by go_simp,by go_simp,by go_simp,by go_simp,?_⟩,(HBB.out.setCell (by simp) _).setCell (by simp) _⟩;exact IL.nil _
def SuBox (W:World) (ib:Nat) (op s t:Int):Prop:=W.cell? ⟨ib,0,none⟩=some (.int .i64 op)∧W.cell? ⟨ib,7,none⟩=some (.int .i64 s)∧W.cell? ⟨ib,8,none⟩=some (.int .i64 t)
theorem SuBox.keep {w w':World} {ib:Nat} {op s t:Int} (h:SuBox w ib op s t) (hb:Below w.heap.size w w'):SuBox w' ib op s t:=⟨keep_cell hb h.1,keep_cell hb h.2.1,keep_cell hb h.2.2⟩
def retSu (op s t:Int) (w:World):Ending→World→Prop:=fun e w'=>∃ ib,e=.returned (.func (.func 78) #[] #[.pointer (some ⟨ib,0,none⟩)])∧SuBox w' ib op s t∧Below w.heap.size w w'
theorem succs_made (op sub a b d k:Int) (va:Option Addr) (vn vc:Nat) (s t:Int) (w:World):Calls prog 49 #[.agg #[.int .i64 op,.int .i64 sub,.int .i64 a,.int .i64 b,.int .i64 d,.int .i64 k,.slice va vn vc,.int .i64 s,.int .i64 t]] w (retSu op s t w):=by
 have hmf:∀ (fn:Go.Fn) (first cap:Array Value) (w:World),(Instr.makeFunc fn first cap).run prog w=.ok (.func fn first cap) w:=fun _ _ _ _=>rfl
 go_enter func49,ntmps49
 go_wp2;go_ret;exact⟨_,rfl,⟨by simp,by simp,by simp⟩,(by repeat(first|(with_reducible first|exact Below.refl _ _|refine bel_alloc ?_ _|refine bel_set ?_ (by first|exact Nat.le_refl _|(simp;done)|(simp;omega)) _|refine Below.drew ?_)|refine bel_trans ?_ (by assumption)))⟩
set_option maxHeartbeats 8000000
theorem field4 (nm:ByteArray) (ks xa xb xd:Int) (xk xg xs xt:Bool) (w:World):(Instr.field 128 (.agg #[.string nm,.int .i64 ks,.int .i64 xa,.int .i64 xb,.int .i64 xd,.bool xk,.bool xg,.bool xs,.bool xt]) 4).run prog w=.ok (.int .i64 xd) w:=by kernel_rfl
theorem end_2 {P:Program} {fn:Func} {a:Act} {w w':World} {v:Value} (hr:(results fn a.tmps).run P w'=.ok v w') (hd:a.defers=[]) (hb:Below w.heap.size w w'):bodyPost P fn (retP v w) .ret a w':=bodyPost_ret hr hd ⟨rfl,hb⟩
theorem bdrew {B:Nat} {a w:World} (h:Below B a w):Below B a w.drew:=⟨h.os,h.tape,h.output,h.size,h.block⟩
theorem target_walk (op sub a b d k:Int) (va:Option Addr) (vn vc:Nat) (s t:Int) (x:Sp) (w:World) (HX:Hid (shOf op=x)) (HT:Hid (ShTab w)) :
  Calls prog 51 #[.agg #[.int .i64 op,.int .i64 sub,.int .i64 a,.int .i64 b,.int .i64 d,.int .i64 k,.slice va vn vc,.int .i64 s,.int .i64 t]] w (retP (if readB x.d d=true then .tuple #[.int .i64 d,.bool true] else .tuple #[.int .i64 0,.bool false]) w):=by
 have HR:Hid (∀ W,Calls prog 81 #[.int .i64 x.d,.int .i64 d] W fun e w'=>e=.returned (.bool (readB x.d d))∧w'=W):=fun W=>isRegister_any x.d d W;have hf4:=field4 x.name x.sub x.a x.b x.d x.k x.args x.s x.t
 cases hq:readB x.d d
 ·rw[hq] at HR
  go_enter func51,ntmps51
  go_upto_region 1 with fail
  refine wp_region_held_drew (S:=(fun w'=>w'.cell? ⟨w.heap.size,0,none⟩=some (.int .i64 op)∧w'.cell? ⟨w.heap.size,4,none⟩=some (.int .i64 d)∧Hid (Below w.heap.size w w')∧Hid (ShTab w'))) (by kernel_rfl) (⟨by simp,by simp,hidF (bdrew (bel_alloc (Below.refl _ _) _)),hidF (HT.out.keep (bdrew (bel_alloc (Below.refl _ _) _)))⟩) (fun hH=>?_);refine wpAnyH_take (i:=0) (oi:=?oib0) (v:=?vvb0) ?hib0 (by kernel_rfl) (by kernel_rfl) (by kernel_rfl) ?hqb0 ?hyb0 hH ?_
  case hib0=>simp only[zga,zgs,zgz];rfl
  case hqb0=>exact fun _ _ _ h=>h
  case hyb0=>refine .inl ⟨by rfl,?_⟩;intro w' hSw;(try dsimp only at hSw);go_simp;try with_reducible rfl
  simp only[Act.put,zsa,zsz,zss];refine wpAnyH_take (i:=1) (oi:=?oib1) (v:=?vvb1) ?hib1 (by kernel_rfl) (by kernel_rfl) (by kernel_rfl) ?hqb1 ?hyb1 hH ?_
  case hib1=>simp only[zga,zgs,zgz];rfl
  case hqb1=>exact fun _ _ _ h=>h
  case hyb1=>refine .inl ⟨by rfl,?_⟩;intro w' hSw;(try dsimp only at hSw);go_simp;try with_reducible rfl
  simp only[Act.put,zsa,zsz,zss];refine wpAnyH_take (i:=4) (oi:=?oib4) (v:=?vvb4) ?hib4 (by kernel_rfl) (by kernel_rfl) (by kernel_rfl) ?hqb4 ?hyb4 hH ?_
  case hib4=>simp only[zga,zgs,zgz];rfl
  case hqb4=>exact fun _ _ _ h=>h
  case hyb4=>refine .inl ⟨by rfl,?_⟩;intro w' hSw;(try dsimp only at hSw);go_simp;try with_reducible rfl
  simp only[Act.put,zsa,zsz,zss];refine wpAnyH_take (i:=5) (oi:=?oib5) (v:=?vvb5) ?hib5 (by kernel_rfl) (by kernel_rfl) (by kernel_rfl) ?hqb5 ?hyb5 hH ?_
  case hib5=>simp only[zga,zgs,zgz];rfl
  case hqb5=>exact fun _ _ _ h=>h
  case hyb5=>refine .inl ⟨by rfl,?_⟩;intro w' hSw;(try dsimp only at hSw);go_simp;try with_reducible rfl
  simp only[Act.put,zsa,zsz,zss];refine wpAnyH_ready (rs:=[2]) (by kernel_rfl) (by simp) ?_;refine AllReadyH.cons (o:=?oib2) ?hib2 (fun K hK=>?_) AllReadyH.nil
  case hib2=>simp only[zga,zgs,zgz];rfl
  go_simp;refine(shapeOf_any op _ hH.2.2.2.out).mono ?_;rintro e v2 ⟨rfl,hb1⟩;rw[HX.out];simp only[spV];go_wp2_with fail
  refine hK.out _ _ (⟨keep_cell hb1 hH.1,keep_cell hb1 hH.2.1,hidF (bel_trans hH.2.2.1.out hb1),hidF (hH.2.2.2.out.keep hb1)⟩) (fun hN=>?_);clear hK K hH;have hH:=hN;clear hN
  try simp only[Act.put,zsa,zsz,zss]
  refine wpAnyH_take (i:=3) (oi:=?oib3) (v:=?vvb3) ?hib3 (by kernel_rfl) (by kernel_rfl) (by kernel_rfl) ?hqb3 ?hyb3 hH ?_
  case hib3=>simp only[zga,zgs,zgz];rfl
  case hqb3=>exact fun _ _ _ h=>h
  case hyb3=>refine .inl ⟨by rfl,?_⟩;intro w' hSw;(try dsimp only at hSw);go_simp;try with_reducible rfl
  simp only[Act.put,zsa,zsz,zss];refine wpAnyH_ready (rs:=[6]) (by kernel_rfl) (by simp) ?_;refine AllReadyH.cons (o:=?oib6) ?hib6 (fun K hK=>?_) AllReadyH.nil
  case hib6=>simp only[zga,zgs,zgz];rfl
  go_simp;refine(HR.out _).mono ?_;rintro e v6 ⟨rfl,rfl⟩;go_wp2_with fail
  refine hK.out _ _ (hH) (fun hN=>?_);clear hK K hH;have hH:=hN;clear hN
  try simp only[Act.put,zsa,zsz,zss]
  refine wpAnyH_take (i:=7) (oi:=?oib7) (v:=?vvb7) ?hib7 (by kernel_rfl) (by kernel_rfl) (by kernel_rfl) ?hqb7 ?hyb7 hH ?_
  case hib7=>simp only[zga,zgs,zgz];rfl
  case hqb7=>exact fun _ _ _ h=>h
  case hyb7=>refine .inl ⟨by rfl,?_⟩;intro w' hSw;(try dsimp only at hSw);go_simp;try with_reducible rfl
  simp only[Act.put,zsa,zsz,zss];refine wpAnyH_done (by kernel_rfl) ?_ _;go_wp2;exact end_2 (by simp[results,results51,go_sem]) rfl hH.2.2.1.out
 ·rw[hq] at HR
  go_enter func51,ntmps51
  go_upto_region 1 with fail
  refine wp_region_held_drew (S:=(fun w'=>w'.cell? ⟨w.heap.size,0,none⟩=some (.int .i64 op)∧w'.cell? ⟨w.heap.size,4,none⟩=some (.int .i64 d)∧Hid (Below w.heap.size w w')∧Hid (ShTab w'))) (by kernel_rfl) (⟨by simp,by simp,hidF (bdrew (bel_alloc (Below.refl _ _) _)),hidF (HT.out.keep (bdrew (bel_alloc (Below.refl _ _) _)))⟩) (fun hH=>?_);refine wpAnyH_take (i:=0) (oi:=?oid0) (v:=?vvd0) ?hid0 (by kernel_rfl) (by kernel_rfl) (by kernel_rfl) ?hqd0 ?hyd0 hH ?_
  case hid0=>simp only[zga,zgs,zgz];rfl
  case hqd0=>exact fun _ _ _ h=>h
  case hyd0=>refine .inl ⟨by rfl,?_⟩;intro w' hSw;(try dsimp only at hSw);go_simp;try with_reducible rfl
  simp only[Act.put,zsa,zsz,zss];refine wpAnyH_take (i:=1) (oi:=?oid1) (v:=?vvd1) ?hid1 (by kernel_rfl) (by kernel_rfl) (by kernel_rfl) ?hqd1 ?hyd1 hH ?_
  case hid1=>simp only[zga,zgs,zgz];rfl
  case hqd1=>exact fun _ _ _ h=>h
  case hyd1=>refine .inl ⟨by rfl,?_⟩;intro w' hSw;(try dsimp only at hSw);go_simp;try with_reducible rfl
  simp only[Act.put,zsa,zsz,zss];refine wpAnyH_take (i:=4) (oi:=?oid4) (v:=?vvd4) ?hid4 (by kernel_rfl) (by kernel_rfl) (by kernel_rfl) ?hqd4 ?hyd4 hH ?_
  case hid4=>simp only[zga,zgs,zgz];rfl
  case hqd4=>exact fun _ _ _ h=>h
  case hyd4=>refine .inl ⟨by rfl,?_⟩;intro w' hSw;(try dsimp only at hSw);go_simp;try with_reducible rfl
  simp only[Act.put,zsa,zsz,zss];refine wpAnyH_take (i:=5) (oi:=?oid5) (v:=?vvd5) ?hid5 (by kernel_rfl) (by kernel_rfl) (by kernel_rfl) ?hqd5 ?hyd5 hH ?_
  case hid5=>simp only[zga,zgs,zgz];rfl
  case hqd5=>exact fun _ _ _ h=>h
  case hyd5=>refine .inl ⟨by rfl,?_⟩;intro w' hSw;(try dsimp only at hSw);go_simp;try with_reducible rfl
  simp only[Act.put,zsa,zsz,zss];refine wpAnyH_ready (rs:=[2]) (by kernel_rfl) (by simp) ?_;refine AllReadyH.cons (o:=?oid2) ?hid2 (fun K hK=>?_) AllReadyH.nil
  case hid2=>simp only[zga,zgs,zgz];rfl
  go_simp;refine(shapeOf_any op _ hH.2.2.2.out).mono ?_;rintro e v2 ⟨rfl,hb1⟩;rw[HX.out];simp only[spV];go_wp2_with fail
  refine hK.out _ _ (⟨keep_cell hb1 hH.1,keep_cell hb1 hH.2.1,hidF (bel_trans hH.2.2.1.out hb1),hidF (hH.2.2.2.out.keep hb1)⟩) (fun hN=>?_);clear hK K hH;have hH:=hN;clear hN
  try simp only[Act.put,zsa,zsz,zss]
  refine wpAnyH_take (i:=3) (oi:=?oid3) (v:=?vvd3) ?hid3 (by kernel_rfl) (by kernel_rfl) (by kernel_rfl) ?hqd3 ?hyd3 hH ?_
  case hid3=>simp only[zga,zgs,zgz];rfl
  case hqd3=>exact fun _ _ _ h=>h
  case hyd3=>refine .inl ⟨by rfl,?_⟩;intro w' hSw;(try dsimp only at hSw);go_simp;try with_reducible rfl
  simp only[Act.put,zsa,zsz,zss];refine wpAnyH_ready (rs:=[6]) (by kernel_rfl) (by simp) ?_;refine AllReadyH.cons (o:=?oid6) ?hid6 (fun K hK=>?_) AllReadyH.nil
  case hid6=>simp only[zga,zgs,zgz];rfl
  go_simp;refine(HR.out _).mono ?_;rintro e v6 ⟨rfl,rfl⟩;go_wp2_with fail
  refine hK.out _ _ (hH) (fun hN=>?_);clear hK K hH;have hH:=hN;clear hN
  try simp only[Act.put,zsa,zsz,zss]
  refine wpAnyH_take (i:=7) (oi:=?oid7) (v:=?vvd7) ?hid7 (by kernel_rfl) (by kernel_rfl) (by kernel_rfl) ?hqd7 ?hyd7 hH ?_
  case hid7=>simp only[zga,zgs,zgz];rfl
  case hqd7=>exact fun _ _ _ h=>h
  case hyd7=>refine .inl ⟨by rfl,?_⟩;intro w' hSw;(try dsimp only at hSw);go_simp;try with_reducible rfl
  simp only[Act.put,zsa,zsz,zss];refine wpAnyH_done (by kernel_rfl) ?_ _;go_wp2;exact end_2 (by simp[results,results51,go_sem]) rfl hH.2.2.1.out
set_option maxHeartbeats 4000000
def regionN (n:Nat):Code→Option Code
 |.region k o b=>if k=n then some (.region k o b) else none
 |.seq a b=>match regionN n a with
  |some c=>some c
  |none=>regionN n b
 |.block _ c=>regionN n c
 |.scope c=>regionN n c
 |.loop c=>regionN n c
 |.cond _ a b=>match regionN n a with
  |some c=>some c
  |none=>regionN n b
 |_=>none
noncomputable def usR0:Code:=((Tryz.f80.body.bind (regionN 0)).getD .skip)
noncomputable def usR4:Code:=((Tryz.f80.body.bind (regionN 4)).getD .skip)
noncomputable def suR1:Code:=((Tryz.f78.body.bind (regionN 1)).getD .skip)
noncomputable def suR2:Code:=((Tryz.f78.body.bind (regionN 2)).getD .skip)
def yieldEnd (J:World→Prop) (Jx:World→Prop):Ending→World→Prop:=fun e W=>∃ b,e=.returned (.bool b)∧(b=true→J W)∧(b=false→Jx W)
theorem yieldEnd.bool {J Jx:World→Prop} {e:Ending} {W:World} (h:yieldEnd J Jx e W):∃ b,e=.returned (.bool b):=⟨h.choose,h.choose_spec.1⟩
theorem yieldEnd.yes {J Jx:World→Prop} {W:World} (h:yieldEnd J Jx (.returned (.bool true)) W):J W:=by
 obtain⟨b,e,h1,_⟩:=h
 injection e with e;injection e with e
 exact h1 e.symm
theorem yieldEnd.no {J Jx:World→Prop} {W:World} (h:yieldEnd J Jx (.returned (.bool false)) W):Jx W:=by
 obtain⟨b,e,_,h1⟩:=h
 injection e with e;injection e with e
 exact h1 e.symm
theorem us_r0ff (l0 sb ib:Nat) (pa pb a b:Int) (w1:World) (z3 z4 z5 z6 z7 z8 z9 z10 z11 z12 z13 z14 z15 z16 z17 z18 z19 z20 z21 z22 z23 z24 z25 z26 z27 z28 z29 z30 z31 z32 z33 z34 z35 z36 z37 z38 z39 z40 z41 z42 z43 z44 z45 z46 z47:Value) (K:Act→World→Prop) (QQ:Exit→Act→World→Prop) (c0:w1.cell? ⟨sb,2,none⟩=some (.int .i64 pa)) (c1:w1.cell? ⟨sb,3,none⟩=some (.int .i64 pb)) (c2:w1.cell? ⟨ib,2,none⟩=some (.int .i64 a)) (c3:w1.cell? ⟨ib,3,none⟩=some (.int .i64 b)) (hA:readB pa a=false) (hB:readB pb b=false) (HK:Hid (∀ stop W y6 y7 y8 y9 y10 y11 y12 y13 y14 y15 y16 y17 y18 y19 y20 y21 y22 y23 y24 y25 y26 y27 y28 y29 y30,(stop=false∧W=w1)→K ⟨#[.func (.yield l0) #[] #[],.pointer (some ⟨sb,0,none⟩),.pointer (some ⟨ib,0,none⟩),z3,z4,z5,y6,y7,y8,y9,y10,y11,y12,y13,y14,y15,y16,y17,y18,y19,y20,y21,y22,y23,y24,y25,y26,y27,y28,y29,y30,.bool stop,z32,z33,z34,z35,z36,z37,z38,z39,z40,z41,z42,z43,z44,z45,z46,z47],[]⟩ W)) :
  Code.wp prog usR0 (Exit.then K QQ) ⟨#[.func (.yield l0) #[] #[],.pointer (some ⟨sb,0,none⟩),.pointer (some ⟨ib,0,none⟩),z3,z4,z5,z6,z7,z8,z9,z10,z11,z12,z13,z14,z15,z16,z17,z18,z19,z20,z21,z22,z23,z24,z25,z26,z27,z28,z29,z30,z31,z32,z33,z34,z35,z36,z37,z38,z39,z40,z41,z42,z43,z44,z45,z46,z47],[]⟩ w1:=by
 refine(wpIn_wide (n:=1)).1 ?_
 conv=>arg 4;whnf
 have HX:Hid (∀ m W,CallsIn Fence.wide m prog 81 #[.int .i64 pa,.int .i64 a] W fun e w'=>e=.returned (.bool false)∧w'=W):=fun m W=>hA▸callsIn_wide.2 (isRegister_any pa a W);have HZ:Hid (∀ m W,CallsIn Fence.wide m prog 81 #[.int .i64 pb,.int .i64 b] W fun e w'=>e=.returned (.bool false)∧w'=W):=fun m W=>hB▸callsIn_wide.2 (isRegister_any pb b W);clear hA hB
 gi_wp2
 refine⟨trivial,(HX.out _ _).mono ?_⟩;rintro e wr ⟨rfl,hwr⟩;subst hwr
 gi_wp2
 (first|refine⟨(fun (f:FuncId) (h:none=some f)=>(by cases h)),?_⟩|refine⟨(trivial:Fence.wide.fn _),?_⟩|skip)
 gi_wp2
 refine⟨trivial,(HZ.out _ _).mono ?_⟩;rintro e wr ⟨rfl,hwr⟩;subst hwr
 gi_wp2
 (first|refine⟨(fun (f:FuncId) (h:none=some f)=>(by cases h)),?_⟩|refine⟨(trivial:Fence.wide.fn _),?_⟩|skip)
 gi_wp2
 exact HK.out false _ _ _ _ _ _ _ _ _ _ _ _ _ _ _ _ _ _ _ _ _ _ _ _ _ _ ⟨rfl,rfl⟩
theorem us_r0tf (l0 sb ib:Nat) (pa pb a b:Int) (w1:World) (z3 z4 z5 z6 z7 z8 z9 z10 z11 z12 z13 z14 z15 z16 z17 z18 z19 z20 z21 z22 z23 z24 z25 z26 z27 z28 z29 z30 z31 z32 z33 z34 z35 z36 z37 z38 z39 z40 z41 z42 z43 z44 z45 z46 z47:Value) (K:Act→World→Prop) (QQ:Exit→Act→World→Prop) (c0:w1.cell? ⟨sb,2,none⟩=some (.int .i64 pa)) (c1:w1.cell? ⟨sb,3,none⟩=some (.int .i64 pb)) (c2:w1.cell? ⟨ib,2,none⟩=some (.int .i64 a)) (c3:w1.cell? ⟨ib,3,none⟩=some (.int .i64 b)) (hA:readB pa a=true) (hB:readB pb b=false) (JA Jx:World→Prop) (hYA:YieldAt Fence.wide 0 prog l0 #[.int .i64 a] w1 (yieldEnd JA Jx)) (HJ:Hid (∀ W,JA W→W.cell? ⟨sb,3,none⟩=some (.int .i64 pb)∧W.cell? ⟨ib,3,none⟩=some (.int .i64 b))) (HK:Hid (∀ stop W y6 y7 y8 y9 y10 y11 y12 y13 y14 y15 y16 y17 y18 y19 y20 y21 y22 y23 y24 y25 y26 y27 y28 y29 y30,((stop=false→JA W)∧(stop=true→Jx W))→K ⟨#[.func (.yield l0) #[] #[],.pointer (some ⟨sb,0,none⟩),.pointer (some ⟨ib,0,none⟩),z3,z4,z5,y6,y7,y8,y9,y10,y11,y12,y13,y14,y15,y16,y17,y18,y19,y20,y21,y22,y23,y24,y25,y26,y27,y28,y29,y30,.bool stop,z32,z33,z34,z35,z36,z37,z38,z39,z40,z41,z42,z43,z44,z45,z46,z47],[]⟩ W)) :
  Code.wp prog usR0 (Exit.then K QQ) ⟨#[.func (.yield l0) #[] #[],.pointer (some ⟨sb,0,none⟩),.pointer (some ⟨ib,0,none⟩),z3,z4,z5,z6,z7,z8,z9,z10,z11,z12,z13,z14,z15,z16,z17,z18,z19,z20,z21,z22,z23,z24,z25,z26,z27,z28,z29,z30,z31,z32,z33,z34,z35,z36,z37,z38,z39,z40,z41,z42,z43,z44,z45,z46,z47],[]⟩ w1:=by
 refine(wpIn_wide (n:=1)).1 ?_
 conv=>arg 4;whnf
 have HX:Hid (∀ m W,CallsIn Fence.wide m prog 81 #[.int .i64 pa,.int .i64 a] W fun e w'=>e=.returned (.bool true)∧w'=W):=fun m W=>hA▸callsIn_wide.2 (isRegister_any pa a W);have HZ:Hid (∀ m W,CallsIn Fence.wide m prog 81 #[.int .i64 pb,.int .i64 b] W fun e w'=>e=.returned (.bool false)∧w'=W):=fun m W=>hB▸callsIn_wide.2 (isRegister_any pb b W);clear hA hB
 gi_wp2
 refine⟨trivial,(HX.out _ _).mono ?_⟩;rintro e wr ⟨rfl,hwr⟩;subst hwr;obtain⟨fn1,tmps1,assign1,body1,hy1,hR1⟩:=hYA
 gi_wp2
 refine hR1.mono ?_;intro e W1 h;obtain⟨r1,rfl⟩:=h.bool
 cases r1 with
 |false =>
  have hx:=hid h.no;clear h
  gi_wp2
  (first|refine⟨(trivial:Fence.wide.fn _),?_⟩|skip)
  gi_wp2
  all_goals first
   |(refine⟨(fun (f:FuncId) (h:none=some f)=>(by cases h)),?_⟩;gi_wp2;exact HK.out true _ _ _ _ _ _ _ _ _ _ _ _ _ _ _ _ _ _ _ _ _ _ _ _ _ _ ⟨(fun h=>by cases h),(fun _=>hx.out)⟩)
   |exact absurd (show some undef=some (Value.bool _) by assumption) (by simp[undef])
 |true =>
  have hx:=hid h.yes;clear h;obtain⟨c1,c3⟩:=HJ.out _ hx.out;clear c0 c2
  gi_wp2
  refine⟨trivial,(HZ.out _ _).mono ?_⟩;rintro e wr ⟨rfl,hwr⟩;subst hwr
  gi_wp2
  (first|refine⟨(fun (f:FuncId) (h:none=some f)=>(by cases h)),?_⟩|refine⟨(trivial:Fence.wide.fn _),?_⟩|skip)
  gi_wp2
  exact HK.out false _ _ _ _ _ _ _ _ _ _ _ _ _ _ _ _ _ _ _ _ _ _ _ _ _ _ ⟨(fun _=>hx.out),(fun h=>by cases h)⟩
theorem us_r0ft (l0 sb ib:Nat) (pa pb a b:Int) (w1:World) (z3 z4 z5 z6 z7 z8 z9 z10 z11 z12 z13 z14 z15 z16 z17 z18 z19 z20 z21 z22 z23 z24 z25 z26 z27 z28 z29 z30 z31 z32 z33 z34 z35 z36 z37 z38 z39 z40 z41 z42 z43 z44 z45 z46 z47:Value) (K:Act→World→Prop) (QQ:Exit→Act→World→Prop) (c0:w1.cell? ⟨sb,2,none⟩=some (.int .i64 pa)) (c1:w1.cell? ⟨sb,3,none⟩=some (.int .i64 pb)) (c2:w1.cell? ⟨ib,2,none⟩=some (.int .i64 a)) (c3:w1.cell? ⟨ib,3,none⟩=some (.int .i64 b)) (hA:readB pa a=false) (hB:readB pb b=true) (JB Jx:World→Prop) (hYB:YieldAt Fence.wide 0 prog l0 #[.int .i64 b] w1 (yieldEnd JB Jx)) (HK:Hid (∀ stop W y6 y7 y8 y9 y10 y11 y12 y13 y14 y15 y16 y17 y18 y19 y20 y21 y22 y23 y24 y25 y26 y27 y28 y29 y30,((stop=false→JB W)∧(stop=true→Jx W))→K ⟨#[.func (.yield l0) #[] #[],.pointer (some ⟨sb,0,none⟩),.pointer (some ⟨ib,0,none⟩),z3,z4,z5,y6,y7,y8,y9,y10,y11,y12,y13,y14,y15,y16,y17,y18,y19,y20,y21,y22,y23,y24,y25,y26,y27,y28,y29,y30,.bool stop,z32,z33,z34,z35,z36,z37,z38,z39,z40,z41,z42,z43,z44,z45,z46,z47],[]⟩ W)) :
  Code.wp prog usR0 (Exit.then K QQ) ⟨#[.func (.yield l0) #[] #[],.pointer (some ⟨sb,0,none⟩),.pointer (some ⟨ib,0,none⟩),z3,z4,z5,z6,z7,z8,z9,z10,z11,z12,z13,z14,z15,z16,z17,z18,z19,z20,z21,z22,z23,z24,z25,z26,z27,z28,z29,z30,z31,z32,z33,z34,z35,z36,z37,z38,z39,z40,z41,z42,z43,z44,z45,z46,z47],[]⟩ w1:=by
 refine(wpIn_wide (n:=1)).1 ?_
 conv=>arg 4;whnf
 have HX:Hid (∀ m W,CallsIn Fence.wide m prog 81 #[.int .i64 pa,.int .i64 a] W fun e w'=>e=.returned (.bool false)∧w'=W):=fun m W=>hA▸callsIn_wide.2 (isRegister_any pa a W);have HZ:Hid (∀ m W,CallsIn Fence.wide m prog 81 #[.int .i64 pb,.int .i64 b] W fun e w'=>e=.returned (.bool true)∧w'=W):=fun m W=>hB▸callsIn_wide.2 (isRegister_any pb b W);clear hA hB
 gi_wp2
 refine⟨trivial,(HX.out _ _).mono ?_⟩;rintro e wr ⟨rfl,hwr⟩;subst hwr
 gi_wp2
 (first|refine⟨(fun (f:FuncId) (h:none=some f)=>(by cases h)),?_⟩|refine⟨(trivial:Fence.wide.fn _),?_⟩|skip)
 gi_wp2
 refine⟨trivial,(HZ.out _ _).mono ?_⟩;rintro e wr ⟨rfl,hwr⟩;subst hwr;obtain⟨fn1,tmps1,assign1,body1,hy1,hR1⟩:=hYB
 gi_wp2
 refine hR1.mono ?_;intro e W1 h;obtain⟨r1,rfl⟩:=h.bool
 cases r1 with
 |false =>
  have hx:=hid h.no;clear h
  gi_wp2
  exact HK.out true _ _ _ _ _ _ _ _ _ _ _ _ _ _ _ _ _ _ _ _ _ _ _ _ _ _ ⟨(fun h=>by cases h),(fun _=>hx.out)⟩
 |true =>
  have hx:=hid h.yes;clear h
  gi_wp2
  exact HK.out false _ _ _ _ _ _ _ _ _ _ _ _ _ _ _ _ _ _ _ _ _ _ _ _ _ _ ⟨(fun _=>hx.out),(fun h=>by cases h)⟩
theorem us_r0tt (l0 sb ib:Nat) (pa pb a b:Int) (w1:World) (z3 z4 z5 z6 z7 z8 z9 z10 z11 z12 z13 z14 z15 z16 z17 z18 z19 z20 z21 z22 z23 z24 z25 z26 z27 z28 z29 z30 z31 z32 z33 z34 z35 z36 z37 z38 z39 z40 z41 z42 z43 z44 z45 z46 z47:Value) (K:Act→World→Prop) (QQ:Exit→Act→World→Prop) (c0:w1.cell? ⟨sb,2,none⟩=some (.int .i64 pa)) (c1:w1.cell? ⟨sb,3,none⟩=some (.int .i64 pb)) (c2:w1.cell? ⟨ib,2,none⟩=some (.int .i64 a)) (c3:w1.cell? ⟨ib,3,none⟩=some (.int .i64 b)) (hA:readB pa a=true) (hB:readB pb b=true) (JA JB Jx:World→Prop) (hYA:YieldAt Fence.wide 0 prog l0 #[.int .i64 a] w1 (yieldEnd JA Jx)) (HYB:Hid (∀ W,JA W→YieldAt Fence.wide 0 prog l0 #[.int .i64 b] W (yieldEnd JB Jx))) (HJ:Hid (∀ W,JA W→W.cell? ⟨sb,3,none⟩=some (.int .i64 pb)∧W.cell? ⟨ib,3,none⟩=some (.int .i64 b))) (HK:Hid (∀ stop W y6 y7 y8 y9 y10 y11 y12 y13 y14 y15 y16 y17 y18 y19 y20 y21 y22 y23 y24 y25 y26 y27 y28 y29 y30,((stop=false→JB W)∧(stop=true→Jx W))→K ⟨#[.func (.yield l0) #[] #[],.pointer (some ⟨sb,0,none⟩),.pointer (some ⟨ib,0,none⟩),z3,z4,z5,y6,y7,y8,y9,y10,y11,y12,y13,y14,y15,y16,y17,y18,y19,y20,y21,y22,y23,y24,y25,y26,y27,y28,y29,y30,.bool stop,z32,z33,z34,z35,z36,z37,z38,z39,z40,z41,z42,z43,z44,z45,z46,z47],[]⟩ W)) :
  Code.wp prog usR0 (Exit.then K QQ) ⟨#[.func (.yield l0) #[] #[],.pointer (some ⟨sb,0,none⟩),.pointer (some ⟨ib,0,none⟩),z3,z4,z5,z6,z7,z8,z9,z10,z11,z12,z13,z14,z15,z16,z17,z18,z19,z20,z21,z22,z23,z24,z25,z26,z27,z28,z29,z30,z31,z32,z33,z34,z35,z36,z37,z38,z39,z40,z41,z42,z43,z44,z45,z46,z47],[]⟩ w1:=by
 refine(wpIn_wide (n:=1)).1 ?_
 conv=>arg 4;whnf
 have HX:Hid (∀ m W,CallsIn Fence.wide m prog 81 #[.int .i64 pa,.int .i64 a] W fun e w'=>e=.returned (.bool true)∧w'=W):=fun m W=>hA▸callsIn_wide.2 (isRegister_any pa a W);have HZ:Hid (∀ m W,CallsIn Fence.wide m prog 81 #[.int .i64 pb,.int .i64 b] W fun e w'=>e=.returned (.bool true)∧w'=W):=fun m W=>hB▸callsIn_wide.2 (isRegister_any pb b W);clear hA hB
 gi_wp2
 refine⟨trivial,(HX.out _ _).mono ?_⟩;rintro e wr ⟨rfl,hwr⟩;subst hwr;obtain⟨fn1,tmps1,assign1,body1,hy1,hR1⟩:=hYA
 gi_wp2
 refine hR1.mono ?_;intro e W1 h;obtain⟨r1,rfl⟩:=h.bool
 cases r1 with
 |false =>
  have hx:=hid h.no;clear h
  gi_wp2
  (first|refine⟨(trivial:Fence.wide.fn _),?_⟩|skip)
  gi_wp2
  all_goals first
   |(refine⟨(fun (f:FuncId) (h:none=some f)=>(by cases h)),?_⟩;gi_wp2;exact HK.out true _ _ _ _ _ _ _ _ _ _ _ _ _ _ _ _ _ _ _ _ _ _ _ _ _ _ ⟨(fun h=>by cases h),(fun _=>hx.out)⟩)
   |exact absurd (show some undef=some (Value.bool _) by assumption) (by simp[undef])
 |true =>
  have hx:=hid h.yes;clear h;obtain⟨c1,c3⟩:=HJ.out _ hx.out;clear c0 c2
  gi_wp2
  refine⟨trivial,(HZ.out _ _).mono ?_⟩;rintro e wr ⟨rfl,hwr⟩;subst hwr;obtain⟨fn2,tmps2,assign2,body2,hy2,hR2⟩:=HYB.out _ hx.out
  gi_wp2
  refine hR2.mono ?_;intro e W2 h;obtain⟨r2,rfl⟩:=h.bool;clear hx
  cases r2 with
  |false =>
   have hx:=hid h.no;clear h
   gi_wp2
   exact HK.out true _ _ _ _ _ _ _ _ _ _ _ _ _ _ _ _ _ _ _ _ _ _ _ _ _ _ ⟨(fun h=>by cases h),(fun _=>hx.out)⟩
  |true =>
   have hx:=hid h.yes;clear h
   gi_wp2
   exact HK.out false _ _ _ _ _ _ _ _ _ _ _ _ _ _ _ _ _ _ _ _ _ _ _ _ _ _ ⟨(fun _=>hx.out),(fun h=>by cases h)⟩
theorem us_r4 (l0 sb ib:Nat) (x:Int) (w1:World) (z3 z4 z6 z7 z8 z9 z10 z11 z12 z13 z14 z15 z16 z17 z18 z19 z20 z21 z22 z23 z24 z25 z26 z27 z28 z29 z30 z31 z32 z33 z34 z35 z36 z37 z38 z39 z40 z41 z42 z43 z44 z45 z46 z47:Value) (K:Act→World→Prop) (QQ:Exit→Act→World→Prop) (J Jx:World→Prop) (hq:(x != -1)=true)
  (hY:YieldAt Fence.wide 0 prog l0 #[.int .i64 x] w1 (yieldEnd J Jx))
  (HK:Hid (∀ stop W y39 y40 y41 y42 y43 y44 y45,((stop=false→J W)∧(stop=true→Jx W))→K ⟨#[.func (.yield l0) #[] #[],.pointer (some ⟨sb,0,none⟩),.pointer (some ⟨ib,0,none⟩),z3,z4,.int .i64 x,z6,z7,z8,z9,z10,z11,z12,z13,z14,z15,z16,z17,z18,z19,z20,z21,z22,z23,z24,z25,z26,z27,z28,z29,z30,z31,z32,z33,z34,z35,z36,z37,z38,y39,y40,y41,y42,y43,y44,y45,.bool stop,z47],[]⟩ W)) :
  Code.wp prog usR4 (Exit.then K QQ) ⟨#[.func (.yield l0) #[] #[],.pointer (some ⟨sb,0,none⟩),.pointer (some ⟨ib,0,none⟩),z3,z4,.int .i64 x,z6,z7,z8,z9,z10,z11,z12,z13,z14,z15,z16,z17,z18,z19,z20,z21,z22,z23,z24,z25,z26,z27,z28,z29,z30,z31,z32,z33,z34,z35,z36,z37,z38,z39,z40,z41,z42,z43,z44,z45,z46,z47],[]⟩ w1:=by
 refine(wpIn_wide (n:=1)).1 ?_
 conv=>arg 4;whnf
 obtain⟨fn1,tmps1,assign1,body1,hy1,hR1⟩:=hY
 gi_wp2
 refine hR1.mono ?_;intro e W1 h;obtain⟨r1,rfl⟩:=h.bool
 cases r1 with
 |false =>
  have hx:=hid h.no;clear h
  gi_wp2
  exact HK.out true _ _ _ _ _ _ _ _ ⟨(fun h=>by cases h),(fun _=>hx.out)⟩
 |true =>
  have hx:=hid h.yes;clear h
  gi_wp2
  exact HK.out false _ _ _ _ _ _ _ _ ⟨(fun _=>hx.out),(fun h=>by cases h)⟩
theorem su_r1 (l0 ib:Nat) (op s:Int) (w1:World) (z2 z3 z4 z5 z6 z7 z8 z9 z10 z11 z12 z13 z14 z15 z16 z17 z18:Value) (K:Act→World→Prop) (QQ:Exit→Act→World→Prop) (J Jx:World→Prop)
  (c7:w1.cell? ⟨ib,7,none⟩=some (.int .i64 s)) (HJ:Hid (∀ W,J W→W.cell? ⟨ib,0,none⟩=some (.int .i64 op)))
  (hY:YieldAt Fence.wide 0 prog l0 #[.int .i64 s] w1 (yieldEnd J Jx))
  (HK:Hid (∀ go W y6 y7 y8 y9 y10 y11 y12 y13,((J W∧go=(op==11))∨(Jx W∧go=false))→K ⟨#[.func (.yield l0) #[] #[],.pointer (some ⟨ib,0,none⟩),z2,z3,z4,z5,y6,y7,y8,y9,y10,y11,y12,y13,.bool go,z15,z16,z17,z18],[]⟩ W)) :
  Code.wp prog suR1 (Exit.then K QQ) ⟨#[.func (.yield l0) #[] #[],.pointer (some ⟨ib,0,none⟩),z2,z3,z4,z5,z6,z7,z8,z9,z10,z11,z12,z13,z14,z15,z16,z17,z18],[]⟩ w1:=by
 refine(wpIn_wide (n:=1)).1 ?_
 conv=>arg 4;whnf
 obtain⟨fn1,tmps1,assign1,body1,hy1,hR1⟩:=hY
 gi_wp2
 refine hR1.mono ?_;intro e W1 h;obtain⟨r1,rfl⟩:=h.bool
 cases r1 with
 |false =>
  have hx:=hid h.no;clear h
  gi_wp2
  exact HK.out _ _ _ _ _ _ _ _ _ _ (.inr ⟨hx.out,rfl⟩)
 |true =>
  have hx:=hid h.yes;clear h;have c0:=HJ.out _ hx.out
  gi_wp2
  exact HK.out _ _ _ _ _ _ _ _ _ _ (.inl ⟨hx.out,rfl⟩)
theorem su_r2 (l0 ib:Nat) (t:Int) (w1:World) (z2 z3 z4 z5 z6 z7 z8 z9 z10 z11 z12 z13 z14 z15 z16 z17 z18:Value) (Q:Exit→Act→World→Prop) (J Jx:World→Prop)
  (c8:w1.cell? ⟨ib,8,none⟩=some (.int .i64 t))
  (hY:YieldAt Fence.wide 0 prog l0 #[.int .i64 t] w1 (yieldEnd J Jx))
  (HK:Hid (∀ W y15 y16 y17 y18,(J W∨Jx W)→Q .normal ⟨#[.func (.yield l0) #[] #[],.pointer (some ⟨ib,0,none⟩),z2,z3,z4,z5,z6,z7,z8,z9,z10,z11,z12,z13,z14,y15,y16,y17,y18],[]⟩ W)) :
  Code.wp prog suR2 Q ⟨#[.func (.yield l0) #[] #[],.pointer (some ⟨ib,0,none⟩),z2,z3,z4,z5,z6,z7,z8,z9,z10,z11,z12,z13,z14,z15,z16,z17,z18],[]⟩ w1:=by
 refine(wpIn_wide (n:=1)).1 ?_
 conv=>arg 4;whnf
 obtain⟨fn1,tmps1,assign1,body1,hy1,hR1⟩:=hY
 gi_wp2
 refine hR1.mono ?_;intro e W1 h;obtain⟨r1,rfl⟩:=h.bool
 cases r1 with
 |false =>
  have hx:=hid h.no;clear h
  gi_wp2
  exact HK.out _ _ _ _ _ (.inr hx.out)
 |true =>
  have hx:=hid h.yes;clear h
  gi_wp2
  exact HK.out _ _ _ _ _ (.inl hx.out)
set_option maxHeartbeats 8000000
theorem filter_succ {p:Int→Bool} {l:List Int} {i:Nat} {y:Int} (h:l[i]? = some y):(l.take (i+1)).filter p=(l.take i).filter p++(if p y=true then [y] else []):=by
 rw[List.take_add_one,h,List.filter_append];simp only[Option.toList_some,List.filter_cons,List.filter_nil]
theorem filter_at {p:Int→Bool} {l:List Int} {i:Nat} {y:Int} (h:l[i]? = some y):l.filter p=(l.take i).filter p++((if p y=true then [y] else [])++(l.drop (i+1)).filter p):=by
 conv=>lhs;rw[←List.take_append_drop (i+1) l]
 rw[List.filter_append,filter_succ h,List.append_assoc]
def preA (x:Sp) (a:Int):List Int:=if readB x.a a=true then [a] else []
def preB (x:Sp) (b:Int):List Int:=if readB x.b b=true then [b] else []
theorem usP_eq (x:Sp) (a b:Int) (l:List Int):usP x a b l=preA x a++(preB x b++l.filter (· != -1)):=rfl
theorem uses1ff (l0 sb ib:Nat) (x:Sp) (a b:Int) (va:Option Addr) (n vc:Nat) (l:List Int) (w:World) (J:List Int→World→Prop) (Jx:World→Prop) (HN:Hid (n=l.length)) (hn:n*8≤140737488355328) (H0:Hid (J [] w))
  (HJ:Hid (∀ pre W,J pre W→UsBox W sb ib x a b (.slice va n vc) l))
  (HY:Hid (∀ pre y rest W,usP x a b l=pre++y::rest→J pre W→YieldAt Fence.wide 0 prog l0 #[.int .i64 y] W (yieldEnd (J (pre++[y])) Jx))) (hA:readB x.a a=false) (hB:readB x.b b=false) :
  Calls prog 80 #[.func (.yield l0) #[] #[],.pointer (some ⟨sb,0,none⟩),.pointer (some ⟨ib,0,none⟩)] w fun e W=>e=.returned (.tuple #[])∧(J (usP x a b l) W∨Jx W):=by
 obtain⟨c0,c1,c2,c3,_,_⟩:=HJ.out _ w H0.out;have HA:=hid hA;have HB:=hid hB;have EA:Hid (preA x a=[]):=by show _=_;unfold preA;rw[hA];rfl
 have EB:Hid (preB x b=[]):=by show _=_;unfold preB;rw[hB];rfl
 have hnm:(n:Int)≤9223372036854775807:=by omega
 clear hA hB
 go_enter func80,ntmps80
 go_upto_region 0 with fail
 refine us_r0ff l0 sb ib x.a x.b a b w _ _ _ _ _ _ _ _ _ _ _ _ _ _ _ _ _ _ _ _ _ _ _ _ _ _ _ _ _ _ _ _ _ _ _ _ _ _ _ _ _ _ _ _ _ _ _ c0 c1 c2 c3 HA.out HB.out ?_
 ·intro stop W y6 y7 y8 y9 y10 y11 y12 y13 y14 y15 y16 y17 y18 y19 y20 y21 y22 y23 y24 y25 y26 y27 y28 y29 y30 hst
  have HJ0:Hid (stop=false→J (preA x a++(preB x b++[])) W):=fun _=>by rw[EA.out,EB.out,hst.2];exact H0.out
  have HX0:Hid (stop=true→Jx W):=fun h=>by rw[hst.1] at h;cases h
  clear hst
  cases stop with
  |true =>
   go_wp2;refine bodyPost_ret (results_none rfl _ _ _) rfl ?_;exact⟨rfl,.inr (HX0.out (by first|trivial|rfl))⟩
  |false =>
   replace HJ0:=hid (HJ0.out (by first|trivial|rfl));obtain⟨_,_,_,_,c6,_⟩:=HJ.out _ W HJ0.out;go_wp2
   go_loopw [35] (fun vv wz=>∃ i:Nat,i≤n∧vv=.int .i64 i∧Hid (J (preA x a++(preB x b++(l.take i).filter (· != -1))) wz)) (fun vv _=>n - (intOf vv).toNat)
   case atStart=>exact⟨0,by omega,rfl,by simpa using HJ0⟩
   case round =>
    obtain⟨i,hi,rfl,HI⟩:=hrel
    rename World=>wz
    clear c6;obtain⟨_,_,_,_,_,hil⟩:=HJ.out _ wz HI.out
    by_cases hin:i<n
    ·have j0:(0:Int)≤i:=by omega
     have j1:(i:Int)<n:=by omega
     have hget:=List.getElem?_eq_getElem (l:=l) (show i<l.length by rw[←HN.out];exact hin)
     generalize l[i]'(by rw[←HN.out];exact hin)=y at hget
     obtain⟨va2,vc2,hv2,_,_,h2⟩:=hil
     cases hv2
     obtain⟨vb,vo,rfl,hc⟩:=h2 (fun e=>by rw[e] at hget;simp at hget);have cx:=hc i y hget;have HG:=hid hget;clear hget hc h2
     cases hq:(y != -1) with
     |false =>
      have HI2:Hid (J (preA x a++(preB x b++(l.take (i+1)).filter (· != -1))) wz):=by
       show J _ _
       rw[filter_succ HG.out,if_neg (by simp only[hq];simp),List.append_nil];exact HI.out
      go_wp2
      go_roundw
      case rel=>exact⟨i+1,by omega,by simp,HI2⟩
      case measure=>simp[intOf];omega
     |true =>
      go_upto_region 4 with fail
      refine us_r4 l0 sb ib y wz _ _ _ _ _ _ _ _ _ _ _ _ _ _ _ _ _ _ _ _ _ _ _ _ _ _ _ _ _ _ _ _ _ _ _ _ _ _ _ _ _ _ _ _ _ _ (J (preA x a++(preB x b++(l.take (i+1)).filter (· != -1)))) Jx hq ?_ ?_
      ·have hy:=HY.out (preA x a++(preB x b++(l.take i).filter (· != -1))) y ((l.drop (i+1)).filter (· != -1)) wz (by
        rw[usP_eq,filter_at HG.out,if_pos (by simpa using hq)];simp) HI.out
       have e:(preA x a++(preB x b++(l.take i).filter (· != -1)))++[y]=preA x a++(preB x b++(l.take (i+1)).filter (· != -1)):=by
        rw[filter_succ HG.out,if_pos (by simpa using hq)];simp
       rw[e] at hy;exact hy
      ·intro stop W2 y39 y40 y41 y42 y43 y44 y45 h2
       have HS1:Hid (stop=false→J (preA x a++(preB x b++(l.take (i+1)).filter (· != -1))) W2):=h2.1;have HS2:Hid (stop=true→Jx W2):=h2.2;clear h2 cx
       cases stop with
       |true =>
        go_wp2;refine bodyPost_ret (results_none rfl _ _ _) rfl ?_;exact⟨rfl,.inr (HS2.out (by first|trivial|rfl))⟩
       |false =>
        go_wp2
        go_roundw
        case rel=>exact⟨i+1,by omega,by simp,hid (HS1.out (by first|trivial|rfl))⟩
        case measure=>simp[intOf];omega
    ·obtain rfl:n=i:=by omega
     have hfin:J (usP x a b l) wz:=by
      have:=HI.out;rw[HN.out,List.take_length] at this;exact this
     have HF:=hid hfin;clear hfin hil;go_wp2;go_end0;exact⟨rfl,.inl HF.out⟩
theorem uses1tf (l0 sb ib:Nat) (x:Sp) (a b:Int) (va:Option Addr) (n vc:Nat) (l:List Int) (w:World) (J:List Int→World→Prop) (Jx:World→Prop) (HN:Hid (n=l.length)) (hn:n*8≤140737488355328) (H0:Hid (J [] w))
  (HJ:Hid (∀ pre W,J pre W→UsBox W sb ib x a b (.slice va n vc) l))
  (HY:Hid (∀ pre y rest W,usP x a b l=pre++y::rest→J pre W→YieldAt Fence.wide 0 prog l0 #[.int .i64 y] W (yieldEnd (J (pre++[y])) Jx))) (hA:readB x.a a=true) (hB:readB x.b b=false) :
  Calls prog 80 #[.func (.yield l0) #[] #[],.pointer (some ⟨sb,0,none⟩),.pointer (some ⟨ib,0,none⟩)] w fun e W=>e=.returned (.tuple #[])∧(J (usP x a b l) W∨Jx W):=by
 obtain⟨c0,c1,c2,c3,_,_⟩:=HJ.out _ w H0.out;have HA:=hid hA;have HB:=hid hB;have EA:Hid (preA x a=[a]):=by show _=_;unfold preA;rw[hA];rfl
 have EB:Hid (preB x b=[]):=by show _=_;unfold preB;rw[hB];rfl
 have hnm:(n:Int)≤9223372036854775807:=by omega
 clear hA hB
 go_enter func80,ntmps80
 go_upto_region 0 with fail
 refine us_r0tf l0 sb ib x.a x.b a b w _ _ _ _ _ _ _ _ _ _ _ _ _ _ _ _ _ _ _ _ _ _ _ _ _ _ _ _ _ _ _ _ _ _ _ _ _ _ _ _ _ _ _ _ _ _ _ c0 c1 c2 c3 HA.out HB.out (J [a]) Jx (by have:=HY.out [] a (preB x b++l.filter (· != -1)) w (by rw[usP_eq,EA.out];rfl) H0.out;exact this) (fun W hW=>by obtain⟨_,d1,_,d3,_,_⟩:=HJ.out _ W hW;exact⟨d1,d3⟩) ?_
 ·intro stop W y6 y7 y8 y9 y10 y11 y12 y13 y14 y15 y16 y17 y18 y19 y20 y21 y22 y23 y24 y25 y26 y27 y28 y29 y30 hst
  have HJ0:Hid (stop=false→J (preA x a++(preB x b++[])) W):=fun h=>by rw[EA.out,EB.out];exact hst.1 h
  have HX0:Hid (stop=true→Jx W):=hst.2;clear hst
  cases stop with
  |true =>
   go_wp2;refine bodyPost_ret (results_none rfl _ _ _) rfl ?_;exact⟨rfl,.inr (HX0.out (by first|trivial|rfl))⟩
  |false =>
   replace HJ0:=hid (HJ0.out (by first|trivial|rfl));obtain⟨_,_,_,_,c6,_⟩:=HJ.out _ W HJ0.out;go_wp2
   go_loopw [35] (fun vv wz=>∃ i:Nat,i≤n∧vv=.int .i64 i∧Hid (J (preA x a++(preB x b++(l.take i).filter (· != -1))) wz)) (fun vv _=>n - (intOf vv).toNat)
   case atStart=>exact⟨0,by omega,rfl,by simpa using HJ0⟩
   case round =>
    obtain⟨i,hi,rfl,HI⟩:=hrel
    rename World=>wz
    clear c6;obtain⟨_,_,_,_,_,hil⟩:=HJ.out _ wz HI.out
    by_cases hin:i<n
    ·have j0:(0:Int)≤i:=by omega
     have j1:(i:Int)<n:=by omega
     have hget:=List.getElem?_eq_getElem (l:=l) (show i<l.length by rw[←HN.out];exact hin)
     generalize l[i]'(by rw[←HN.out];exact hin)=y at hget
     obtain⟨va2,vc2,hv2,_,_,h2⟩:=hil
     cases hv2
     obtain⟨vb,vo,rfl,hc⟩:=h2 (fun e=>by rw[e] at hget;simp at hget);have cx:=hc i y hget;have HG:=hid hget;clear hget hc h2
     cases hq:(y != -1) with
     |false =>
      have HI2:Hid (J (preA x a++(preB x b++(l.take (i+1)).filter (· != -1))) wz):=by
       show J _ _
       rw[filter_succ HG.out,if_neg (by simp only[hq];simp),List.append_nil];exact HI.out
      go_wp2
      go_roundw
      case rel=>exact⟨i+1,by omega,by simp,HI2⟩
      case measure=>simp[intOf];omega
     |true =>
      go_upto_region 4 with fail
      refine us_r4 l0 sb ib y wz _ _ _ _ _ _ _ _ _ _ _ _ _ _ _ _ _ _ _ _ _ _ _ _ _ _ _ _ _ _ _ _ _ _ _ _ _ _ _ _ _ _ _ _ _ _ (J (preA x a++(preB x b++(l.take (i+1)).filter (· != -1)))) Jx hq ?_ ?_
      ·have hy:=HY.out (preA x a++(preB x b++(l.take i).filter (· != -1))) y ((l.drop (i+1)).filter (· != -1)) wz (by
        rw[usP_eq,filter_at HG.out,if_pos (by simpa using hq)];simp) HI.out
       have e:(preA x a++(preB x b++(l.take i).filter (· != -1)))++[y]=preA x a++(preB x b++(l.take (i+1)).filter (· != -1)):=by
        rw[filter_succ HG.out,if_pos (by simpa using hq)];simp
       rw[e] at hy;exact hy
      ·intro stop W2 y39 y40 y41 y42 y43 y44 y45 h2
       have HS1:Hid (stop=false→J (preA x a++(preB x b++(l.take (i+1)).filter (· != -1))) W2):=h2.1;have HS2:Hid (stop=true→Jx W2):=h2.2;clear h2 cx
       cases stop with
       |true =>
        go_wp2;refine bodyPost_ret (results_none rfl _ _ _) rfl ?_;exact⟨rfl,.inr (HS2.out (by first|trivial|rfl))⟩
       |false =>
        go_wp2
        go_roundw
        case rel=>exact⟨i+1,by omega,by simp,hid (HS1.out (by first|trivial|rfl))⟩
        case measure=>simp[intOf];omega
    ·obtain rfl:n=i:=by omega
     have hfin:J (usP x a b l) wz:=by
      have:=HI.out;rw[HN.out,List.take_length] at this;exact this
     have HF:=hid hfin;clear hfin hil;go_wp2;go_end0;exact⟨rfl,.inl HF.out⟩
theorem uses1ft (l0 sb ib:Nat) (x:Sp) (a b:Int) (va:Option Addr) (n vc:Nat) (l:List Int) (w:World) (J:List Int→World→Prop) (Jx:World→Prop) (HN:Hid (n=l.length)) (hn:n*8≤140737488355328) (H0:Hid (J [] w))
  (HJ:Hid (∀ pre W,J pre W→UsBox W sb ib x a b (.slice va n vc) l))
  (HY:Hid (∀ pre y rest W,usP x a b l=pre++y::rest→J pre W→YieldAt Fence.wide 0 prog l0 #[.int .i64 y] W (yieldEnd (J (pre++[y])) Jx))) (hA:readB x.a a=false) (hB:readB x.b b=true) :
  Calls prog 80 #[.func (.yield l0) #[] #[],.pointer (some ⟨sb,0,none⟩),.pointer (some ⟨ib,0,none⟩)] w fun e W=>e=.returned (.tuple #[])∧(J (usP x a b l) W∨Jx W):=by
 obtain⟨c0,c1,c2,c3,_,_⟩:=HJ.out _ w H0.out;have HA:=hid hA;have HB:=hid hB;have EA:Hid (preA x a=[]):=by show _=_;unfold preA;rw[hA];rfl
 have EB:Hid (preB x b=[b]):=by show _=_;unfold preB;rw[hB];rfl
 have hnm:(n:Int)≤9223372036854775807:=by omega
 clear hA hB
 go_enter func80,ntmps80
 go_upto_region 0 with fail
 refine us_r0ft l0 sb ib x.a x.b a b w _ _ _ _ _ _ _ _ _ _ _ _ _ _ _ _ _ _ _ _ _ _ _ _ _ _ _ _ _ _ _ _ _ _ _ _ _ _ _ _ _ _ _ _ _ _ _ c0 c1 c2 c3 HA.out HB.out (J [b]) Jx (by have:=HY.out [] b (l.filter (· != -1)) w (by rw[usP_eq,EA.out,EB.out];rfl) H0.out;exact this) ?_
 ·intro stop W y6 y7 y8 y9 y10 y11 y12 y13 y14 y15 y16 y17 y18 y19 y20 y21 y22 y23 y24 y25 y26 y27 y28 y29 y30 hst
  have HJ0:Hid (stop=false→J (preA x a++(preB x b++[])) W):=fun h=>by rw[EA.out,EB.out];exact hst.1 h
  have HX0:Hid (stop=true→Jx W):=hst.2;clear hst
  cases stop with
  |true =>
   go_wp2;refine bodyPost_ret (results_none rfl _ _ _) rfl ?_;exact⟨rfl,.inr (HX0.out (by first|trivial|rfl))⟩
  |false =>
   replace HJ0:=hid (HJ0.out (by first|trivial|rfl));obtain⟨_,_,_,_,c6,_⟩:=HJ.out _ W HJ0.out;go_wp2
   go_loopw [35] (fun vv wz=>∃ i:Nat,i≤n∧vv=.int .i64 i∧Hid (J (preA x a++(preB x b++(l.take i).filter (· != -1))) wz)) (fun vv _=>n - (intOf vv).toNat)
   case atStart=>exact⟨0,by omega,rfl,by simpa using HJ0⟩
   case round =>
    obtain⟨i,hi,rfl,HI⟩:=hrel
    rename World=>wz
    clear c6;obtain⟨_,_,_,_,_,hil⟩:=HJ.out _ wz HI.out
    by_cases hin:i<n
    ·have j0:(0:Int)≤i:=by omega
     have j1:(i:Int)<n:=by omega
     have hget:=List.getElem?_eq_getElem (l:=l) (show i<l.length by rw[←HN.out];exact hin)
     generalize l[i]'(by rw[←HN.out];exact hin)=y at hget
     obtain⟨va2,vc2,hv2,_,_,h2⟩:=hil
     cases hv2
     obtain⟨vb,vo,rfl,hc⟩:=h2 (fun e=>by rw[e] at hget;simp at hget);have cx:=hc i y hget;have HG:=hid hget;clear hget hc h2
     cases hq:(y != -1) with
     |false =>
      have HI2:Hid (J (preA x a++(preB x b++(l.take (i+1)).filter (· != -1))) wz):=by
       show J _ _
       rw[filter_succ HG.out,if_neg (by simp only[hq];simp),List.append_nil];exact HI.out
      go_wp2
      go_roundw
      case rel=>exact⟨i+1,by omega,by simp,HI2⟩
      case measure=>simp[intOf];omega
     |true =>
      go_upto_region 4 with fail
      refine us_r4 l0 sb ib y wz _ _ _ _ _ _ _ _ _ _ _ _ _ _ _ _ _ _ _ _ _ _ _ _ _ _ _ _ _ _ _ _ _ _ _ _ _ _ _ _ _ _ _ _ _ _ (J (preA x a++(preB x b++(l.take (i+1)).filter (· != -1)))) Jx hq ?_ ?_
      ·have hy:=HY.out (preA x a++(preB x b++(l.take i).filter (· != -1))) y ((l.drop (i+1)).filter (· != -1)) wz (by
        rw[usP_eq,filter_at HG.out,if_pos (by simpa using hq)];simp) HI.out
       have e:(preA x a++(preB x b++(l.take i).filter (· != -1)))++[y]=preA x a++(preB x b++(l.take (i+1)).filter (· != -1)):=by
        rw[filter_succ HG.out,if_pos (by simpa using hq)];simp
       rw[e] at hy;exact hy
      ·intro stop W2 y39 y40 y41 y42 y43 y44 y45 h2
       have HS1:Hid (stop=false→J (preA x a++(preB x b++(l.take (i+1)).filter (· != -1))) W2):=h2.1;have HS2:Hid (stop=true→Jx W2):=h2.2;clear h2 cx
       cases stop with
       |true =>
        go_wp2;refine bodyPost_ret (results_none rfl _ _ _) rfl ?_;exact⟨rfl,.inr (HS2.out (by first|trivial|rfl))⟩
       |false =>
        go_wp2
        go_roundw
        case rel=>exact⟨i+1,by omega,by simp,hid (HS1.out (by first|trivial|rfl))⟩
        case measure=>simp[intOf];omega
    ·obtain rfl:n=i:=by omega
     have hfin:J (usP x a b l) wz:=by
      have:=HI.out;rw[HN.out,List.take_length] at this;exact this
     have HF:=hid hfin;clear hfin hil;go_wp2;go_end0;exact⟨rfl,.inl HF.out⟩
theorem uses1tt (l0 sb ib:Nat) (x:Sp) (a b:Int) (va:Option Addr) (n vc:Nat) (l:List Int) (w:World) (J:List Int→World→Prop) (Jx:World→Prop) (HN:Hid (n=l.length)) (hn:n*8≤140737488355328) (H0:Hid (J [] w))
  (HJ:Hid (∀ pre W,J pre W→UsBox W sb ib x a b (.slice va n vc) l))
  (HY:Hid (∀ pre y rest W,usP x a b l=pre++y::rest→J pre W→YieldAt Fence.wide 0 prog l0 #[.int .i64 y] W (yieldEnd (J (pre++[y])) Jx))) (hA:readB x.a a=true) (hB:readB x.b b=true) :
  Calls prog 80 #[.func (.yield l0) #[] #[],.pointer (some ⟨sb,0,none⟩),.pointer (some ⟨ib,0,none⟩)] w fun e W=>e=.returned (.tuple #[])∧(J (usP x a b l) W∨Jx W):=by
 obtain⟨c0,c1,c2,c3,_,_⟩:=HJ.out _ w H0.out;have HA:=hid hA;have HB:=hid hB;have EA:Hid (preA x a=[a]):=by show _=_;unfold preA;rw[hA];rfl
 have EB:Hid (preB x b=[b]):=by show _=_;unfold preB;rw[hB];rfl
 have hnm:(n:Int)≤9223372036854775807:=by omega
 clear hA hB
 go_enter func80,ntmps80
 go_upto_region 0 with fail
 refine us_r0tt l0 sb ib x.a x.b a b w _ _ _ _ _ _ _ _ _ _ _ _ _ _ _ _ _ _ _ _ _ _ _ _ _ _ _ _ _ _ _ _ _ _ _ _ _ _ _ _ _ _ _ _ _ _ _ c0 c1 c2 c3 HA.out HB.out (J [a]) (J [a,b]) Jx (by have:=HY.out [] a (preB x b++l.filter (· != -1)) w (by rw[usP_eq,EA.out];rfl) H0.out;exact this) (fun W hW=>by have:=HY.out [a] b (l.filter (· != -1)) W (by rw[usP_eq,EA.out,EB.out];rfl) hW;exact this) (fun W hW=>by obtain⟨_,d1,_,d3,_,_⟩:=HJ.out _ W hW;exact⟨d1,d3⟩) ?_
 ·intro stop W y6 y7 y8 y9 y10 y11 y12 y13 y14 y15 y16 y17 y18 y19 y20 y21 y22 y23 y24 y25 y26 y27 y28 y29 y30 hst
  have HJ0:Hid (stop=false→J (preA x a++(preB x b++[])) W):=fun h=>by rw[EA.out,EB.out];exact hst.1 h
  have HX0:Hid (stop=true→Jx W):=hst.2;clear hst
  cases stop with
  |true =>
   go_wp2;refine bodyPost_ret (results_none rfl _ _ _) rfl ?_;exact⟨rfl,.inr (HX0.out (by first|trivial|rfl))⟩
  |false =>
   replace HJ0:=hid (HJ0.out (by first|trivial|rfl));obtain⟨_,_,_,_,c6,_⟩:=HJ.out _ W HJ0.out;go_wp2
   go_loopw [35] (fun vv wz=>∃ i:Nat,i≤n∧vv=.int .i64 i∧Hid (J (preA x a++(preB x b++(l.take i).filter (· != -1))) wz)) (fun vv _=>n - (intOf vv).toNat)
   case atStart=>exact⟨0,by omega,rfl,by simpa using HJ0⟩
   case round =>
    obtain⟨i,hi,rfl,HI⟩:=hrel
    rename World=>wz
    clear c6;obtain⟨_,_,_,_,_,hil⟩:=HJ.out _ wz HI.out
    by_cases hin:i<n
    ·have j0:(0:Int)≤i:=by omega
     have j1:(i:Int)<n:=by omega
     have hget:=List.getElem?_eq_getElem (l:=l) (show i<l.length by rw[←HN.out];exact hin)
     generalize l[i]'(by rw[←HN.out];exact hin)=y at hget
     obtain⟨va2,vc2,hv2,_,_,h2⟩:=hil
     cases hv2
     obtain⟨vb,vo,rfl,hc⟩:=h2 (fun e=>by rw[e] at hget;simp at hget);have cx:=hc i y hget;have HG:=hid hget;clear hget hc h2
     cases hq:(y != -1) with
     |false =>
      have HI2:Hid (J (preA x a++(preB x b++(l.take (i+1)).filter (· != -1))) wz):=by
       show J _ _
       rw[filter_succ HG.out,if_neg (by simp only[hq];simp),List.append_nil];exact HI.out
      go_wp2
      go_roundw
      case rel=>exact⟨i+1,by omega,by simp,HI2⟩
      case measure=>simp[intOf];omega
     |true =>
      go_upto_region 4 with fail
      refine us_r4 l0 sb ib y wz _ _ _ _ _ _ _ _ _ _ _ _ _ _ _ _ _ _ _ _ _ _ _ _ _ _ _ _ _ _ _ _ _ _ _ _ _ _ _ _ _ _ _ _ _ _ (J (preA x a++(preB x b++(l.take (i+1)).filter (· != -1)))) Jx hq ?_ ?_
      ·have hy:=HY.out (preA x a++(preB x b++(l.take i).filter (· != -1))) y ((l.drop (i+1)).filter (· != -1)) wz (by
        rw[usP_eq,filter_at HG.out,if_pos (by simpa using hq)];simp) HI.out
       have e:(preA x a++(preB x b++(l.take i).filter (· != -1)))++[y]=preA x a++(preB x b++(l.take (i+1)).filter (· != -1)):=by
        rw[filter_succ HG.out,if_pos (by simpa using hq)];simp
       rw[e] at hy;exact hy
      ·intro stop W2 y39 y40 y41 y42 y43 y44 y45 h2
       have HS1:Hid (stop=false→J (preA x a++(preB x b++(l.take (i+1)).filter (· != -1))) W2):=h2.1;have HS2:Hid (stop=true→Jx W2):=h2.2;clear h2 cx
       cases stop with
       |true =>
        go_wp2;refine bodyPost_ret (results_none rfl _ _ _) rfl ?_;exact⟨rfl,.inr (HS2.out (by first|trivial|rfl))⟩
       |false =>
        go_wp2
        go_roundw
        case rel=>exact⟨i+1,by omega,by simp,hid (HS1.out (by first|trivial|rfl))⟩
        case measure=>simp[intOf];omega
    ·obtain rfl:n=i:=by omega
     have hfin:J (usP x a b l) wz:=by
      have:=HI.out;rw[HN.out,List.take_length] at this;exact this
     have HF:=hid hfin;clear hfin hil;go_wp2;go_end0;exact⟨rfl,.inl HF.out⟩
theorem uses1_any (l0 sb ib:Nat) (x:Sp) (a b:Int) (va:Option Addr) (n vc:Nat) (l:List Int) (w:World) (J:List Int→World→Prop) (Jx:World→Prop) (HN:Hid (n=l.length)) (hn:n*8≤140737488355328) (H0:Hid (J [] w))
  (HJ:Hid (∀ pre W,J pre W→UsBox W sb ib x a b (.slice va n vc) l))
  (HY:Hid (∀ pre y rest W,usP x a b l=pre++y::rest→J pre W→YieldAt Fence.wide 0 prog l0 #[.int .i64 y] W (yieldEnd (J (pre++[y])) Jx))) :
  Calls prog 80 #[.func (.yield l0) #[] #[],.pointer (some ⟨sb,0,none⟩),.pointer (some ⟨ib,0,none⟩)] w fun e W=>e=.returned (.tuple #[])∧(J (usP x a b l) W∨Jx W):=by
 cases hA:readB x.a a<;>cases hB:readB x.b b
 ·exact uses1ff l0 sb ib x a b va n vc l w J Jx HN hn H0 HJ HY hA hB
 ·exact uses1ft l0 sb ib x a b va n vc l w J Jx HN hn H0 HJ HY hA hB
 ·exact uses1tf l0 sb ib x a b va n vc l w J Jx HN hn H0 HJ HY hA hB
 ·exact uses1tt l0 sb ib x a b va n vc l w J Jx HN hn H0 HJ HY hA hB
theorem succs1_any (l0 ib:Nat) (op s t:Int) (w:World) (J:List Int→World→Prop) (Jx:World→Prop) (H0:Hid (J [] w)) (HJ:Hid (∀ pre W,J pre W→SuBox W ib op s t))
  (HY:Hid (∀ pre y rest W,succsF op s t=pre++y::rest→J pre W→YieldAt Fence.wide 0 prog l0 #[.int .i64 y] W (yieldEnd (J (pre++[y])) Jx))) :
  Calls prog 78 #[.func (.yield l0) #[] #[],.pointer (some ⟨ib,0,none⟩)] w fun e W=>e=.returned (.tuple #[])∧(J (succsF op s t) W∨Jx W):=by
 obtain⟨c0,c7,c8⟩:=HJ.out _ w H0.out
 by_cases h12:op=12
 ·subst h12
  go_enter func78,ntmps78
  go_wp2;refine bodyPost_ret (results_none rfl _ _ _) rfl ?_;exact⟨rfl,.inl H0.out⟩
 ·have q12:(op==12)=false:=by simpa using h12
  have E1:Hid (op=11→succsF op s t=[s,t]):=fun h=>by unfold succsF;rw[if_neg h12,if_pos h]
  have E2:Hid (op≠11→succsF op s t=[s]):=fun h=>by unfold succsF;rw[if_neg h12,if_neg h]
  have HY1:YieldAt Fence.wide 0 prog l0 #[.int .i64 s] w (yieldEnd (J [s]) Jx):=by
   by_cases h:op=11
   ·exact HY.out [] s [t] w (E1.out h) H0.out
   ·exact HY.out [] s [] w (E2.out h) H0.out
  clear h12
  go_enter func78,ntmps78
  go_upto_region 1 with fail
  refine su_r1 l0 ib op s w _ _ _ _ _ _ _ _ _ _ _ _ _ _ _ _ _ _ _ (J [s]) Jx c7 (fun W hW=>(HJ.out _ W hW).1) HY1 ?_;intro go W y6 y7 y8 y9 y10 y11 y12 y13 hgo;have HG:=hid hgo;clear hgo HY1
  by_cases h11:op=11
  ·have q:(op==11)=true:=by simpa using h11
   cases go with
   |true =>
    have HJ1:Hid (J [s] W):=by
     rcases HG.out with h|h
     ·exact h.1
     ·exact absurd h.2 (by simp)
    have HY2:YieldAt Fence.wide 0 prog l0 #[.int .i64 t] W (yieldEnd (J [s,t]) Jx):=HY.out [s] t [] W (E1.out h11) HJ1.out;have d8:=(HJ.out _ W HJ1.out).2.2;have ES:=hid (E1.out h11);clear h11 c0 c7 c8
    go_upto_region 2 with fail
    refine su_r2 l0 ib t W _ _ _ _ _ _ _ _ _ _ _ _ _ _ _ _ _ _ (J [s,t]) Jx d8 HY2 ?_;intro W2 y15 y16 y17 y18 h2;have H2:=hid h2;clear h2 d8 HY2;go_wp2;go_end0;refine⟨rfl,?_⟩;rw[ES.out];exact H2.out
   |false =>
    have HX:Hid (Jx W):=by
     rcases HG.out with h|h
     ·exact absurd h.2 (by rw[q];simp)
     ·exact h.1
    clear h11;go_wp2;go_end0;exact⟨rfl,.inr HX.out⟩
  ·have q:(op==11)=false:=by simpa using h11
   have ES:=hid (E2.out h11)
   have HG2:Hid (go=false∧(J [s] W∨Jx W)):=by
    rcases HG.out with h|h
    ·exact⟨by rw[h.2,q],.inl h.1⟩
    ·exact⟨h.2,.inr h.1⟩
   obtain rfl:=HG2.out.1;clear h11;go_wp2;go_end0;refine⟨rfl,?_⟩;rw[ES.out];exact HG2.out.2
set_option maxHeartbeats 4000000
def retUs2 (x:Sp) (a b:Int) (l:List Int) (w:World):Ending→World→Prop:=fun e w'=>∃ sb ib v,e=.returned (.func (.func 80) #[] #[.pointer (some ⟨sb,0,none⟩),.pointer (some ⟨ib,0,none⟩)])∧UsBox w' sb ib x a b v l∧Below w.heap.size w w'∧w.heap.size≤sb∧w.heap.size≤ib∧∀ b o s n c,v=.slice (some ⟨b,o,s⟩) n c→w.heap.size≤b
theorem uses_made2 (op sub a b d k:Int) (va:Option Addr) (vn vc:Nat) (s t:Int) (l:List Int) (x:Sp) (w:World) (HX:Hid (shOf op=x)) (HT:Hid (ShTab w)) (HV:Hid (IL w (.slice va vn vc) l)) :
  Calls prog 50 #[.agg #[.int .i64 op,.int .i64 sub,.int .i64 a,.int .i64 b,.int .i64 d,.int .i64 k,.slice va vn vc,.int .i64 s,.int .i64 t]] w (retUs2 x a b (if x.args=true then l else []) w):=by
 have hmf:∀ (fn:Go.Fn) (first cap:Array Value) (w:World),(Instr.makeFunc fn first cap).run prog w=.ok (.func fn first cap) w:=fun _ _ _ _=>rfl;obtain⟨xn,xs,xa,xb,xd,xk,xg,xs1,xt⟩:=x
 go_enter func50,ntmps50
 cases xg with
 |true =>
  go_wp2_with (go_at_call 79;refine(shapeOf_any _ _ (HT.out.keep (bel_alloc (Below.refl _ _) _))).mono ?_;rintro e w1 ⟨rfl,hb1⟩;rw[HX.out];simp only[spV];have i2:=keep_cell hb1 (p:=⟨w.heap.size,2,none⟩) (v:=.int .i64 a) (by simp);have i3:=keep_cell hb1 (p:=⟨w.heap.size,3,none⟩) (v:=.int .i64 b) (by simp);have i6:=keep_cell hb1 (p:=⟨w.heap.size,6,none⟩) (v:=.slice va vn vc) (by simp);have z6:=keep_frozen hb1 (p:=⟨w.heap.size,6,none⟩) (v:=.slice va vn vc) (by simp) (by simp);have hs1:w.heap.size<w1.heap.size:=(by have:=hb1.size;simp at this;omega))
  refine(gclone_any (HV.out.keep (by repeat(first|(with_reducible first|exact Below.refl _ _|refine bel_alloc ?_ _|refine bel_set ?_ (by first|exact Nat.le_refl _|(simp;done)|(simp;omega)) _|refine Below.drew ?_)|refine bel_trans ?_ (by assumption))))).mono ?_;rintro e w2 ⟨v2,rfl,hil,hfr,hb2⟩;have j2:=keep_cell hb2 (p:=⟨w.heap.size,2,none⟩) (keep_alloc i2 _);have j3:=keep_cell hb2 (p:=⟨w.heap.size,3,none⟩) (keep_alloc i3 _);have j6:=keep_cell hb2 (p:=⟨w.heap.size,6,none⟩) (keep_alloc i6 _);have y6:=keep_frozen hb2 (keep_alloc i6 _) (keep_frozen (bel_alloc (Below.refl _ _) _) i6 z6);have s2:=keep_cell hb2 (p:=⟨w1.heap.size,2,none⟩) (v:=.int .i64 xa) (by simp);have s3:=keep_cell hb2 (p:=⟨w1.heap.size,3,none⟩) (v:=.int .i64 xb) (by simp);have s6:=keep_cell hb2 (p:=⟨w1.heap.size,6,none⟩) (v:=.bool true) (by simp);obtain⟨a2,c2,rfl,hlen2⟩:=len_parts hil;have HIL:=hid hil;have HFR:=hid hfr;have hs2:w1.heap.size<w2.heap.size:=(by have:=hb2.size;simp at this;omega);have HBB:Hid (Below w.heap.size w w2):=hid (by repeat(first|(with_reducible first|exact Below.refl _ _|refine bel_alloc ?_ _|refine bel_set ?_ (by first|exact Nat.le_refl _|(simp;done)|(simp;omega)) _|refine Below.drew ?_)|refine bel_trans ?_ (by assumption)));clear hil hfr hb2 i2 i3 i6 z6;go_wp2;go_ret;refine⟨_,_,.slice a2 l.length c2,rfl,⟨by go_simp,by go_simp,by go_simp,by go_simp,by go_simp,?_⟩,HBB.out.setCell (by simp) _,by omega,Nat.le_refl _,fun b o s n c h=>by have:=HFR.out b o s n c h;simp at this;omega⟩;exact HIL.out.set (fun b o s n c h=>by have:=HFR.out b o s n c h;simp at this ⊢;omega)
 |false =>
  go_wp2_with (go_at_call 79;refine(shapeOf_any _ _ (HT.out.keep (bel_alloc (Below.refl _ _) _))).mono ?_;rintro e w1 ⟨rfl,hb1⟩;rw[HX.out];simp only[spV];have i2:=keep_cell hb1 (p:=⟨w.heap.size,2,none⟩) (v:=.int .i64 a) (by simp);have i3:=keep_cell hb1 (p:=⟨w.heap.size,3,none⟩) (v:=.int .i64 b) (by simp);have i6:=keep_cell hb1 (p:=⟨w.heap.size,6,none⟩) (v:=.slice va vn vc) (by simp);have z6:=keep_frozen hb1 (p:=⟨w.heap.size,6,none⟩) (v:=.slice va vn vc) (by simp) (by simp);have hs1:w.heap.size<w1.heap.size:=(by have:=hb1.size;simp at this;omega))
  refine(gclone_any (HV.out.keep (by repeat(first|(with_reducible first|exact Below.refl _ _|refine bel_alloc ?_ _|refine bel_set ?_ (by first|exact Nat.le_refl _|(simp;done)|(simp;omega)) _|refine Below.drew ?_)|refine bel_trans ?_ (by assumption))))).mono ?_;rintro e w2 ⟨v2,rfl,hil,hfr,hb2⟩;have j2:=keep_cell hb2 (p:=⟨w.heap.size,2,none⟩) (keep_alloc i2 _);have j3:=keep_cell hb2 (p:=⟨w.heap.size,3,none⟩) (keep_alloc i3 _);have j6:=keep_cell hb2 (p:=⟨w.heap.size,6,none⟩) (keep_alloc i6 _);have y6:=keep_frozen hb2 (keep_alloc i6 _) (keep_frozen (bel_alloc (Below.refl _ _) _) i6 z6);have s2:=keep_cell hb2 (p:=⟨w1.heap.size,2,none⟩) (v:=.int .i64 xa) (by simp);have s3:=keep_cell hb2 (p:=⟨w1.heap.size,3,none⟩) (v:=.int .i64 xb) (by simp);have s6:=keep_cell hb2 (p:=⟨w1.heap.size,6,none⟩) (v:=.bool false) (by simp);obtain⟨a2,c2,rfl,hlen2⟩:=len_parts hil;have HIL:=hid hil;have HFR:=hid hfr;have hs2:w1.heap.size<w2.heap.size:=(by have:=hb2.size;simp at this;omega);have HBB:Hid (Below w.heap.size w w2):=hid (by repeat(first|(with_reducible first|exact Below.refl _ _|refine bel_alloc ?_ _|refine bel_set ?_ (by first|exact Nat.le_refl _|(simp;done)|(simp;omega)) _|refine Below.drew ?_)|refine bel_trans ?_ (by assumption)));clear hil hfr hb2 i2 i3 i6 z6;go_wp2;go_ret;refine⟨_,_,.slice none 0 0,rfl,⟨by go_simp,by go_simp,by go_simp,by go_simp,by go_simp,?_⟩,(HBB.out.setCell (by simp) _).setCell (by simp) _,by omega,Nat.le_refl _,fun b o s n c h=>by cases h⟩;exact IL.nil _
end Go.Proofs.YtaimifnppackgaaGreatDoor
