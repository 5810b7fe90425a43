import Derived.Test.YtaimifnppackgaaGreatDoorGTakes3
namespace Go.Proofs.YtaimifnppackgaaGreatDoor
open Go.ChangeShapes Go.WideShapes Go.ChangeAt Go.RowKit Go.Proofs.Tryz
set_option linter.all false
structure TX (w W0:World) (B1:Nat) (r:Loop) (W:World):Prop where
 bel:Below w.heap.size w W
 res:W.cell? ⟨B1,0,none⟩=some (.bool false)
 rest:∀ k,k<W0.heap.size→k≠B1→W.heap[k]? = W0.heap[k]?
 dfr:W.heap[W0.heap.size]? = some (.deferred (some []))
 lp:W.heap[W0.heap.size+1]? = some (.loop { r with state:=.done,pending:=some .ret })
theorem all_snoc {f:Int→Bool} {pre:List Int} {y:Int} (h:pre.all f=true) (hy:f y=true):(pre++[y]).all f=true:=by
 rw[List.all_append,h];simp[hy]
theorem all_mid {f:Int→Bool} {l pre rest:List Int} {y:Int} (e:l=pre++y::rest) (hy:f y=false):l.all f=false:=by
 rw[e,List.all_append];simp[hy]
theorem tk_run0 (w W0:World) (r:Loop) (B1 sb ib:Nat) (x:Sp) (a b:Int) (v:Value) (l:List Int) (bnd:Int) (hus:UsBox W0 sb ib x a b v l)
  (HRD:∀ y W,TJ W0 r W→YieldAt Fence.wide 0 prog (W0.heap.size+1) #[.int .i64 y] W (yieldEnd (fun W'=>TJ W0 r W'∧inB bnd y=true) (fun W'=>TX w W0 B1 r W'∧inB bnd y=false))) :
  Calls prog 80 #[.func (.yield (W0.heap.size+1)) #[] #[],.pointer (some ⟨sb,0,none⟩),.pointer (some ⟨ib,0,none⟩)] (loopW W0 r) fun e W=>e=.returned (.tuple #[])∧((TJ W0 r W∧(usP x a b l).all (inB bnd)=true)∨(TX w W0 B1 r W∧(usP x a b l).all (inB bnd)=false)):=by
 obtain⟨h0,h1,h2,h3,h4,h5⟩:=hus;obtain⟨va,vc,vb,vo,rfl,hl,_,_⟩:=h5.parts;refine uses1_any (W0.heap.size+1) sb ib x a b va l.length vc l (loopW W0 r) (fun pre W=>TJ W0 r W∧pre.all (inB bnd)=true) (fun W=>TX w W0 B1 r W∧(usP x a b l).all (inB bnd)=false) rfl hl ⟨TJ.enter W0 r,rfl⟩ (fun pre W hJ=>UsBox.keep ⟨h0,h1,h2,h3,h4,h5⟩ hJ.1.bel) ?_;intro pre y rest W e hJ;obtain⟨fn,tm,asg,bo,hy,hR⟩:=HRD y W hJ.1;refine⟨fn,tm,asg,bo,hy,hR.mono ?_⟩;rintro e2 W' ⟨bb,rfl,ht,hf⟩;exact⟨bb,rfl,fun hb=>⟨(ht hb).1,all_snoc hJ.2 (ht hb).2⟩,fun hb=>⟨(hf hb).1,all_mid e (hf hb).2⟩⟩
theorem tk_run1 (w W0:World) (r:Loop) (B1 ib:Nat) (op s t bnd:Int) (hsu:SuBox W0 ib op s t)
  (HRD:∀ y W,TJ W0 r W→YieldAt Fence.wide 0 prog (W0.heap.size+1) #[.int .i64 y] W (yieldEnd (fun W'=>TJ W0 r W'∧inB bnd y=true) (fun W'=>TX w W0 B1 r W'∧inB bnd y=false))) :
  Calls prog 78 #[.func (.yield (W0.heap.size+1)) #[] #[],.pointer (some ⟨ib,0,none⟩)] (loopW W0 r) fun e W=>e=.returned (.tuple #[])∧((TJ W0 r W∧(succsF op s t).all (inB bnd)=true)∨(TX w W0 B1 r W∧(succsF op s t).all (inB bnd)=false)):=by
 refine succs1_any (W0.heap.size+1) ib op s t (loopW W0 r) (fun pre W=>TJ W0 r W∧pre.all (inB bnd)=true) (fun W=>TX w W0 B1 r W∧(succsF op s t).all (inB bnd)=false) ⟨TJ.enter W0 r,rfl⟩ (fun pre W hJ=>hsu.keep hJ.1.bel) ?_;intro pre y rest W e hJ;obtain⟨fn,tm,asg,bo,hy,hR⟩:=HRD y W hJ.1;refine⟨fn,tm,asg,bo,hy,hR.mono ?_⟩;rintro e2 W' ⟨bb,rfl,ht,hf⟩;exact⟨bb,rfl,fun hb=>⟨(ht hb).1,all_snoc hJ.2 (ht hb).2⟩,fun hb=>⟨(hf hb).1,all_mid e (hf hb).2⟩⟩
theorem TJ.again {W0 W W':World} {r:Loop} (h:TJ W0 r W) (h1:∀ k,k≠W0.heap.size+1→W'.heap[k]? = W.heap[k]?) (h2:W'.heap[W0.heap.size+1]? = some (.loop r)) (h3:W'.heap.size=W.heap.size) (h4:W'.os=W.os) (h5:W'.tape=W.tape) (h6:W'.output=W.output):TJ W0 r W' :=
 ⟨⟨h4.trans h.bel.os,h5.trans h.bel.tape,h6.trans h.bel.output,by rw[h3];exact h.bel.size,fun k hk=>(h1 k (by omega)).trans (h.bel.block k hk)⟩,(h1 _ (by omega)).trans h.dfr,h2⟩
theorem TJ.leave {w W0 W W':World} {r:Loop} {B1:Nat} (h:TJ W0 r W) (hw:Below w.heap.size w W0) (hB:w.heap.size≤B1) (hB2:B1<W0.heap.size) (h1:∀ k,k≠W0.heap.size+1→k≠B1→W'.heap[k]? = W.heap[k]?) (hc:W'.cell? ⟨B1,0,none⟩=some (.bool false)) (h2:W'.heap[W0.heap.size+1]? = some (.loop { r with state:=.done,pending:=some .ret })) (h3:W'.heap.size=W.heap.size) (h4:W'.os=W.os) (h5:W'.tape=W.tape) (h6:W'.output=W.output):TX w W0 B1 r W' :=
 ⟨⟨h4.trans (h.bel.os.trans hw.os),h5.trans (h.bel.tape.trans hw.tape),h6.trans (h.bel.output.trans hw.output),by rw[h3];exact Nat.le_trans hw.size h.bel.size,fun k hk=>(h1 k (by have:=hw.size;omega) (by omega)).trans ((h.bel.block k (by have:=hw.size;omega)).trans (hw.block k hk))⟩,hc,fun k hk hk1=>(h1 k (by omega) hk1).trans (h.bel.block k hk),(h1 _ (by omega) (by omega)).trans h.dfr,h2⟩
def glackS (x:Sp) (a b:Int) (l:List Int):Bool:=lackB x.a a||lackB x.b b||(x.args&&l.contains (-1))
def gnameB (x:Sp):Bool:=x.name.data.toList.isEmpty
def glastB (x:Sp) (op sub d k regs frame:Int):Bool:=targetB x.d d regs&&mayB x.sub sub&&(op != 9||withinB k frame)
def takesF (regs frame n:Int) (i:Ins):Bool :=
 !gnameB (shOf i.op)&&(!glackS (shOf i.op) i.a i.b i.args&&((usP (shOf i.op) i.a i.b (if (shOf i.op).args=true then i.args else [])).all (inB regs)&&((succsF i.op i.s i.t).all (inB n)&&glastB (shOf i.op) i.op i.sub i.d i.k regs frame)))
theorem filter_none {l:List Int} (h:l.contains (-1)=false):l.filter (· != -1)=l:=by
 rw[List.filter_eq_self];intro x hx
 have:x≠-1:=fun e=>by
  subst e;rw[←List.contains_iff_mem,h] at hx
  cases hx
 simpa using this
theorem inB_neg {m:Int}:inB m (-1)=false:=by simp[inB]
theorem all_neg {m:Int} {l:List Int} (h:l.contains (-1)=true):l.all (inB m)=false:=by
 rw[List.contains_iff_mem] at h;exact List.all_eq_false.2 ⟨-1,h,by simp[inB_neg]⟩
theorem takes_right (regs frame n:Int) (i:Ins) (h0:0≤regs):takesF regs frame n i=rightF regs frame n i:=by
 obtain⟨op,sub,a,b,d,k,args,s,t⟩:=i
 by_cases h10:op=10
 ·subst h10
  cases hc:args.contains (-1) with
  |true =>
   have e1:takesF regs frame n ⟨10,sub,a,b,d,k,args,s,t⟩=false:=by
    have:(glackS (shOf 10) a b args)=true:=by
     show (lackB 0 a||lackB 0 b||(true&&args.contains (-1)))=true
     rw[hc];simp
    rw[takesF];simp only[this,Bool.not_true,Bool.false_and,Bool.and_false]
   have e2:rightF regs frame n ⟨10,sub,a,b,d,k,args,s,t⟩=false:=by
    rw[rightF,rightL]
    have:(usesF 10 a b args).all (inB regs)=false:=by
     have hu:usesF 10 a b args=args:=by simp[usesF,useA,useB]
     rw[hu];exact all_neg hc
    simp only[this,Bool.false_and,Bool.and_false]
   rw[e1,e2]
  |false =>
   have hf:=filter_none hc
   have hu:usP (shOf 10) a b (if (shOf 10).args=true then args else [])=args:=by
    show (if readB 0 a=true then [a] else [])++((if readB 0 b=true then [b] else [])++args.filter (· != -1))=args
    rw[hf];simp[readB]
   have hl:glackS (shOf 10) a b args=false:=by
    show (lackB 0 a||lackB 0 b||(true&&args.contains (-1)))=false
    rw[hc];simp[lackB]
   have hu2:usesF 10 a b args=args:=by simp[usesF,useA,useB]
   rw[takesF,rightF,rightL];simp only[hu,hl,hu2];rw[Bool.eq_iff_iff];simp[shOf,spTab,gnameB,targetB,mayB,subOk,needA,needB,needD,writesF,wrOps,succsF,inB,glastB,lackL]
   constructor
   ·rintro⟨h1,h2,h3⟩
    refine⟨by omega,h1,by omega,h2⟩
   ·rintro⟨h1,h2,h3,h4⟩
    exact⟨h2,h4,by omega⟩
 rcases op_cases op with rfl|rfl|rfl|rfl|rfl|rfl|rfl|rfl|rfl|rfl|rfl|rfl|rfl|rfl|ho
 case inr.inr.inr.inr.inr.inr.inr.inr.inr.inr.inr.inr.inr.inr =>
  have e1:gnameB (shOf op)=true:=by
   by_cases h:op=0
   ·subst h;rfl
   ·rw[shOf_none (by omega)];rfl
  have e2:subOk op sub k frame=false:=by
   unfold subOk;rw[if_neg (by omega),if_neg (by omega),if_neg (by omega),if_neg (by omega),if_neg (by omega)];simp
   omega
  rw[takesF,rightF,rightL];simp only[e1,e2,Bool.not_true,Bool.false_and,Bool.and_false]
 all_goals first
  |exact absurd rfl h10
  |(by_cases ha:a = -1<;>by_cases hb:b = -1<;>(rw[Bool.eq_iff_iff];simp[takesF,rightF,rightL,lackL,shOf,spTab,gnameB,glackS,usP,usesF,useA,useB,readB,lackB,targetB,mayB,subOk,needA,needB,needD,writesF,wrOps,succsF,inB,glastB,withinB,ha,hb];try omega))
set_option maxRecDepth 100000
set_option maxHeartbeats 20000000
theorem wp_calmG {P:Program} {c:Code} {K:Act→World→Prop} {QQ:Exit→Act→World→Prop} {a:Act} {w:World} (h:Code.wp P c (Exit.then K (fun _ _ _=>False)) a w):Code.wp P c (Exit.then K QQ) a w :=
 Go.wp_mono h (fun e a w hq=>by cases e<;>first|exact hq|exact hq.elim)
def Giv (ib io fb fo:Nat) (op sub a b d k:Int) (va:Option Addr) (vn vc:Nat) (s t regs frame:Int) (ca:Option Addr) (n cap:Nat) (W:World):Prop:=W.cell? ⟨ib,io,none⟩=some (.int .i64 op)∧W.cell? ⟨ib,io+1,none⟩=some (.int .i64 sub)∧W.cell? ⟨ib,io+2,none⟩=some (.int .i64 a)∧W.cell? ⟨ib,io+3,none⟩=some (.int .i64 b)∧W.cell? ⟨ib,io+4,none⟩=some (.int .i64 d)∧W.cell? ⟨ib,io+5,none⟩=some (.int .i64 k)∧W.cell? ⟨ib,io+6,none⟩=some (.slice va vn vc)∧W.cell? ⟨ib,io+7,none⟩=some (.int .i64 s)∧W.cell? ⟨ib,io+8,none⟩=some (.int .i64 t)∧W.cell? ⟨fb,fo+2,none⟩=some (.int .i64 regs)∧W.cell? ⟨fb,fo+3,none⟩=some (.int .i64 frame)∧W.cell? ⟨fb,fo+5,none⟩=some (.slice ca n cap)
theorem Giv.keep {ib io fb fo:Nat} {op sub a b d k:Int} {va:Option Addr} {vn vc:Nat} {s t regs frame:Int} {ca:Option Addr} {n cap:Nat} {W W':World} (h:Giv ib io fb fo op sub a b d k va vn vc s t regs frame ca n cap W) (hb:Below W.heap.size W W'):Giv ib io fb fo op sub a b d k va vn vc s t regs frame ca n cap W':=by
 obtain⟨e0,e1,e2,e3,e4,e5,e6,e7,e8,f2,f3,f5⟩:=h;exact⟨keep_cell hb e0,keep_cell hb e1,keep_cell hb e2,keep_cell hb e3,keep_cell hb e4,keep_cell hb e5,keep_cell hb e6,keep_cell hb e7,keep_cell hb e8,keep_cell hb f2,keep_cell hb f3,keep_cell hb f5⟩
theorem takes_walk (fb fo ib io:Nat) (regs frame:Int) (n cap:Nat) (ca:Option Addr) (op sub a b d k:Int) (va:Option Addr) (vn vc:Nat) (s t:Int) (args:List Int) (x:Sp) (r:Bool) (w:World)
  (HX:Hid (shOf op=x)) (HT:Hid (ShTab w)) (HG:Hid (Giv ib io fb fo op sub a b d k va vn vc s t regs frame ca n cap w)) (HV:Hid (IL w (.slice va vn vc) args)) (r0:0≤regs) (r1:regs≤5000) (hn:(n:Int)≤9223372036854775807)
  (HE:Hid (r=(!gnameB x&&(!glackS x a b args&&((usP x a b (if x.args=true then args else [])).all (inB regs)&&((succsF op s t).all (inB n)&&glastB x op sub d k regs frame)))))) :
  Calls prog 77 #[.pointer (some ⟨fb,fo,none⟩),.pointer (some ⟨ib,io,none⟩)] w (retP (.bool r) w):=by
 refine callsIn_wide.1 (callsIn_of_wp_marks (n:=3) func77 rfl trivial ?_);simp only[ntmps77,List.size_toArray,List.length_cons,List.length_nil,Nat.reduceAdd,Nat.reduceSub,Array.replicate_succ,Array.replicate_zero,List.push_toArray,List.append_toArray,List.nil_append,List.cons_append];refine wpIn_wide.2 ?_;obtain⟨e0,e1,e2,e3,e4,e5,e6,e7,e8,f2,f3,f5⟩:=HG.out;have il:ib<w.heap.size:=block_lt_of_cell e0;have fl:fb<w.heap.size:=block_lt_of_cell f2
 go_upto_region 2 with (go_at_call 79;refine(shapeOf_any op _ (HT.out.keep (by repeat(first|(with_reducible first|exact Below.refl _ _|refine bel_alloc ?_ _|refine bel_set ?_ (by first|exact Nat.le_refl _|(simp;done)|(simp;omega)) _|refine Below.drew ?_)|refine bel_trans ?_ (by assumption))))).mono ?_;rintro e w1 ⟨rfl,hb1⟩;rw[HX.out];simp only[spV];have HB1:Hid (Below w.heap.size w w1):=hid (bel_trans (by repeat(first|(with_reducible first|exact Below.refl _ _|refine bel_alloc ?_ _|refine bel_set ?_ (by first|exact Nat.le_refl _|(simp;done)|(simp;omega)) _|refine Below.drew ?_)|refine bel_trans ?_ (by assumption))) hb1);have b0:=keep_cell hb1 (p:=⟨w.heap.size,0,none⟩) (v:=.pointer (some ⟨fb,fo,none⟩)) (by simp);have b1:=keep_cell hb1 (p:=⟨w.heap.size+1,0,none⟩) (v:=.bool false) (by simp);have z1:=keep_frozen hb1 (p:=⟨w.heap.size+1,0,none⟩) (v:=.bool false) (by simp) (by simp);have hs1:w.heap.size+2≤w1.heap.size:=(by have:=hb1.size;simp at this;omega);clear hb1)
 refine gwp_named (fun W=>Below w.heap.size w W∧W.cell? ⟨w.heap.size,0,none⟩=some (.pointer (some ⟨fb,fo,none⟩))∧W.cell? ⟨w.heap.size+1,0,none⟩=some (.bool false)∧W.frozen? ⟨w.heap.size+1,0,none⟩=false∧W.cell? ⟨w1.heap.size,0,none⟩=some (.string x.name)∧W.cell? ⟨w1.heap.size,1,none⟩=some (.int .i64 x.sub)∧W.cell? ⟨w1.heap.size,2,none⟩=some (.int .i64 x.a)∧W.cell? ⟨w1.heap.size,3,none⟩=some (.int .i64 x.b)∧W.cell? ⟨w1.heap.size,4,none⟩=some (.int .i64 x.d)∧W.cell? ⟨w1.heap.size,5,none⟩=some (.bool x.k)∧W.cell? ⟨w1.heap.size,6,none⟩=some (.bool x.args)∧W.cell? ⟨w1.heap.size,7,none⟩=some (.bool x.s)∧W.cell? ⟨w1.heap.size,8,none⟩=some (.bool x.t)) ⟨bel_alloc HB1.out _,keep_alloc b0 _,keep_alloc b1 _,keep_frozen (bel_alloc (Below.refl _ _) _) b1 z1,by simp,by simp,by simp,by simp,by simp,by simp,by simp,by simp,by simp⟩ ?_
 generalize w1.heap.size=B2 at *
 clear b0 b1 z1 HB1 w1 e0 e1 e2 e3 e4 e5 e6 e7 e8 f2 f3 f5;rintro W ⟨hbW,b0,b1,z1,s0,s1,s2,s3,s4,s5,s6,s7,s8⟩;have HBW:=hid hbW;obtain⟨e0,e1,e2,e3,e4,e5,e6,e7,e8,f2,f3,f5⟩:=HG.out.keep hbW;have HVW:=hid (HV.out.keep hbW);have HTW:=hid (HT.out.keep hbW);have sz:w.heap.size≤W.heap.size:=hbW.size;clear hbW
 cases hnm:gnameB x with
 |true =>
  have er:r=false:=by rw[HE.out,hnm];rfl
  subst er
  have en:x.name=⟨#[]⟩:=by
   have:x.name.data.toList=[]:=List.isEmpty_iff.1 hnm
   cases hx:x.name with
   |mk dta =>
    rw[hx] at this;simp at this;rw[this]
  rw[en] at s0;go_wp2;exact⟨_,(by simp[results,results77,go_sem,b1,z1]),rfl,HBW.out.setCell (Nat.le_succ _) _⟩
 |false =>
  have q1:x.name.toList.isEmpty=false:=by rw[ByteArray.toList_eq];exact hnm
  have HLK:Hid (∀ W',Below W.heap.size W W'→Calls prog 103 #[spV x,.pointer (some ⟨ib,io,none⟩)] W' (retP (.bool (lackS x a b args)) W')):=fun W' hW'=>lacksRegister_any x ib io a b va vn vc args W' (keep_cell hW' e2) (keep_cell hW' e3) (keep_cell hW' e6) (HVW.out.keep hW')
  cases hlk:lackS x a b args with
  |true =>
   rw[hlk] at HLK;have er:r=false:=by rw[HE.out,hnm];simp only[glackS];rw[show (lackB x.a a||lackB x.b b||(x.args&&args.contains (-1)))=true from hlk];rfl
   subst er
   go_wp2_with (go_at_call 103;refine(HLK.out _ (Below.refl _ _)).mono ?_;rintro e w2 ⟨rfl,hb2⟩;replace z1:=keep_frozen hb2 b1 z1;replace b1:=keep_cell hb2 b1;have HB2:=hid (bel_trans HBW.out hb2);clear hb2)
   exact⟨_,(by simp[results,results77,go_sem,b1,z1]),rfl,HB2.out.setCell (Nat.le_succ _) _⟩
  |false =>
   rw[hlk] at HLK
   have HE1:Hid (r=((usP x a b (if x.args=true then args else [])).all (inB regs)&&((succsF op s t).all (inB n)&&glastB x op sub d k regs frame))):=by
    show _=_
    rw[HE.out,hnm];simp only[glackS];rw[show (lackB x.a a||lackB x.b b||(x.args&&args.contains (-1)))=false from hlk];rfl
   clear HE hlk hnm
   go_wp2_with (first|(go_at_call 103;refine(HLK.out _ (Below.refl _ _)).mono ?_;rintro e w2 ⟨rfl,hb2⟩;replace z1:=keep_frozen hb2 b1 z1;replace b0:=keep_cell hb2 b0;replace b1:=keep_cell hb2 b1;replace e0:=keep_cell hb2 e0;replace e1:=keep_cell hb2 e1;replace e2:=keep_cell hb2 e2;replace e3:=keep_cell hb2 e3;replace e4:=keep_cell hb2 e4;replace e5:=keep_cell hb2 e5;replace e6:=keep_cell hb2 e6;replace e7:=keep_cell hb2 e7;replace e8:=keep_cell hb2 e8;replace f2:=keep_cell hb2 f2;replace f3:=keep_cell hb2 f3;replace f5:=keep_cell hb2 f5;replace s1:=keep_cell hb2 s1;replace s4:=keep_cell hb2 s4;have HB2:=hid (bel_trans HBW.out hb2);have HT2:=hid (HTW.out.keep hb2);have HV2:=hid (HVW.out.keep hb2);clear hb2)|(go_at_call 50;refine(uses_made op sub a b d k va vn vc s t args x _ HX HT2 HV2).mono ?_;rintro e w3 ⟨sb,ib2,v3,rfl,hus,hb3⟩;have HUS:=hid hus;have HTK:Hid (TK w fb fo B2 x w3):=hid (TK.keep ⟨HB2.out,b0,b1,z1,s1,s4,hs1⟩ hb3);have HG3:=hid (Giv.keep ⟨e0,e1,e2,e3,e4,e5,e6,e7,e8,f2,f3,f5⟩ hb3);clear hus hb3))
   have HTK0:=HTK;have HG0:=HG3;have HB1L0:Hid (w.heap.size+1<w3.heap.size):=block_lt_of_cell HTK.out.b1;clear b0 b1 z1 s1 s4 e0 e1 e2 e3 e4 e5 e6 e7 e8 f2 f3 f5;refine(wpIn_wide (n:=3)).1 ?_;refine range_outer (F:=Fence.wide) rfl (by omega) (gf:=80) (lb:=#[.pointer (some ⟨sb,0,none⟩),.pointer (some ⟨ib2,0,none⟩)]) (by simp[Act.eval]) trivial (enters_of func80 (by kernel_rfl) rfl) ?_;intro fn _;refine callsIn_wide.2 ?_
   refine(tk_run0 w w3 _ (w.heap.size+1) sb ib2 x a b v3 (if x.args=true then args else []) regs HUS.out (fun y W hW=>by
    have k:=hW.bel;have kTK:=HTK0.out.keep k;obtain⟨ge0,ge1,ge2,ge3,ge4,ge5,ge6,ge7,ge8,gf2,gf3,gf5⟩:=HG0.out.keep k;refine tk_round0 (w3.heap.size+1) w.heap.size (w.heap.size+1) fb fo _ _ regs y _ _ _ _ _ _ _ _ _ _ _ _ _ _ _ _ _ _ _ _ _ _ _ _ _ _ _ _ _ _ _ _ _ _ _ _ _ _ _ _ _ _ _ _ _ _ _ _ _ _ _ _ _ _ _ _ _ _ _ _ _ _ _ _ _ _ _ _ _ _ _ _ W _ hW.lp kTK.b0 kTK.b1 kTK.z1 gf2 (by omega) (by omega) ?_ ?_
    ·intro hin W' h1 h2 h3 h4 h5 h6
     exact⟨true,rfl,(fun _=>⟨hW.again h1 h2 h3 h4 h5 h6,hin⟩),(fun h=>by cases h)⟩
    ·intro hin W' h1 hc h2 h3 h4 h5 h6
     exact⟨false,rfl,(fun h=>by cases h),(fun _=>⟨hW.leave HTK0.out.bel (Nat.le_succ _) HB1L0.out h1 hc h2 h3 h4 h5 h6,hin⟩)⟩)).mono ?_
   rintro e W2 ⟨rfl,⟨hJ,hall⟩|⟨hX,hall⟩⟩
   ·refine⟨⟨_,rfl⟩,_,hJ.lp,by simp[loopRec],.inl ⟨rfl,?_⟩⟩
    have HE2:Hid (r=((succsF op s t).all (inB n)&&glastB x op sub d k regs frame)):=by show _=_;rw[HE1.out,hall];rfl
    refine gq_named (fun W=>TK w fb fo B2 x W∧Giv ib io fb fo op sub a b d k va vn vc s t regs frame ca n cap W∧W.heap[w3.heap.size]? = some (.deferred (some []))∧w3.heap.size+1<W.heap.size) ?_ ?_
    ·have hb4:∀ o,Below w3.heap.size w3 (W2.putObj (w3.heap.size+1) o):=fun o=>hJ.bel.trans (bel_put (Nat.le_succ _))
     exact⟨HTK0.out.keep (hb4 _),HG0.out.keep (hb4 _),(put_other (show w3.heap.size≠w3.heap.size+1 by omega)).trans hJ.dfr,by rw[World.putObj_size];exact(zge hJ.lp).1⟩
    rintro W4 ⟨k1,k2,k3,k4⟩;have HTK4:=hid k1;have HG4:=hid k2;have HD4:=hid k3;obtain⟨e0,e1,e2,e3,e4,e5,e6,e7,e8,f2,f3,f5⟩:=k2;clear k1 k3 hJ hall HE1 HUS HTK HG3
    go_wp2_with (go_at_call 49;refine(succs_made op sub a b d k va vn vc s t _).mono ?_;rintro e w5 ⟨ib3,rfl,hsu,hb5⟩;have HSU:=hid hsu;have HTK1:=hid (HTK4.out.keep hb5);have HG1:=hid (HG4.out.keep hb5);have HD5:Hid (w5.heap[w3.heap.size]? = some (.deferred (some []))):=hid ((hb5.block _ (by omega)).trans HD4.out);have hs5:w3.heap.size+1<w5.heap.size:=Nat.lt_of_lt_of_le k4 hb5.size;clear hsu hb5)
    have HB1L1:Hid (w.heap.size+1<w5.heap.size):=block_lt_of_cell HTK1.out.b1;clear e0 e1 e2 e3 e4 e5 e6 e7 e8 f2 f3 f5;refine(wpIn_wide (n:=3)).1 ?_;refine range_outer (F:=Fence.wide) rfl (by omega) (gf:=78) (lb:=#[.pointer (some ⟨ib3,0,none⟩)]) (by simp[Act.eval]) trivial (enters_of func78 (by kernel_rfl) rfl) ?_;intro fn2 _;refine callsIn_wide.2 ?_
    refine(tk_run1 w w5 _ (w.heap.size+1) ib3 op s t n HSU.out (fun y W hW=>by
     have k:=hW.bel;have kTK:=HTK1.out.keep k;obtain⟨ge0,ge1,ge2,ge3,ge4,ge5,ge6,ge7,ge8,gf2,gf3,gf5⟩:=HG1.out.keep k;refine tk_round1 (w5.heap.size+1) w.heap.size (w.heap.size+1) fb fo _ _ n cap ca y _ _ _ _ _ _ _ _ _ _ _ _ _ _ _ _ _ _ _ _ _ _ _ _ _ _ _ _ _ _ _ _ _ _ _ _ _ _ _ _ _ _ _ _ _ _ _ _ _ _ _ _ _ _ _ _ _ _ _ _ _ _ _ _ _ _ _ _ _ _ _ _ W _ hW.lp kTK.b0 kTK.b1 kTK.z1 gf5 hn ?_ ?_
     ·intro hin W' h1 h2 h3 h4 h5 h6
      exact⟨true,rfl,(fun _=>⟨hW.again h1 h2 h3 h4 h5 h6,hin⟩),(fun h=>by cases h)⟩
     ·intro hin W' h1 hc h2 h3 h4 h5 h6
      exact⟨false,rfl,(fun h=>by cases h),(fun _=>⟨hW.leave HTK1.out.bel (Nat.le_succ _) HB1L1.out h1 hc h2 h3 h4 h5 h6,hin⟩)⟩)).mono ?_
    rintro e W6 ⟨rfl,⟨hJ,hall⟩|⟨hX,hall⟩⟩
    ·refine⟨⟨_,rfl⟩,_,hJ.lp,by simp[loopRec],.inl ⟨rfl,?_⟩⟩
     have er:r=glastB x op sub d k regs frame:=by rw[HE2.out,hall];rfl
     have HER:=hid er;refine gq_named (fun W=>TK w fb fo B2 x W∧Giv ib io fb fo op sub a b d k va vn vc s t regs frame ca n cap W∧W.heap[w3.heap.size]? = some (.deferred (some []))∧W.heap[w5.heap.size]? = some (.deferred (some []))) ?_ ?_
     ·have hb7:∀ o,Below w5.heap.size w5 (W6.putObj (w5.heap.size+1) o):=fun o=>hJ.bel.trans (bel_put (Nat.le_succ _))
      exact⟨HTK1.out.keep (hb7 _),HG1.out.keep (hb7 _),((hb7 _).block _ (by omega)).trans HD5.out,(put_other (show w5.heap.size≠w5.heap.size+1 by omega)).trans hJ.dfr⟩
     rintro W7 ⟨k1,k2,k3,k4⟩;have HTK7:=hid k1;have HD7:=hid k3;have HD8:=hid k4;obtain⟨e0,e1,e2,e3,e4,e5,e6,e7,e8,f2,f3,f5⟩:=k2;clear k1 k3 k4 hJ hall er HE2
     go_upto_region 12 with fail
     refine wp_calmG ?_;refine tk_r12 ib io fb fo w.heap.size (w.heap.size+1) B2 x.d x.sub op sub d k regs frame _ _ _ _ _ _ _ _ _ _ _ _ _ _ _ _ _ _ _ _ _ _ _ _ _ _ _ _ _ _ _ _ _ _ _ _ _ _ _ _ _ _ _ _ _ _ _ _ _ _ _ _ _ _ _ _ _ _ _ _ _ _ _ _ _ _ _ _ _ _ _ _ (fun _ _ _=>False) W7 (fun _ _ _ _ _ h=>h) HTK7.out.b0 HTK7.out.s4 HTK7.out.s1 e0 e1 e4 e5 f3 f2 HTK7.out.b1 HTK7.out.z1 (by omega) (by have:=HTK7.out.n2;omega) (by omega) (by omega) (by omega) (by omega) r HER.out ?_;intro y39 y40 y41 y42 y43 y44 y45 y46 y47 y48 y49 y50 y51 y52 y53 y54 y55 y56 y57 y58 y59 y60 y61 y62 y63 y64 y65 y66 y67 y68 y69 y70 y71 y72 y73;have HB7:=hid HTK7.out.bel;have hlt:w.heap.size+1<w5.heap.size:=HB1L1.out;have hlt3:w.heap.size+1<w3.heap.size:=HB1L0.out;have hh5:w5.heap.size≠w.heap.size+1:=by omega
     have hh3:w3.heap.size≠w.heap.size+1:=by omega
     have h35:w3.heap.size≠w5.heap.size:=by omega
     have c7:(W7.setCell ⟨w.heap.size+1,0,none⟩ (.bool r)).drew.cell? ⟨w.heap.size+1,0,none⟩=some (.bool r):=by
      have b1:=HTK7.out.b1;go_simp
     obtain⟨WF,hWF⟩:∃ W,(W7.setCell ⟨w.heap.size+1,0,none⟩ (.bool r)).drew=W:=⟨_,rfl⟩;have HF1:Hid (WF.heap[w5.heap.size]? = some (.deferred (some []))):=by show _=_;rw[←hWF];exact(gset_other hh5).trans HD8.out
     have HF2:Hid (WF.heap[w3.heap.size]? = some (.deferred (some []))):=by show _=_;rw[←hWF];exact(gset_other hh3).trans HD7.out
     have HF3:Hid (WF.cell? ⟨w.heap.size+1,0,none⟩=some (.bool r)):=by show _=_;rw[←hWF];exact c7
     clear c7;have HF4:Hid (Below w.heap.size w WF):=by show Below _ _ _;rw[←hWF];exact Below.drew (HB7.out.setCell (Nat.le_succ _) _)
     rw[hWF];clear hWF e0 e1 e2 e3 e4 e5 e6 e7 e8 f2 f3 f5;dsimp only;go_wp2;have d2:(WF.putObj w5.heap.size (.deferred none)).heap[w3.heap.size]? = some (.deferred (some [])):=(put_other h35).trans HF2.out;have cB1:((WF.putObj w5.heap.size (.deferred none)).putObj w3.heap.size (.deferred none)).cell? ⟨w.heap.size+1,0,none⟩=some (.bool r):=(World.cell?_of_block (put_other (Ne.symm hh3))).trans ((World.cell?_of_block (put_other (Ne.symm hh5))).trans HF3.out);refine⟨by simp,.inl ⟨_,_,rfl,run_takeDeferred HF1.out,?_⟩⟩;refine⟨by simp,.inl ⟨_,_,rfl,run_takeDeferred d2,?_⟩⟩;exact⟨_,(by simp[results,results77,go_sem,cB1]),rfl,(HF4.out.trans (bel_put (show w.heap.size≤w5.heap.size by omega))).trans (bel_put (show w.heap.size≤w3.heap.size by omega))⟩
    ·have er:r=false:=by rw[HE2.out,hall];rfl
     refine⟨⟨_,rfl⟩,_,hX.lp,by simp,.inr ⟨_,rfl,?_⟩⟩;subst er;refine wpIn_wide.2 ?_;have hlt:w.heap.size+1<w5.heap.size:=HB1L1.out;have hlt3:w.heap.size+1<w3.heap.size:=HB1L0.out;refine gwp_named (fun W=>Below w.heap.size w W∧W.cell? ⟨w.heap.size+1,0,none⟩=some (.bool false)∧W.heap[w5.heap.size]? = some (.deferred (some []))∧W.heap[w3.heap.size]? = some (.deferred (some []))) ⟨hX.bel.trans (bel_put (show w.heap.size≤w5.heap.size+1 by omega)),(World.cell?_of_block (put_other (show w.heap.size+1≠w5.heap.size+1 by omega))).trans hX.res,(put_other (show w5.heap.size≠w5.heap.size+1 by omega)).trans hX.dfr,(put_other (show w3.heap.size≠w5.heap.size+1 by omega)).trans ((hX.rest _ (by omega) (by omega)).trans HD5.out)⟩ ?_;rintro W7 ⟨hb3,hc3,hd3,hd4⟩;have H3:=hid hb3;have H4:=hid hc3;have H5:=hid hd3;have H6:=hid hd4;clear hb3 hc3 hd3 hd4;go_wp2;have d2:(W7.putObj w5.heap.size (.deferred none)).heap[w3.heap.size]? = some (.deferred (some [])):=(put_other (show w3.heap.size≠w5.heap.size by omega)).trans H6.out;have cB1:((W7.putObj w5.heap.size (.deferred none)).putObj w3.heap.size (.deferred none)).cell? ⟨w.heap.size+1,0,none⟩=some (.bool false):=(World.cell?_of_block (put_other (show w.heap.size+1≠w3.heap.size by omega))).trans ((World.cell?_of_block (put_other (show w.heap.size+1≠w5.heap.size by omega))).trans H4.out);refine⟨by simp,.inl ⟨_,_,rfl,run_takeDeferred H5.out,?_⟩⟩;refine⟨by simp,.inl ⟨_,_,rfl,run_takeDeferred d2,?_⟩⟩;exact⟨_,(by simp[results,results77,go_sem,cB1]),rfl,(H3.out.trans (bel_put (show w.heap.size≤w5.heap.size by omega))).trans (bel_put (show w.heap.size≤w3.heap.size by omega))⟩
   ·have er:r=false:=by rw[HE1.out,hall];rfl
    refine⟨⟨_,rfl⟩,_,hX.lp,by simp,.inr ⟨_,rfl,?_⟩⟩;subst er;refine wpIn_wide.2 ?_;have hlt:w.heap.size+1<w3.heap.size:=HB1L0.out;refine gwp_named (fun W=>Below w.heap.size w W∧W.cell? ⟨w.heap.size+1,0,none⟩=some (.bool false)∧W.heap[w3.heap.size]? = some (.deferred (some []))) ⟨hX.bel.trans (bel_put (show w.heap.size≤w3.heap.size+1 by omega)),(World.cell?_of_block (put_other (show w.heap.size+1≠w3.heap.size+1 by omega))).trans hX.res,(put_other (show w3.heap.size≠w3.heap.size+1 by omega)).trans hX.dfr⟩ ?_;rintro W3 ⟨hb3,hc3,hd3⟩;have H3:=hid hb3;have H4:=hid hc3;have H5:=hid hd3;clear hb3 hc3 hd3;go_wp2;have hlt:w.heap.size+1<w3.heap.size:=HB1L0.out;have cB1:(W3.putObj w3.heap.size (.deferred none)).cell? ⟨w.heap.size+1,0,none⟩=some (.bool false):=(World.cell?_of_block (put_other (show w.heap.size+1≠w3.heap.size by omega))).trans H4.out;refine⟨by simp,.inl ⟨_,_,rfl,run_takeDeferred H5.out,?_⟩⟩;exact⟨_,(by simp[results,results77,go_sem,cB1]),rfl,H3.out.trans (bel_put (show w.heap.size≤w3.heap.size by omega))⟩
theorem takes_any {w:World} {fb fo ib io:Nat} {f:Fn} {i:Ins} (hf:FnAt w fb fo f) (hi:InsAt w ib io i) (ht:ShTab w) (r0:0≤f.regs) (r1:f.regs≤5000) :
  Calls prog 77 #[.pointer (some ⟨fb,fo,none⟩),.pointer (some ⟨ib,io,none⟩)] w (retP (.bool (rightF f.regs f.frame f.code.length i)) w):=by
 obtain⟨pv,cv,_,hc,_,_,_,f2,f3,_,f5⟩:=hf;obtain⟨ca,cap,rfl,hl,_,_⟩:=hc;obtain⟨v,hv,e0,e1,e2,e3,e4,e5,e6,e7,e8⟩:=hi;obtain⟨va,vc,rfl,hvl⟩:=len_parts hv;rw[←takes_right _ _ _ _ r0];obtain⟨op,sub,a,b,d,k,args,s,t⟩:=i;exact takes_walk fb fo ib io f.regs f.frame f.code.length cap ca op sub a b d k va args.length vc s t args _ _ w rfl ht ⟨e0,e1,e2,e3,e4,e5,e6,e7,e8,f2,f3,f5⟩ hv r0 r1 (by omega) rfl
set_option maxHeartbeats 4000000
def MarksAt (w:World) (B n:Nat) (l:List Int):Prop:=∀ j,j<n→w.cell? ⟨B,j,none⟩=some (.bool (l.contains (j:Int)))∧w.frozen? ⟨B,j,none⟩=false
def falses (n:Nat):Array Value:=madeCells #[.bool false] n
theorem falses_size (n:Nat):(falses n).size=n:=size_madeCells _ _
theorem falses_get (n j:Nat) (h:j<n):(falses n)[j]? = some (.bool false):=by
 rw[Array.getElem?_eq_getElem (by rw[falses_size];exact h)];simp[falses,madeCells,Nat.mod_one]
theorem infoBool:(prog.info? 4).map (fun i=>(i.zero,i.size,i.bytes))=some (some (.bool false),1,1):=by kernel_rfl
theorem make_marks (n:Nat) (hn:n≤5000) (w:World):(Instr.makeSlice 37 (.int .i64 n) (.int .i64 n)).run prog w=.ok (.slice (some ⟨w.heap.size,0,none⟩) n n) (w.alloc (.cells (falses n) 4)):=by
 obtain⟨i0,hi,hz0,hz1,hz2⟩:=info_parts infoBool;have:=run_make (P:=prog) w 37 4 i0 (.bool false) underlying37 hi hz0 .i64 .i64 n n (by omega) (by omega) (by rw[hz2];omega) (by omega);rw[this,hz1];simp[falses,Value.cells]
theorem marks_start (w:World) (n:Nat):MarksAt (w.alloc (.cells (falses n) 4 (0,0))) w.heap.size n []:=fun j hj=>by
 have h:(w.alloc (.cells (falses n) 4 (0,0))).heap[w.heap.size]? = some (.cells (falses n) 4 (0,0)):=by
  show (w.heap.push _)[w.heap.size]? = _
  simp
 constructor
 ·unfold World.cell?
  rw[h];simpa using falses_get n j hj
 ·unfold World.frozen?
  rw[h];simp
theorem marks_step {w:World} {B n m i:Nat} {l:List Int} (h:MarksAt w B n (l.take i)) (hm:m<n) (hget:l[i]? = some (m:Int)):MarksAt (w.setCell ⟨B,m,none⟩ (.bool true)) B n (l.take (i+1)):=fun j hj=>by
 obtain⟨h1,h2⟩:=h j hj;obtain⟨g1,g2⟩:=h m hm;have e:l.take (i+1)=l.take i++[(m:Int)]:=by rw[List.take_add_one,hget];rfl
 rw[e]
 constructor
 ·by_cases hjm:j=m
  ·subst hjm
   rw[show ((l.take i++[(j:Int)]).contains (j:Int))=true by simp];go_simp
  ·rw[show ((l.take i++[(m:Int)]).contains (j:Int))=(l.take i).contains (j:Int) by
    rw[Bool.eq_iff_iff];simp only[List.contains_iff_mem,List.mem_append,List.mem_singleton];exact⟨fun h=>h.elim id fun h=>absurd (Int.ofNat_inj.1 h) hjm,Or.inl⟩]
   rw[World.cell?_setCell_other _ _ _ _ (by simp[hjm])];exact h1
 ·simp only[World.frozen?_setCell];exact h2
theorem hasParams_walk (fb fo:Nat) (pa:Option Addr) (np pcap pb po n:Nat) (params:List Int) (r:Bool) (w:World) (c1:w.cell? ⟨fb,fo+1,none⟩=some (.slice pa np pcap)) (c2:w.cell? ⟨fb,fo+2,none⟩=some (.int .i64 n)) (hn:n≤5000) (hp:np*8≤140737488355328) (HN:Hid (np=params.length)) (HA:Hid (0<np→pa=some ⟨pb,po,none⟩)) (HC:Hid (∀ (i:Nat) x,params[i]? = some x→w.cell? ⟨pb,po+i,none⟩=some (.int .i64 x)))
  (HP1:Hid (∀ (i:Nat) x,params[i]? = some x→inB n x=false→r=false))
  (HP2:Hid (∀ (i j:Nat) x,i<j→params[i]? = some x→params[j]? = some x→r=false))
  (HP3:Hid ((∀ (i:Nat) x,i<np→params[i]? = some x→inB n x=true)→(∀ (i j:Nat) x y,i<j→j<np→params[i]? = some x→params[j]? = some y→x≠y)→r=true)) :
  Calls prog 76 #[.pointer (some ⟨fb,fo,none⟩)] w (retP (.bool r) w):=by
 have hnm:(np:Int)≤9223372036854775807:=by omega
 have mk:=make_marks n hn;have fl:fb<w.heap.size:=block_lt_of_cell c1
 go_enter func76,ntmps76
 go_wp2
 go_loopw [16] (fun vv wz=>∃ i:Nat,i≤np∧vv=.int .i64 i∧Hid (∀ (j:Nat) x,j<i→params[j]? = some x→inB n x=true)∧Hid (∀ (k j:Nat) x y,k<j→j<i→params[k]? = some x→params[j]? = some y→x≠y)∧Hid (MarksAt wz w.heap.size n (params.take i))∧Hid (Below w.heap.size w wz)) (fun vv _=>np - (intOf vv).toNat)
 case atStart=>exact⟨0,by omega,rfl,fun j x hj=>by omega,fun k j x y h1 h2=>by omega,marks_start w n,bel_alloc (Below.refl _ _) _⟩
 case round =>
  obtain⟨i,hi,rfl,HI,HJ,HM,HBz⟩:=hrel
  rename World=>wz
  by_cases hin:i<np
  ·obtain rfl:=HA.out (by omega)
   have j0:(0:Int)≤i:=by omega
   have j1:(i:Int)<np:=by omega
   have hget:=List.getElem?_eq_getElem (l:=params) (show i<params.length by rw[←HN.out];exact hin)
   generalize params[i]'(by rw[←HN.out];exact hin)=y at hget
   have cx:=keep_cell HBz.out (HC.out i y hget);have HG:=hid hget;have HW:Hid (Calls prog 102 #[.pointer (some ⟨fb,fo,none⟩),.int .i64 y] wz fun e w'=>e=.returned (.bool (inB n y))∧w'=wz):=hasRegister_any fb fo n y wz (keep_cell HBz.out c2) (by omega) (by omega);clear hget
   cases hq:inB n y with
   |false =>
    rw[hq] at HW;have er:=HP1.out i y HG.out hq;subst er
    go_wp2_with (go_at_call 102;refine HW.out.mono ?_;rintro e w1 ⟨rfl,hw⟩;replace hw:=hw.symm;subst hw)
    go_ret;exact⟨rfl,HBz.out⟩
   |true =>
    rw[hq] at HW;have hr:0≤y∧y<n:=by simp[inB] at hq;omega
    obtain⟨m,rfl⟩:∃ m:Nat,y=m:=⟨y.toNat,by omega⟩;have m0:(0:Int)≤m:=by omega
    have m1:(m:Int)<n:=by omega
    have HI2:=hid (all_step HG.out hq HI.out);obtain⟨g1,g2⟩:=HM.out m (by omega)
    cases hs:(params.take i).contains (m:Int) with
    |true =>
     rw[hs] at g1
     have er:r=false:=by
      rw[List.contains_iff_mem] at hs;obtain⟨k,hk⟩:=List.getElem?_of_mem hs;have hki:k<i:=by have:=(List.getElem?_eq_some_iff.1 hk).1;simp at this;omega
      rw[List.getElem?_take,if_pos hki] at hk;exact HP2.out k i m hki hk HG.out
     subst er;clear hs hq hr
     go_wp2_with (go_at_call 102;refine HW.out.mono ?_;rintro e w1 ⟨rfl,hw⟩;replace hw:=hw.symm;subst hw)
     go_ret;exact⟨rfl,HBz.out⟩
    |false =>
     rw[hs] at g1
     have HJ2:Hid (∀ (a j:Nat) x y,a<j→j<i+1→params[a]? = some x→params[j]? = some y→x≠y):=fun a j x' y' h1 h2 h3 h4=>by
      by_cases e:j=i
      ·subst e;rw[HG.out] at h4;cases h4
       intro e2;subst e2;have:(m:Int)∈params.take j:=List.mem_of_getElem? (i:=a) (by rw[List.getElem?_take,if_pos h1];exact h3);rw[←List.contains_iff_mem,hs] at this
       cases this
      ·exact HJ.out a j x' y' h1 (by omega) h3 h4
     have HM2:=hid (marks_step HM.out (by omega) HG.out);clear hs hq hr
     go_wp2_with (go_at_call 102;refine HW.out.mono ?_;rintro e w1 ⟨rfl,hw⟩;replace hw:=hw.symm;subst hw)
     go_roundw
     case rel=>exact⟨i+1,by omega,by simp,HI2,HJ2,HM2,hid (bel_set HBz.out (by simp) _)⟩
     case measure=>simp[intOf];omega
  ·obtain rfl:np=i:=by omega
   have er:r=true:=HP3.out HI.out HJ.out;subst er;go_wp2;go_ret;exact⟨rfl,HBz.out⟩
theorem hasParams_any {w:World} {fb fo:Nat} {pv:Value} {params:List Int} {regs:Int} (c1:w.cell? ⟨fb,fo+1,none⟩=some pv) (c2:w.cell? ⟨fb,fo+2,none⟩=some (.int .i64 regs)) (h:IL w pv params) (h0:0≤regs) (h1:regs≤5000) :
  Calls prog 76 #[.pointer (some ⟨fb,fo,none⟩)] w (retP (.bool (parF regs params)) w):=by
 obtain⟨pa,pcap,pb,po,rfl,hl,ha,hc⟩:=h.parts;obtain⟨n,rfl⟩:∃ n:Nat,regs=n:=⟨regs.toNat,by omega⟩;refine hasParams_walk fb fo pa _ pcap pb po n params _ w c1 c2 (by omega) hl rfl ha hc (fun i x h1 h2=>?_) (fun i j x h0 h1 h2=>?_) (fun h1 h2=>?_)
 ·rw[parF,all_bad h1 h2];rfl
 ·rw[parF,Bool.and_eq_false_iff]
  right
  rw[decide_eq_false_iff_not];intro hnd;exact nodup_get.1 hnd i j x x h0 h1 h2 rfl
 ·rw[parF,all_good rfl h1,Bool.true_and,decide_eq_true_eq]
  exact nodup_get.2 fun i j x y h3 h4 h5=>h2 i j x y h3 (List.getElem?_eq_some_iff.1 h5).1 h4 h5
set_option maxHeartbeats 8000000
theorem insstep {f:Ins→Bool} {l:List Ins} {i:Nat} {x:Ins} (hget:l[i]? = some x) (hf:f x=true) (h:∀ (j:Nat) y,j<i→l[j]? = some y→f y=true):∀ (j:Nat) y,j<i+1→l[j]? = some y→f y=true:=fun j y hj hy=>by
 by_cases e:j=i
 ·subst e;rw[hget] at hy;cases hy;exact hf
 ·exact h j y (by omega) hy
theorem head_eq (regs frame entry n:Int):(sizesB regs frame n&&inB n entry) = !headL regs frame entry n:=by
 unfold sizesB inB headL withinB;rw[Bool.eq_iff_iff];simp
 omega
theorem isRight_walk (fb fo:Nat) (ca:Option Addr) (n cap cb co:Nat) (entry:Int) (code:List Ins) (sz nd pr r:Bool) (cf:Ins→Bool) (w:World) (f4:w.cell? ⟨fb,fo+4,none⟩=some (.int .i64 entry)) (f5:w.cell? ⟨fb,fo+5,none⟩=some (.slice ca n cap)) (hn:n*88≤140737488355328) (HN:Hid (n=code.length)) (HA:Hid (0<n→ca=some ⟨cb,co,none⟩))
  (HSZ:Hid (∀ W:World,W=w→Calls prog 74 #[.pointer (some ⟨fb,fo,none⟩)] W fun e w'=>e=.returned (.bool sz)∧w'=W))
  (HND:Hid (∀ W:World,W=w→Calls prog 75 #[.pointer (some ⟨fb,fo,none⟩),.int .i64 entry] W fun e w'=>e=.returned (.bool nd)∧w'=W))
  (HPR:Hid (sz=true→Calls prog 76 #[.pointer (some ⟨fb,fo,none⟩)] w (retP (.bool pr) w)))
  (HTK:Hid (sz=true→∀ W (i:Nat) x,Below w.heap.size w W→code[i]? = some x→Calls prog 77 #[.pointer (some ⟨fb,fo,none⟩),.pointer (some ⟨cb,co+i*9,none⟩)] W (retP (.bool (cf x)) W)))
  (HE:Hid (r=((sz&&nd)&&(pr&&code.all cf)))) :
  Calls prog 47 #[.pointer (some ⟨fb,fo,none⟩)] w (retP (.bool r) w):=by
 have hnm:(n:Int)≤9223372036854775807:=by omega
 cases sz with
 |false =>
  have er:r=false:=by rw[HE.out];rfl
  subst er
  go_enter func47,ntmps47
  go_wp2_with (go_at_call 74;refine(HSZ.out _ rfl).mono ?_;rintro e w1 ⟨rfl,hw⟩;subst hw)
  go_ret;exact⟨rfl,Below.refl _ _⟩
 |true =>
  replace HPR:=hid (HPR.out rfl);replace HTK:=hid (HTK.out rfl)
  cases nd with
  |false =>
   have er:r=false:=by rw[HE.out];rfl
   subst er
   go_enter func47,ntmps47
   go_wp2_with (first|(go_at_call 74;refine(HSZ.out _ rfl).mono ?_;rintro e w1 ⟨rfl,hw⟩;subst hw)|(go_at_call 75;refine(HND.out _ rfl).mono ?_;rintro e w1 ⟨rfl,hw⟩;subst hw))
   go_ret;exact⟨rfl,Below.refl _ _⟩
  |true =>
   cases pr with
   |false =>
    have er:r=false:=by rw[HE.out];rfl
    subst er
    go_enter func47,ntmps47
    go_wp2_with (first|(go_at_call 74;refine(HSZ.out _ rfl).mono ?_;rintro e w1 ⟨rfl,hw⟩;subst hw)|(go_at_call 75;refine(HND.out _ rfl).mono ?_;rintro e w1 ⟨rfl,hw⟩;subst hw)|(go_at_call 76;refine HPR.out.mono ?_;rintro e w2 ⟨rfl,hb2⟩;have HB2:=hid hb2;clear hb2))
    go_ret;exact⟨rfl,HB2.out⟩
   |true =>
    have HE2:Hid (r=code.all cf):=by show _=_;rw[HE.out];rfl
    have HB:Hid (∀ (i:Nat) x,code[i]? = some x→cf x=false→r=false):=fun i x h1 h2=>by rw[HE2.out];exact List.all_eq_false.2 ⟨x,List.mem_of_getElem? h1,by simp[h2]⟩
    clear HE
    go_enter func47,ntmps47
    go_wp2_with (first|(go_at_call 74;refine(HSZ.out _ rfl).mono ?_;rintro e w1 ⟨rfl,hw⟩;subst hw)|(go_at_call 75;refine(HND.out _ rfl).mono ?_;rintro e w1 ⟨rfl,hw⟩;subst hw)|(go_at_call 76;refine HPR.out.mono ?_;rintro e w2 ⟨rfl,hb2⟩;have HB2:=hid hb2;replace f5:=keep_cell hb2 f5;clear hb2))
    go_loopw [26] (fun vv wz=>∃ i:Nat,i≤n∧vv=.int .i64 i∧Hid (∀ (j:Nat) x,j<i→code[j]? = some x→cf x=true)∧Hid (Below w2.heap.size w2 wz)) (fun vv _=>n - (intOf vv).toNat)
    case atStart=>exact⟨0,by omega,rfl,fun j x hj=>by omega,Below.refl _ _⟩
    case round =>
     obtain⟨i,hi,rfl,HI,HBz⟩:=hrel
     rename World=>wz
     have g5:=keep_cell HBz.out f5
     by_cases hin:i<n
     ·obtain rfl:=HA.out (by omega)
      have j0:(0:Int)≤i:=by omega
      have j1:(i:Int)<n:=by omega
      have hget:=List.getElem?_eq_getElem (l:=code) (show i<code.length by rw[←HN.out];exact hin)
      generalize code[i]'(by rw[←HN.out];exact hin)=x at hget
      have HG:=hid hget;have HT1:=hid (HTK.out wz i x (bel_trans HB2.out HBz.out) hget);clear hget
      cases hq:cf x with
      |false =>
       rw[hq] at HT1;have er:=HB.out i x HG.out hq;subst er
       go_wp2_with (go_at_call 77;refine HT1.out.mono ?_;rintro e w3 ⟨rfl,hb3⟩;have HB3:=hid (bel_trans (bel_trans HB2.out HBz.out) hb3);clear hb3)
       go_ret;exact⟨rfl,HB3.out⟩
      |true =>
       rw[hq] at HT1;have HI2:=hid (insstep HG.out hq HI.out)
       go_wp2_with (go_at_call 77;refine HT1.out.mono ?_;rintro e w3 ⟨rfl,hb3⟩;have HB3:=hid (bel_trans HBz.out hb3);clear hb3)
       go_roundw
       case rel=>exact⟨i+1,by omega,by simp,HI2,HB3⟩
       case measure=>simp[intOf];omega
     ·obtain rfl:n=i:=by omega
      have er:r=true:=by
       rw[HE2.out];refine List.all_eq_true.2 fun x hx=>?_;obtain⟨j,hj⟩:=List.getElem?_of_mem hx;exact HI.out j x (by rw[HN.out];exact(List.getElem?_eq_some_iff.1 hj).1) hj
      subst er;go_wp2;go_ret;exact⟨rfl,bel_trans HB2.out HBz.out⟩
theorem isRight_any {w:World} {fb fo:Nat} {f:Fn} (hf:FnAt w fb fo f) (ht:ShTab w):Calls prog 47 #[.pointer (some ⟨fb,fo,none⟩)] w (retP (.bool (RightF f)) w):=by
 have hf':=hf;obtain⟨pv,cv,hp,hc,_,_,f1,f2,f3,f4,f5⟩:=hf;obtain⟨ca,cap,cb,co,rfl,hl,ha,hcc⟩:=hc.parts
 have hb:∀ h:sizesB f.regs f.frame f.code.length=true,0≤f.regs∧f.regs≤5000:=fun h=>by
  unfold sizesB withinB at h;simp at h
  omega
 refine isRight_walk fb fo ca f.code.length cap cb co f.entry f.code _ _ (parF f.regs f.params) _ (rightF f.regs f.frame f.code.length) w f4 f5 hl rfl ha (fun W hW=>by subst hW;exact hasSizes_any fb fo _ cap ca f.regs f.frame _ f2 f3 f5) (fun W hW=>by subst hW;exact hasNode_any fb fo _ cap ca f.entry _ f5 (by omega)) (fun h=>hasParams_any f1 f2 hp (hb h).1 (hb h).2) (fun h W i x hW hx=>takes_any (hf'.keep hW) ((hcc i x hx).keep hW) (ht.keep hW) (hb h).1 (hb h).2) ?_
 show RightF f=_
 rw[head_eq]
 rfl
set_option maxHeartbeats 2000000
theorem inB_iff {m x:Int}:inB m x=true↔0≤x∧x<m:=by unfold inB;simp
theorem target_in {t d regs:Int} (h:targetB t d regs=true) (hr:readB t d=true):0≤d∧d<regs:=by
 unfold targetB at h;unfold readB at hr;simp at h hr
 rcases h with (e|e)|e
 ·exact absurd e hr.1
 ·exact absurd e.2 hr.2
 ·exact inB_iff.1 e
theorem us_eq {regs frame n:Int} {i:Ins} (h0:0≤regs) (h:rightF regs frame n i=true):usX i=usR i:=by
 have ht:=h;rw[←takes_right regs frame n i h0] at ht;obtain⟨op,sub,a,b,d,k,args,s,t⟩:=i
 by_cases h10:op=10
 ·subst h10
  have hu2:usesF 10 a b args=args:=by simp[usesF,useA,useB]
  have hc:args.contains (-1)=false:=by
   cases hc:args.contains (-1) with
   |false=>rfl
   |true =>
    unfold rightF rightL at h;have:(usesF 10 a b args).all (inB regs)=false:=by rw[hu2];exact all_neg hc
    simp only[this,Bool.false_and,Bool.and_false] at h
    cases h
  show usP (shOf 10) a b (if (shOf 10).args=true then args else [])=usesF 10 a b args
  rw[hu2]
  show (if readB 0 a=true then [a] else [])++((if readB 0 b=true then [b] else [])++args.filter (· != -1))=args
  rw[filter_none hc];simp[readB]
 ·rcases op_cases op with rfl|rfl|rfl|rfl|rfl|rfl|rfl|rfl|rfl|rfl|rfl|rfl|rfl|rfl|ho
  case inr.inr.inr.inr.inr.inr.inr.inr.inr.inr.inr.inr.inr.inr =>
   have e1:gnameB (shOf op)=true:=by
    by_cases h:op=0
    ·subst h;rfl
    ·rw[shOf_none (by omega)];rfl
   unfold takesF at ht;simp[e1] at ht
  all_goals first
   |exact absurd rfl h10
   |(by_cases ha:a = -1<;>by_cases hb:b = -1<;>simp[usX,usR,shOf,spTab,usP,usesF,useA,useB,readB,ha,hb])
theorem wr_eq {regs frame n:Int} {i:Ins} (h0:0≤regs) (h:rightF regs frame n i=true):wrX i=wrR i:=by
 have ht:=h;rw[←takes_right regs frame n i h0] at ht;obtain⟨op,sub,a,b,d,k,args,s,t⟩:=i
 rcases op_cases op with rfl|rfl|rfl|rfl|rfl|rfl|rfl|rfl|rfl|rfl|rfl|rfl|rfl|rfl|ho
 case inr.inr.inr.inr.inr.inr.inr.inr.inr.inr.inr.inr.inr.inr =>
  have e1:gnameB (shOf op)=true:=by
   by_cases h:op=0
   ·subst h;rfl
   ·rw[shOf_none (by omega)];rfl
  unfold takesF at ht;simp[e1] at ht
 all_goals (simp[takesF,glastB,shOf,spTab,targetB,withinB] at ht;simp[wrX,wrR,shOf,spTab,readB,writesF,wrOps])
 all_goals
  have hd:d = -1∨0≤d:=by first|exact .inr (inB_iff.1 ht.2.2.2.2.1).1|exact .inr (inB_iff.1 ht.2.2.2.2.1.1).1|exact ht.2.2.2.2.1.imp id (fun q=>(inB_iff.1 q).1)
  rcases hd with e|e
  ·simp[e]
  ·rw[if_neg (by omega),if_pos e]
theorem right_parts {f:Fn} (h:RightF f=true):0≤f.regs∧f.regs≤5000∧f.code.length≤5000∧∀ x∈f.code,rightF f.regs f.frame f.code.length x=true:=by
 unfold RightF at h;rw[Bool.and_eq_true,Bool.and_eq_true] at h;obtain⟨h1,h2,h3⟩:=h;have h1':headL f.regs f.frame f.entry f.code.length=false:=by simpa using h1
 unfold headL at h1';simp at h1';exact⟨by omega,by omega,by omega,List.all_eq_true.1 h3⟩
theorem usL_eq {code:List Ins} (h:∀ x∈code,usX x=usR x∧wrX x=wrR x) (r n:Nat):LvP usX wrX sxF code r n↔LvR code r n:=by
 constructor
 ·intro hl
  induction hl with
  | @use n x hx hr=>exact .use hx (by rw[← (h x (List.mem_of_getElem? hx)).1];exact hr)
  | @pass n s x hx hw hs hl ih=>exact .pass hx (by rw[← (h x (List.mem_of_getElem? hx)).2];exact hw) hs ih
 ·intro hl
  induction hl with
  | @use n x hx hr=>exact .use hx (by rw[(h x (List.mem_of_getElem? hx)).1];exact hr)
  | @pass n s x hx hw hs hl ih=>exact .pass hx (by rw[(h x (List.mem_of_getElem? hx)).2];exact hw) hs ih
def sumU (code:List Ins):Nat:=(code.map fun x=>x.args.length).sum
theorem usX_length (x:Ins):(usX x).length≤x.args.length+2:=by
 have hf:∀ l:List Int,(l.filter (· != -1)).length≤l.length:=fun l=>List.length_filter_le _ _;have h1:(if (shOf x.op).args=true then x.args else []).length≤x.args.length:=by split<;>simp
 unfold usX usP;rw[List.length_append,List.length_append];have h2:=hf (if (shOf x.op).args=true then x.args else []);have h3:(if readB (shOf x.op).a x.a=true then [x.a] else []).length≤1:=by split<;>simp
 have h4:(if readB (shOf x.op).b x.b=true then [x.b] else []).length≤1:=by split<;>simp
 omega
theorem esU_length (code:List Ins):∀ i,i≤code.length→(esG usX code i).length≤sumU (code.take i)+2*i
 |0,_=>by simp[esG]
 |i+1,hi=>by
  have h1:=esU_length code i (by omega);have hg:=List.getElem?_eq_getElem (l:=code) (show i<code.length by omega);rw[esG_succ hg,List.length_append];have h2:(edN i (usX code[i])).length=(usX code[i]).length:=by simp[edN]
  have h3:=usX_length code[i]
  have h4:sumU (code.take (i+1))=sumU (code.take i)+code[i].args.length:=by
   unfold sumU;rw[List.take_add_one,hg,List.map_append,List.sum_append]
   rfl
  omega
theorem sumU_take (code:List Ins) (i:Nat):sumU (code.take i)≤sumU code:=by
 have h:sumU (code.take i)+sumU (code.drop i)=sumU code:=by
  unfold sumU;rw[←List.sum_append,←List.map_append,List.take_append_drop]
 omega
theorem codeOkS_of {f:Fn} (h:RightF f=true) (hu:sumU f.code≤100000000):CodeOkS f.regs.toNat f.code.length f.code:=by
 obtain⟨h0,h1,h2,h3⟩:=right_parts h;have hr:((f.regs.toNat:Nat):Int)=f.regs:=Int.toNat_of_nonneg h0
 have hp:∀ x∈f.code,((usesF x.op x.a x.b x.args).all (inB f.regs)=true)∧(sxF x).all (inB f.code.length)=true∧(∀ y∈wrR x,0≤y∧y<f.regs):=fun x hx=>by
  have q:=h3 x hx;have q2:=q;rw[←takes_right f.regs f.frame f.code.length x h0] at q2;unfold takesF at q2;simp only[Bool.and_eq_true] at q2;refine⟨?_,q2.2.2.2.1,?_⟩
  ·have:usX x=usR x:=us_eq h0 q
   rw[show usesF x.op x.a x.b x.args=usX x from this.symm];exact q2.2.2.1
  ·rw[←wr_eq h0 q]
   intro y hy;unfold wrX at hy
   split at hy
   ·rename_i hrd
    have e:y=x.d:=by simpa using hy
    subst e;have ht:=q2.2.2.2.2;unfold glastB at ht;simp only[Bool.and_eq_true] at ht;exact target_in ht.1.1 hrd
   ·cases hy
 refine⟨rfl,fun x hx y hy=>?_,fun x hx y hy=>?_,fun x hx y hy=>?_,fun i hi=>?_⟩
 ·rw[us_eq h0 (h3 x hx)] at hy
  rw[hr];exact inB_iff.1 (List.all_eq_true.1 (hp x hx).1 y hy)
 ·rw[wr_eq h0 (h3 x hx)] at hy
  rw[hr];exact(hp x hx).2.2 y hy
 ·exact inB_iff.1 (List.all_eq_true.1 (hp x hx).2.1 y hy)
 ·have:=esU_length f.code i hi
  have:=sumU_take f.code i
  omega
theorem fn_at {w:World} {f:Fn} {pa ca:Option Addr} {pc cap:Nat} (hp:IL w (.slice pa f.params.length pc) f.params) (hc:CodeAt w (.slice ca f.code.length cap) f.code) (hn:f.name.size≤140737488355328) :
  FnAt (w.alloc (.cells #[.string f.name,.slice pa f.params.length pc,.int .i64 f.regs,.int .i64 f.frame,.int .i64 f.entry,.slice ca f.code.length cap] 25)) w.heap.size 0 f:=by
 have hb:Below w.heap.size w (w.alloc (.cells #[.string f.name,.slice pa f.params.length pc,.int .i64 f.regs,.int .i64 f.frame,.int .i64 f.entry,.slice ca f.code.length cap] 25)):=bel_alloc (Below.refl _ _) _;exact⟨_,_,hp.keep hb,hc.keep hb,hn,by simp,by simp,by simp,by simp,by simp,by simp⟩
theorem pright_any {w:World} {v:Value} {f:Fn} (hf:FnV w v f) (ht:ShTab w):Calls prog 27 #[v] w (retP (.bool (RightF f)) w):=by
 obtain⟨pv,cv,rfl,hp,hc,hn⟩:=hf;obtain⟨pa,pc,rfl,_⟩:=hp.partsF;obtain⟨ca,cap,_,_,rfl,_⟩:=hc.parts;have HA:=hidF (isRight_any (fn_at hp hc hn) (ht.keep (bel_alloc (Below.refl _ _) _)))
 generalize RightF f=r at *
 go_enter func27,ntmps27
 go_wp2_with (go_at_call 47;refine HA.out.mono ?_;rintro e w1 ⟨rfl,hb1⟩)
 go_ret;exact⟨rfl,bel_trans (bel_alloc (Below.refl _ _) _) hb1⟩
theorem right_nop {regs frame n:Int} {x:Ins} (h0:0≤regs) (h:rightF regs frame n x=true) (hp:x.op∈pureOps):rightF regs frame n (nopI x)=true:=by
 rw[←takes_right _ _ _ _ h0] at h ⊢;have h11:x.op≠11:=fun e=>by rw[e] at hp;revert hp;decide
 have h12:x.op≠12:=fun e=>by rw[e] at hp;revert hp;decide
 unfold takesF at h;simp only[Bool.and_eq_true] at h;have hs:=h.2.2.2.1;rw[show succsF x.op x.s x.t=[x.s] by unfold succsF;rw[if_neg h12,if_neg h11]] at hs;have hs2:inB n x.s=true:=by simpa using hs
 have e1:gnameB (shOf 1)=false:=by rfl
 have e2:glackS (shOf 1) 0 0 []=false:=by rfl
 have e3:(usP (shOf 1) 0 0 (if (shOf 1).args=true then [] else [])).all (inB regs)=true:=by rfl
 have e4:(succsF 1 x.s 0).all (inB n)=true:=by show ([x.s]:List Int).all (inB n)=true;simp[hs2]
 have e5:glastB (shOf 1) 1 0 0 0 regs frame=true:=by simp[glastB,shOf,spTab,targetB,mayB]
 show takesF regs frame n ⟨1,0,0,0,0,0,[],x.s,0⟩=true
 unfold takesF;simp only[e1,e2,e3,e4,e5]
 rfl
theorem Cur.each {c0 c:List Ins} (h:Cur c0 c) {n:Nat} {x:Ins} (hx:c[n]? = some x):∃ x0,c0[n]? = some x0∧(x=x0∨(x=nopI x0∧x0.op∈pureOps)):=by
 obtain⟨x0,h0⟩:=h.has hx;refine⟨x0,h0,?_⟩
 rcases h.ev n x0 h0 with q|⟨q,hp,_⟩
 ·rw[hx] at q;cases q;exact .inl rfl
 ·rw[hx] at q;cases q;exact .inr ⟨rfl,hp⟩
theorem cur_right {f:Fn} {c:List Ins} (h:RightF f=true) (hc:Cur f.code c):RightF ⟨f.name,f.params,f.regs,f.frame,f.entry,c⟩=true:=by
 obtain⟨h0,_,_,hr⟩:=right_parts h;unfold RightF at h ⊢;rw[Bool.and_eq_true,Bool.and_eq_true] at h ⊢
 show (!headL f.regs f.frame f.entry c.length)=true∧parF f.regs f.params=true∧c.all (rightF f.regs f.frame c.length)=true
 rw[hc.len];refine⟨h.1,h.2.1,List.all_eq_true.2 fun x hx=>?_⟩;obtain⟨n,hn⟩:=List.getElem?_of_mem hx;obtain⟨x0,h1,rfl|⟨rfl,hp⟩⟩:=hc.each hn
 ·exact hr x (List.mem_of_getElem? h1)
 ·exact right_nop h0 (hr x0 (List.mem_of_getElem? h1)) hp
theorem sumU_pt:∀ {a b:List Ins},a.length=b.length→(∀ (i:Nat) x y,a[i]? = some x→b[i]? = some y→x.args.length≤y.args.length)→sumU a≤sumU b
 | [],[],_,_=>Nat.le_refl _
 | [],_::_,h,_=>by simp at h
 |_::_,[],h,_=>by simp at h
 |x::a,y::b,h,hp=>by
  have h1:=hp 0 x y rfl rfl;have h2:=sumU_pt (a:=a) (b:=b) (by simpa using h) (fun i u v hu hv=>hp (i+1) u v (by simpa using hu) (by simpa using hv));unfold sumU at h2 ⊢;simp only[List.map_cons,List.sum_cons]
  omega
theorem cur_sum {c0 c:List Ins} (h:Cur c0 c):sumU c≤sumU c0:=sumU_pt h.len fun i x y hx hy=>by
 obtain⟨x0,h0,rfl|⟨rfl,_⟩⟩:=h.each hx
 ·rw[hy] at h0;cases h0;exact Nat.le_refl _
 ·exact Nat.zero_le _
theorem dead_all {R:Nat} {c:List Ins} {N:Nat} (hok:CodeOkS R N c) (h:∀ r,r<R→∀ n,¬ DeadAt c r n) (q n:Nat):¬ DeadAt c q n:=fun hd=>by
 obtain⟨x,hx,hp,hw,hz⟩:=hd;have:=hok.wr x (List.mem_of_getElem? hx) q (by rw[hw];simp);exact h q (by omega) n ⟨x,hx,hp,hw,hz⟩
theorem asked {c:List Ins} (h:∀ q n,¬ DeadAt c q n) {n q:Nat} {x:Ins} (hx:c[n]? = some x) (hp:x.op∈pureOps) (hw:wrX x=[(q:Int)]):∃ s:Nat,(s:Int)∈sxF x∧LvX c q s:=by
 by_cases e:∃ s:Nat,(s:Int)∈sxF x∧LvX c q s
 ·exact e
 ·exact absurd ⟨x,hx,hp,hw,fun s h1 h2=>e ⟨s,h1,h2⟩⟩ (h q n)
set_option maxHeartbeats 16000000
def zeroFn:Value:=.agg #[.string ⟨#[]⟩,.slice none 0 0,.int .i64 0,.int .i64 0,.int .i64 0,.slice none 0 0]
def FnW (Q:Nat→Prop) (w:World) (v:Value) (f:Fn):Prop:=∃ pv cv,v=.agg #[.string f.name,pv,.int .i64 f.regs,.int .i64 f.frame,.int .i64 f.entry,cv]∧ILq Q w pv f.params∧CodeQ Q w cv f.code∧f.name.size≤140737488355328
theorem FnW.fnV {Q:Nat→Prop} {w:World} {v:Value} {f:Fn} (h:FnW Q w v f):FnV w v f:=by
 obtain⟨pv,cv,h1,h2,⟨a,cap,e,h3,h4,h5⟩,h6⟩:=h;refine⟨pv,cv,h1,h2.1,⟨a,cap,e,h3,h4,fun hl=>?_⟩,h6⟩;obtain⟨b,off,q1,_,q2⟩:=h5 hl;exact⟨b,off,q1,fun i x hx=>(q2 i x hx).at⟩
theorem FnW.keep {Q:Nat→Prop} {w w':World} {v:Value} {f:Fn} (h:FnW Q w v f) (hk:Kc Q w w'):FnW Q w' v f:=by
 obtain⟨pv,cv,h1,h2,h3,h4⟩:=h;exact⟨pv,cv,h1,h2.keep hk,h3.keep hk,h4⟩
theorem InsW.insQ {P Q:Nat→Prop} {w:World} {CB co n:Nat} {x:Ins} (h:InsW P w CB co n x) (hq:∀ k,P k→Q k):InsQ Q w CB (co+n*9) x:=by
 obtain⟨v,h1,h2,e0,e1,e2,e3,e4,e5,e6,e7,e8,_⟩:=h;exact⟨v,⟨h1,fun hl b o s k c e=>hq b (h2 hl b o s k c e)⟩,e0,e1,e2,e3,e4,e5,e6,e7,e8⟩
def retTr (h0:Nat) (f:Fn) (w:World):Ending→World→Prop:=fun e W=>if RightF f=true then ∃ v c',e=.returned (.tuple #[v,.int .i64 0])∧FnW (fun k=>k<h0∨w.heap.size≤k) W v ⟨f.name,f.params,f.regs,f.frame,f.entry,c'⟩∧Cur f.code c'∧(∀ q n,¬ DeadAt c' q n)∧(c'=f.code∨∃ q n,DeadAt f.code q n)∧Below w.heap.size w W
 else e=.returned (.tuple #[zeroFn,.int .i64 1])∧Below w.heap.size w W
theorem six_size (W:World) (b:Nat) (v0 v1 v2 v3 v4 v5:Value):(((((((W.setCell ⟨b,0,none⟩ (v0)).setCell ⟨b,1,none⟩ (v1)).setCell ⟨b,2,none⟩ (v2)).setCell ⟨b,3,none⟩ (v3)).setCell ⟨b,4,none⟩ (v4)).setCell ⟨b,5,none⟩ (v5))).heap.size=W.heap.size:=by rw[xsize_set,xsize_set,xsize_set,xsize_set,xsize_set,xsize_set]
theorem six_other {W:World} {b k:Nat} (v0 v1 v2 v3 v4 v5:Value) (h:k≠b):(((((((W.setCell ⟨b,0,none⟩ (v0)).setCell ⟨b,1,none⟩ (v1)).setCell ⟨b,2,none⟩ (v2)).setCell ⟨b,3,none⟩ (v3)).setCell ⟨b,4,none⟩ (v4)).setCell ⟨b,5,none⟩ (v5))).heap[k]? = W.heap[k]? := by rw[xheap_set_other h,xheap_set_other h,xheap_set_other h,xheap_set_other h,xheap_set_other h,xheap_set_other h]
theorem six_calm (W:World) (b:Nat) (v0 v1 v2 v3 v4 v5:Value):(((((((W.setCell ⟨b,0,none⟩ (v0)).setCell ⟨b,1,none⟩ (v1)).setCell ⟨b,2,none⟩ (v2)).setCell ⟨b,3,none⟩ (v3)).setCell ⟨b,4,none⟩ (v4)).setCell ⟨b,5,none⟩ (v5))).os=W.os∧(((((((W.setCell ⟨b,0,none⟩ (v0)).setCell ⟨b,1,none⟩ (v1)).setCell ⟨b,2,none⟩ (v2)).setCell ⟨b,3,none⟩ (v3)).setCell ⟨b,4,none⟩ (v4)).setCell ⟨b,5,none⟩ (v5))).tape=W.tape∧(((((((W.setCell ⟨b,0,none⟩ (v0)).setCell ⟨b,1,none⟩ (v1)).setCell ⟨b,2,none⟩ (v2)).setCell ⟨b,3,none⟩ (v3)).setCell ⟨b,4,none⟩ (v4)).setCell ⟨b,5,none⟩ (v5))).output=W.output:=⟨by rw[sc_os,sc_os,sc_os,sc_os,sc_os,sc_os],by rw[sc_tape,sc_tape,sc_tape,sc_tape,sc_tape,sc_tape],by rw[sc_output,sc_output,sc_output,sc_output,sc_output,sc_output]⟩
theorem six_below {w W:World} {b:Nat} (v0 v1 v2 v3 v4 v5:Value) (h:Below w.heap.size w W) (hb:w.heap.size≤b):Below w.heap.size w (((((((W.setCell ⟨b,0,none⟩ (v0)).setCell ⟨b,1,none⟩ (v1)).setCell ⟨b,2,none⟩ (v2)).setCell ⟨b,3,none⟩ (v3)).setCell ⟨b,4,none⟩ (v4)).setCell ⟨b,5,none⟩ (v5))):=by
 obtain⟨h1,h2,h3⟩:=six_calm W b v0 v1 v2 v3 v4 v5;exact⟨h1.trans h.os,h2.trans h.tape,h3.trans h.output,by rw[six_size];exact h.size,fun k hk=>(six_other v0 v1 v2 v3 v4 v5 (by omega)).trans (h.block k hk)⟩
theorem end_tr {P:Program} {fn:Func} {h0:Nat} {f:Fn} {a:Act} {w w':World} {v:Value} (hr:(results fn a.tmps).run P w'=.ok v w') (hd:a.defers=[]) (hb:retTr h0 f w (.returned v) w'):bodyPost P fn (retTr h0 f w) .ret a w':=bodyPost_ret hr hd hb
structure Tr0 (w:World) (cs:Array Value) (W:World):Prop where
 bel:Below w.heap.size w W
 size:w.heap.size+2≤W.heap.size
 fb:W.heap[w.heap.size]? = some (.cells cs 25 (0,0))
 rb:W.heap[w.heap.size+1]? = some (.cells #[.string ⟨#[]⟩,.slice none 0 0,.int .i64 0,.int .i64 0,.int .i64 0,.slice none 0 0] 25 (0,0))
theorem Tr0.keep {w W W':World} {cs:Array Value} (h:Tr0 w cs W) (hb:Below W.heap.size W W'):Tr0 w cs W':=⟨bel_trans h.bel hb,Nat.le_trans h.size hb.size,xkeep_heap hb h.fb,xkeep_heap hb h.rb⟩
theorem treated_bad (h0:Nat) (w:World) (fname:ByteArray) (pa ca:Option Addr) (pn pc n cap:Nat) (R frm ent:Int) (f:Fn) (hr:RightF f=false) (HRT:Hid (∀ W,Below w.heap.size w W→Calls prog 27 #[.agg #[.string fname,.slice pa pn pc,.int .i64 R,.int .i64 frm,.int .i64 ent,.slice ca n cap]] W (retP (.bool false) W))) :
  Calls prog 17 #[.agg #[.string fname,.slice pa pn pc,.int .i64 R,.int .i64 frm,.int .i64 ent,.slice ca n cap],.func (.func 18) #[] #[]] w (retTr h0 f w):=by
 have HRR:=hidF hr;clear hr
 go_enter func17,ntmps17
 go_upto_region 1 with fail
 refine gwp_namedF (Tr0 w #[.string fname,.slice pa pn pc,.int .i64 R,.int .i64 frm,.int .i64 ent,.slice ca n cap]) ⟨bel_alloc (bel_alloc (Below.refl _ _) _) _,by simp,xkeep_heap (bel_alloc (Below.refl _ _) _) (xheap_new w _),by have:=xheap_new (w.alloc (.cells #[.string fname,.slice pa pn pc,.int .i64 R,.int .i64 frm,.int .i64 ent,.slice ca n cap] 25 (0,0))) (.cells #[.string ⟨#[]⟩,.slice none 0 0,.int .i64 0,.int .i64 0,.int .i64 0,.slice none 0 0] 25 (0,0));rw[World.size_alloc] at this;exact this⟩ ?_;intro W1 h1;have H1:=hidF h1;have hfb:=h1.fb;have b0:=xheap_cell (o:=0) hfb rfl;have b1:=xheap_cell (o:=1) hfb rfl;have b2:=xheap_cell (o:=2) hfb rfl;have b3:=xheap_cell (o:=3) hfb rfl;have b4:=xheap_cell (o:=4) hfb rfl;have b5:=xheap_cell (o:=5) hfb rfl;clear h1 hfb
 go_upto_region 2 with (go_at_call 27;refine(HRT.out _ H1.out.bel).mono ?_;rintro e W2 ⟨rfl,hb2⟩;have H2:=hidF (H1.out.keep hb2);clear hb2)
 have hrb:=H2.out.rb;have r0:=xheap_cell (o:=0) hrb rfl;have r1:=xheap_cell (o:=1) hrb rfl;have r2:=xheap_cell (o:=2) hrb rfl;have r3:=xheap_cell (o:=3) hrb rfl;have r4:=xheap_cell (o:=4) hrb rfl;have r5:=xheap_cell (o:=5) hrb rfl;have u0:=xheap_frozen (o:=0) hrb;have u1:=xheap_frozen (o:=1) hrb;have u2:=xheap_frozen (o:=2) hrb;have u3:=xheap_frozen (o:=3) hrb;have u4:=xheap_frozen (o:=4) hrb;have u5:=xheap_frozen (o:=5) hrb;have hrl:=xheap_lt hrb;clear hrb b0 b1 b2 b3 b4 b5;go_wp2;have hF:(((((((W2.setCell ⟨w.heap.size+1,0,none⟩ (.string ⟨#[]⟩)).setCell ⟨w.heap.size+1,1,none⟩ (.slice none 0 0)).setCell ⟨w.heap.size+1,2,none⟩ (.int .i64 0)).setCell ⟨w.heap.size+1,3,none⟩ (.int .i64 0)).setCell ⟨w.heap.size+1,4,none⟩ (.int .i64 0)).setCell ⟨w.heap.size+1,5,none⟩ (.slice none 0 0))).heap[w.heap.size+1]? = some (.cells #[.string ⟨#[]⟩,.slice none 0 0,.int .i64 0,.int .i64 0,.int .i64 0,.slice none 0 0] 25 (0,0)):=xheap_set_same (xheap_set_same (xheap_set_same (xheap_set_same (xheap_set_same (xheap_set_same H2.out.rb _) _) _) _) _) _;have hB:=six_below (b:=w.heap.size+1) (.string ⟨#[]⟩) (.slice none 0 0) (.int .i64 0) (.int .i64 0) (.int .i64 0) (.slice none 0 0) H2.out.bel (by omega)
 generalize ((((((W2.setCell ⟨w.heap.size+1,0,none⟩ (.string ⟨#[]⟩)).setCell ⟨w.heap.size+1,1,none⟩ (.slice none 0 0)).setCell ⟨w.heap.size+1,2,none⟩ (.int .i64 0)).setCell ⟨w.heap.size+1,3,none⟩ (.int .i64 0)).setCell ⟨w.heap.size+1,4,none⟩ (.int .i64 0)).setCell ⟨w.heap.size+1,5,none⟩ (.slice none 0 0))=W9 at *
 have e0:=xheap_cell (o:=0) hF rfl;have e1:=xheap_cell (o:=1) hF rfl;have e2:=xheap_cell (o:=2) hF rfl;have e3:=xheap_cell (o:=3) hF rfl;have e4:=xheap_cell (o:=4) hF rfl;have e5:=xheap_cell (o:=5) hF rfl;clear hF r0 r1 r2 r3 r4 r5 u0 u1 u2 u3 u4 u5 hrl H2 H1;refine end_tr (v:=.tuple #[.agg #[.string ⟨#[]⟩,.slice none 0 0,.int .i64 0,.int .i64 0,.int .i64 0,.slice none 0 0],.int .i64 1]) (by simp[results,results17,go_sem,e0,e1,e2,e3,e4,e5]) rfl ?_;unfold retTr;rw[if_neg (by rw[HRR.out];decide)];exact⟨rfl,hB⟩
theorem treated_good (w0 w:World) (fname:ByteArray) (pa ca:Option Addr) (pn pc n cap R:Nat) (frm ent:Int) (params:List Int) (code:List Ins) (hr:RightF ⟨fname,params,(R:Int),frm,ent,code⟩=true) (hn:code.length=n) (hV:FnV w0 (.agg #[.string fname,.slice pa pn pc,.int .i64 (R:Int),.int .i64 frm,.int .i64 ent,.slice ca n cap]) ⟨fname,params,(R:Int),frm,ent,code⟩) (hw0:Below w0.heap.size w0 w) (ht:ShTab w) (hu:sumU code≤100000000) :
  Calls prog 17 #[.agg #[.string fname,.slice pa pn pc,.int .i64 (R:Int),.int .i64 frm,.int .i64 ent,.slice ca n cap],.func (.func 18) #[] #[]] w (retTr w0.heap.size ⟨fname,params,(R:Int),frm,ent,code⟩ w):=by
 have HRT:Hid (∀ W,Below w.heap.size w W→Calls prog 27 #[.agg #[.string fname,.slice pa pn pc,.int .i64 (R:Int),.int .i64 frm,.int .i64 ent,.slice ca n cap]] W (retP (.bool true) W)):=fun W hW=>by
  have:=pright_any (hV.keep (bel_trans hw0 hW)) (ht.keep hW);rw[hr] at this;exact this
 have hok:=codeOkS_of hr hu;obtain⟨_,hR5,hN5,_⟩:=right_parts hr
 have hN0:0<n:=by
  have h:=hr;unfold RightF at h;rw[Bool.and_eq_true] at h;have h1:headL (R:Int) frm ent code.length=false:=by simpa using h.1
  unfold headL at h1;simp at h1
  omega
 have hRn:R≤1000000:=by have:(R:Int)≤5000:=hR5;omega
 have hnn:n≤100000:=by have:code.length≤5000:=hN5;omega
 have HOK:Hid (CodeOkS R n code):=by
  have h:=hok;simp only[Int.toNat_natCast] at h;rw[hn] at h;exact h
 have HCL:Hid (∀ W,Below w.heap.size w W→Calls prog 28 #[.agg #[.string fname,.slice pa pn pc,.int .i64 (R:Int),.int .i64 frm,.int .i64 ent,.slice ca n cap]] W (retCl w0.heap.size W ⟨fname,params,(R:Int),frm,ent,code⟩)):=fun W hW=>clone_any hV (bel_trans hw0 hW) (by show 0<code.length;omega);have HT:=hidF ht;have HN:=hidF hn;have HR:=hidF hr;have HU:=hidF hu;have hw0z:=hw0.size;have HNM:Hid (fname.size≤140737488355328):=by obtain⟨_,_,_,_,_,q⟩:=hV;exact q
 have H88:Hid (code.length*88≤140737488355328):=by obtain⟨_,_,_,_,⟨_,_,_,q,_⟩,_⟩:=hV;exact q
 clear hr hn hV hw0 ht hu hok hR5 hN5
 go_enter func17,ntmps17
 go_upto_region 1 with fail
 refine gwp_namedF (Tr0 w #[.string fname,.slice pa pn pc,.int .i64 (R:Int),.int .i64 frm,.int .i64 ent,.slice ca n cap]) ⟨bel_alloc (bel_alloc (Below.refl _ _) _) _,by simp,xkeep_heap (bel_alloc (Below.refl _ _) _) (xheap_new w _),by have:=xheap_new (w.alloc (.cells #[.string fname,.slice pa pn pc,.int .i64 (R:Int),.int .i64 frm,.int .i64 ent,.slice ca n cap] 25 (0,0))) (.cells #[.string ⟨#[]⟩,.slice none 0 0,.int .i64 0,.int .i64 0,.int .i64 0,.slice none 0 0] 25 (0,0));rw[World.size_alloc] at this;exact this⟩ ?_;intro W1 h1;have H1:=hidF h1;have hfb:=h1.fb;have b0:=xheap_cell (o:=0) hfb rfl;have b1:=xheap_cell (o:=1) hfb rfl;have b2:=xheap_cell (o:=2) hfb rfl;have b3:=xheap_cell (o:=3) hfb rfl;have b4:=xheap_cell (o:=4) hfb rfl;have b5:=xheap_cell (o:=5) hfb rfl;clear h1 hfb
 go_upto_region 3 with (go_at_call 27;refine(HRT.out _ H1.out.bel).mono ?_;rintro e W2 ⟨rfl,hb2⟩;have H2:=hidF (H1.out.keep hb2);clear hb2)
 clear b0 b1 b2 b3 b4 b5;have hfb:=H2.out.fb;have b0:=xheap_cell (o:=0) hfb rfl;have b1:=xheap_cell (o:=1) hfb rfl;have b2:=xheap_cell (o:=2) hfb rfl;have b3:=xheap_cell (o:=3) hfb rfl;have b4:=xheap_cell (o:=4) hfb rfl;have b5:=xheap_cell (o:=5) hfb rfl;clear hfb
 go_upto_region 4 with (go_at_call 28;refine(HCL.out _ H2.out.bel).mono ?_;rintro e W3 ⟨g,cap2,pa',pn',pc',rfl,hcl⟩;have H3:=hidF (H2.out.keep hcl.bel);have HC3:=hidF hcl;clear hcl;rw[show (⟨fname,params,(R:Int),frm,ent,code⟩:Fn).code.length=n from HN.out];have hfb3:=H3.out.fb;have d0:=xheap_cell (o:=0) hfb3 rfl;have d1:=xheap_cell (o:=1) hfb3 rfl;have d2:=xheap_cell (o:=2) hfb3 rfl;have d3:=xheap_cell (o:=3) hfb3 rfl;have d4:=xheap_cell (o:=4) hfb3 rfl;have d5:=xheap_cell (o:=5) hfb3 rfl;have v0:=xheap_frozen (o:=0) hfb3;have v1:=xheap_frozen (o:=1) hfb3;have v2:=xheap_frozen (o:=2) hfb3;have v3:=xheap_frozen (o:=3) hfb3;have v4:=xheap_frozen (o:=4) hfb3;have v5:=xheap_frozen (o:=5) hfb3;have hfl3:=xheap_lt hfb3;clear hfb3 b0 b1 b2 b3 b4 b5)
 have hF4:(((((((W3.setCell ⟨w.heap.size,0,none⟩ (.string fname)).setCell ⟨w.heap.size,1,none⟩ (.slice pa' pn' pc')).setCell ⟨w.heap.size,2,none⟩ (.int .i64 (R:Int))).setCell ⟨w.heap.size,3,none⟩ (.int .i64 frm)).setCell ⟨w.heap.size,4,none⟩ (.int .i64 ent)).setCell ⟨w.heap.size,5,none⟩ (.slice (some ⟨g,0,none⟩) n cap2))).heap[w.heap.size]? = some (.cells #[.string fname,.slice pa' pn' pc',.int .i64 (R:Int),.int .i64 frm,.int .i64 ent,.slice (some ⟨g,0,none⟩) n cap2] 25 (0,0)):=xheap_set_same (xheap_set_same (xheap_set_same (xheap_set_same (xheap_set_same (xheap_set_same H3.out.fb _) _) _) _) _) _;have hB4:=six_below (b:=w.heap.size) (.string fname) (.slice pa' pn' pc') (.int .i64 (R:Int)) (.int .i64 frm) (.int .i64 ent) (.slice (some ⟨g,0,none⟩) n cap2) H3.out.bel (Nat.le_refl _);have hO4:∀ k,k≠w.heap.size→(((((((W3.setCell ⟨w.heap.size,0,none⟩ (.string fname)).setCell ⟨w.heap.size,1,none⟩ (.slice pa' pn' pc')).setCell ⟨w.heap.size,2,none⟩ (.int .i64 (R:Int))).setCell ⟨w.heap.size,3,none⟩ (.int .i64 frm)).setCell ⟨w.heap.size,4,none⟩ (.int .i64 ent)).setCell ⟨w.heap.size,5,none⟩ (.slice (some ⟨g,0,none⟩) n cap2))).heap[k]? = W3.heap[k]? := fun k q=>six_other (.string fname) (.slice pa' pn' pc') (.int .i64 (R:Int)) (.int .i64 frm) (.int .i64 ent) (.slice (some ⟨g,0,none⟩) n cap2) q;have hZ4:(((((((W3.setCell ⟨w.heap.size,0,none⟩ (.string fname)).setCell ⟨w.heap.size,1,none⟩ (.slice pa' pn' pc')).setCell ⟨w.heap.size,2,none⟩ (.int .i64 (R:Int))).setCell ⟨w.heap.size,3,none⟩ (.int .i64 frm)).setCell ⟨w.heap.size,4,none⟩ (.int .i64 ent)).setCell ⟨w.heap.size,5,none⟩ (.slice (some ⟨g,0,none⟩) n cap2))).heap.size=W3.heap.size:=six_size _ _ (.string fname) (.slice pa' pn' pc') (.int .i64 (R:Int)) (.int .i64 frm) (.int .i64 ent) (.slice (some ⟨g,0,none⟩) n cap2)
 generalize ((((((W3.setCell ⟨w.heap.size,0,none⟩ (.string fname)).setCell ⟨w.heap.size,1,none⟩ (.slice pa' pn' pc')).setCell ⟨w.heap.size,2,none⟩ (.int .i64 (R:Int))).setCell ⟨w.heap.size,3,none⟩ (.int .i64 frm)).setCell ⟨w.heap.size,4,none⟩ (.int .i64 ent)).setCell ⟨w.heap.size,5,none⟩ (.slice (some ⟨g,0,none⟩) n cap2))=W4 at *
 clear d0 d1 d2 d3 d4 d5 v0 v1 v2 v3 v4 v5 hfl3;have hge:=HC3.out.ge;have hlt:=HC3.out.lt;have hs2:=H2.out.size;have HRB4:Hid (W4.heap[w.heap.size+1]? = some (.cells #[.string ⟨#[]⟩,.slice none 0 0,.int .i64 0,.int .i64 0,.int .i64 0,.slice none 0 0] 25 (0,0))):=(hO4 _ (by omega)).trans H3.out.rb;have HC4:Hid (∀ (m:Nat) x,code[m]? = some x→InsW (fun k=>(k<w0.heap.size∨W2.heap.size≤k)∧k<W3.heap.size∧k≠g) W4 g 0 m x):=fun m x hx=>(HC3.out.row m x hx).of (fun k q=>hO4 k (by rcases q.1 with z|z<;>omega)) (hO4 g (by omega))
 have HP4:Hid (IL W4 (.slice pa' pn' pc') params∧(params≠[]→∀ b o s k c,(.slice pa' pn' pc':Value)=.slice (some ⟨b,o,s⟩) k c→W2.heap.size≤b∧b<W4.heap.size∧b≠g)):=by
  refine⟨HC3.out.par.1.of4 (fun hl b o s k c e=>?_),fun hl b o s k c e=>?_⟩
  ·have:=HC3.out.par.2 hl b o s k c e
   exact hO4 b (by omega)
  ·rw[hZ4];exact HC3.out.par.2 hl b o s k c e
 have hgt:=shtab_lt HT.out;have HSWC:=hidF (sweep_walk W4 fname pa' pn' pc' frm ent R n cap2 g 0 code hRn hnn hN0 HOK (fun k=>(k<w0.heap.size∨W2.heap.size≤k)∧k<W3.heap.size∧k≠g) (fun k q=>⟨by omega,q.2.2⟩) HC4 (by omega) (HT.out.keep hB4) (by omega));have HB4:=hidF hB4;have HZ4:=hidF hZ4;have b0:=xheap_cell (o:=0) hF4 rfl;have b1:=xheap_cell (o:=1) hF4 rfl;have b2:=xheap_cell (o:=2) hF4 rfl;have b3:=xheap_cell (o:=3) hF4 rfl;have b4:=xheap_cell (o:=4) hF4 rfl;have b5:=xheap_cell (o:=5) hF4 rfl;have HF4:=hidF hF4;clear hF4 hB4 hO4 hZ4 hgt
 go_upto_region 5 with (go_at_call 18;refine HSWC.out.mono ?_;rintro e W5 ⟨rfl,c',hins,hcur,hnd,hch,hfr,hz,ho,htp,hou⟩;have HINS:=hidF hins;have HCUR:=hidF hcur;have HND:=hidF hnd;have HCH:=hidF hch;have HFR:=hidF hfr;have HZ:=hidF hz;have HO:=hidF (And.intro ho (And.intro htp hou));clear hins hcur hnd hch hfr hz ho htp hou)
 clear b0 b1 b2 b3 b4 b5;have hfb:W5.heap[w.heap.size]? = some (.cells #[.string fname,.slice pa' pn' pc',.int .i64 (R:Int),.int .i64 frm,.int .i64 ent,.slice (some ⟨g,0,none⟩) n cap2] 25 (0,0)):=(HFR.out _ (by have:=HZ4.out;omega) (by omega)).trans HF4.out;have hrb:W5.heap[w.heap.size+1]? = some (.cells #[.string ⟨#[]⟩,.slice none 0 0,.int .i64 0,.int .i64 0,.int .i64 0,.slice none 0 0] 25 (0,0)):=(HFR.out _ (by have:=HZ4.out;omega) (by omega)).trans HRB4.out;have b0:=xheap_cell (o:=0) hfb rfl;have b1:=xheap_cell (o:=1) hfb rfl;have b2:=xheap_cell (o:=2) hfb rfl;have b3:=xheap_cell (o:=3) hfb rfl;have b4:=xheap_cell (o:=4) hfb rfl;have b5:=xheap_cell (o:=5) hfb rfl;have r0:=xheap_cell (o:=0) hrb rfl;have r1:=xheap_cell (o:=1) hrb rfl;have r2:=xheap_cell (o:=2) hrb rfl;have r3:=xheap_cell (o:=3) hrb rfl;have r4:=xheap_cell (o:=4) hrb rfl;have r5:=xheap_cell (o:=5) hrb rfl;have u0:=xheap_frozen (o:=0) hrb;have u1:=xheap_frozen (o:=1) hrb;have u2:=xheap_frozen (o:=2) hrb;have u3:=xheap_frozen (o:=3) hrb;have u4:=xheap_frozen (o:=4) hrb;have u5:=xheap_frozen (o:=5) hrb;have hrl:=xheap_lt hrb;have HRB5:=hidF hrb;clear hfb hrb;go_wp2;have hF9:(((((((W5.setCell ⟨w.heap.size+1,0,none⟩ (.string fname)).setCell ⟨w.heap.size+1,1,none⟩ (.slice pa' pn' pc')).setCell ⟨w.heap.size+1,2,none⟩ (.int .i64 (R:Int))).setCell ⟨w.heap.size+1,3,none⟩ (.int .i64 frm)).setCell ⟨w.heap.size+1,4,none⟩ (.int .i64 ent)).setCell ⟨w.heap.size+1,5,none⟩ (.slice (some ⟨g,0,none⟩) n cap2))).heap[w.heap.size+1]? = some (.cells #[.string fname,.slice pa' pn' pc',.int .i64 (R:Int),.int .i64 frm,.int .i64 ent,.slice (some ⟨g,0,none⟩) n cap2] 25 (0,0)):=xheap_set_same (xheap_set_same (xheap_set_same (xheap_set_same (xheap_set_same (xheap_set_same HRB5.out _) _) _) _) _) _;have hO9:∀ k,k≠w.heap.size+1→(((((((W5.setCell ⟨w.heap.size+1,0,none⟩ (.string fname)).setCell ⟨w.heap.size+1,1,none⟩ (.slice pa' pn' pc')).setCell ⟨w.heap.size+1,2,none⟩ (.int .i64 (R:Int))).setCell ⟨w.heap.size+1,3,none⟩ (.int .i64 frm)).setCell ⟨w.heap.size+1,4,none⟩ (.int .i64 ent)).setCell ⟨w.heap.size+1,5,none⟩ (.slice (some ⟨g,0,none⟩) n cap2))).heap[k]? = W5.heap[k]? := fun k q=>six_other (.string fname) (.slice pa' pn' pc') (.int .i64 (R:Int)) (.int .i64 frm) (.int .i64 ent) (.slice (some ⟨g,0,none⟩) n cap2) q;have hZ9:(((((((W5.setCell ⟨w.heap.size+1,0,none⟩ (.string fname)).setCell ⟨w.heap.size+1,1,none⟩ (.slice pa' pn' pc')).setCell ⟨w.heap.size+1,2,none⟩ (.int .i64 (R:Int))).setCell ⟨w.heap.size+1,3,none⟩ (.int .i64 frm)).setCell ⟨w.heap.size+1,4,none⟩ (.int .i64 ent)).setCell ⟨w.heap.size+1,5,none⟩ (.slice (some ⟨g,0,none⟩) n cap2))).heap.size=W5.heap.size:=six_size _ _ (.string fname) (.slice pa' pn' pc') (.int .i64 (R:Int)) (.int .i64 frm) (.int .i64 ent) (.slice (some ⟨g,0,none⟩) n cap2);have hS9:=six_calm W5 (w.heap.size+1) (.string fname) (.slice pa' pn' pc') (.int .i64 (R:Int)) (.int .i64 frm) (.int .i64 ent) (.slice (some ⟨g,0,none⟩) n cap2)
 generalize ((((((W5.setCell ⟨w.heap.size+1,0,none⟩ (.string fname)).setCell ⟨w.heap.size+1,1,none⟩ (.slice pa' pn' pc')).setCell ⟨w.heap.size+1,2,none⟩ (.int .i64 (R:Int))).setCell ⟨w.heap.size+1,3,none⟩ (.int .i64 frm)).setCell ⟨w.heap.size+1,4,none⟩ (.int .i64 ent)).setCell ⟨w.heap.size+1,5,none⟩ (.slice (some ⟨g,0,none⟩) n cap2))=W9 at *
 have e0:=xheap_cell (o:=0) hF9 rfl;have e1:=xheap_cell (o:=1) hF9 rfl;have e2:=xheap_cell (o:=2) hF9 rfl;have e3:=xheap_cell (o:=3) hF9 rfl;have e4:=xheap_cell (o:=4) hF9 rfl;have e5:=xheap_cell (o:=5) hF9 rfl;clear hF9 r0 r1 r2 r3 r4 r5 u0 u1 u2 u3 u4 u5 b0 b1 b2 b3 b4 b5 hrl;refine end_tr (v:=.tuple #[.agg #[.string fname,.slice pa' pn' pc',.int .i64 (R:Int),.int .i64 frm,.int .i64 ent,.slice (some ⟨g,0,none⟩) n cap2],.int .i64 0]) (by simp[results,results17,go_sem,e0,e1,e2,e3,e4,e5]) rfl ?_;have hz4:=HZ4.out;have hz5:=HZ.out;have hcl:c'.length=n:=by rw[HCUR.out.len];exact HN.out
 unfold retTr;rw[if_pos HR.out];refine⟨_,c',rfl,⟨_,_,rfl,?_,?_,HNM.out⟩,HCUR.out,?_,HCH.out,?_⟩
 ·refine⟨HP4.out.1.of4 (fun hl b o s k c e=>?_),fun hl b o s k c e=>.inr ?_⟩
  ·have:=HP4.out.2 hl b o s k c e
   exact(hO9 b (by omega)).trans (HFR.out b (by omega) this.2.2)
  ·have:=HP4.out.2 hl b o s k c e
   omega
 ·refine⟨_,cap2,by rw[show (⟨fname,params,(R:Int),frm,ent,c'⟩:Fn).code.length=n from hcl],by rw[hcl,←HN.out];exact H88.out,(fun h=>by cases h),fun _=>⟨g,0,rfl,.inr (by omega),fun m x hx=>?_⟩⟩
  exact((HINS.out m x hx).of (fun k q=>hO9 k (by rcases q.1 with z|z<;>omega)) (hO9 g (by omega))).insQ (fun k q=>by rcases q.1 with z|z<;>omega)
 ·have hok2:=codeOkS_of (cur_right HR.out HCUR.out) (f:=⟨fname,params,(R:Int),frm,ent,c'⟩) (Nat.le_trans (cur_sum HCUR.out) HU.out)
  simp only[Int.toNat_natCast] at hok2;exact dead_all hok2 HND.out
 ·exact⟨hS9.1.trans (HO.out.1.trans HB4.out.os),hS9.2.1.trans (HO.out.2.1.trans HB4.out.tape),hS9.2.2.trans (HO.out.2.2.trans HB4.out.output),by have:=HB4.out.size;omega,fun k q=>(hO9 k (by omega)).trans ((HFR.out k (by have:=HB4.out.size;omega) (by omega)).trans (HB4.out.block k q))⟩
set_option maxHeartbeats 8000000
theorem fnV_agg {w:World} {v:Value} {f:Fn} (h:FnV w v f):∃ (pa ca:Option Addr) (pn pc n cap:Nat),v=.agg #[.string f.name,.slice pa pn pc,.int .i64 f.regs,.int .i64 f.frame,.int .i64 f.entry,.slice ca n cap]∧n=f.code.length:=by
 obtain⟨pv,cv,rfl,hp,hc,_⟩:=h;obtain⟨pa,pc,rfl,_⟩:=hp.partsF;obtain⟨ca,cap,rfl,_⟩:=hc;exact⟨pa,ca,_,pc,_,cap,rfl,rfl⟩
theorem FnV.fits {w w':World} {v:Value} {f:Fn} (h:FnV w v f) (hb:Below w.heap.size w w'):FnV w' v f:=by
 obtain⟨pv,cv,h1,h2,h3,h4⟩:=h;exact⟨pv,cv,h1,h2.keep hb,h3.keep hb,h4⟩
theorem treated_any {w0 w:World} {v:Value} {f:Fn} (hf:FnV w0 v f) (hw0:Below w0.heap.size w0 w) (ht:ShTab w) (hu:sumU f.code≤100000000):Calls prog 17 #[v,.func (.func 18) #[] #[]] w (retTr w0.heap.size f w):=by
 obtain⟨pa,ca,pn,pc,n,cap,rfl,rfl⟩:=fnV_agg hf
 cases hr:RightF f with
 |false=>exact treated_bad w0.heap.size w f.name pa ca pn pc _ cap f.regs f.frame f.entry f hr (fun W hW=>by
   have:=pright_any (hf.fits (bel_trans hw0 hW)) (ht.keep hW);rw[hr] at this;exact this)
 |true =>
  have h0:=(right_parts hr).1;obtain⟨fname,params,regs,frm,ent,code⟩:=f;obtain⟨R,rfl⟩:∃ R:Nat,regs=R:=⟨regs.toNat,by have:0≤regs:=h0;omega⟩;exact treated_good w0 w fname pa ca pn pc _ cap R frm ent params code hr rfl hf hw0 ht hu
theorem dead_any {w:World} {v:Value} {f:Fn} (hf:FnV w v f) (ht:ShTab w) (hu:sumU f.code≤100000000):Calls prog 5 #[v] w (retTr w.heap.size f w):=by
 have HTR:Hid (∀ W,Below w.heap.size w W→Calls prog 17 #[v,.func (.func 18) #[] #[]] W (retTr w.heap.size f W)):=fun W hW=>treated_any hf hW (ht.keep hW) hu;obtain⟨pa,ca,pn,pc,n,cap,rfl,hn⟩:=fnV_agg hf;clear hf ht hu hn;obtain⟨fname,params,regs,frm,ent,code⟩:=f
 go_enter func5,ntmps5
 go_upto_region 1 with fail
 refine gwp_namedF (Tr0 w #[.string fname,.slice pa pn pc,.int .i64 regs,.int .i64 frm,.int .i64 ent,.slice ca n cap]) ⟨bel_alloc (bel_alloc (Below.refl _ _) _) _,by simp,xkeep_heap (bel_alloc (Below.refl _ _) _) (xheap_new w _),by have:=xheap_new (w.alloc (.cells #[.string fname,.slice pa pn pc,.int .i64 regs,.int .i64 frm,.int .i64 ent,.slice ca n cap] 25 (0,0))) (.cells #[.string ⟨#[]⟩,.slice none 0 0,.int .i64 0,.int .i64 0,.int .i64 0,.slice none 0 0] 25 (0,0));rw[World.size_alloc] at this;exact this⟩ ?_;intro W1 h1;have H1:=hidF h1;have hfb:=h1.fb;have b0:=xheap_cell (o:=0) hfb rfl;have b1:=xheap_cell (o:=1) hfb rfl;have b2:=xheap_cell (o:=2) hfb rfl;have b3:=xheap_cell (o:=3) hfb rfl;have b4:=xheap_cell (o:=4) hfb rfl;have b5:=xheap_cell (o:=5) hfb rfl;clear h1 hfb;have HC:=hidF (HTR.out W1 H1.out.bel);clear HTR
 cases hr:RightF ⟨fname,params,regs,frm,ent,code⟩ with
 |false =>
  have HRR:=hidF hr
  have HC2:Hid (Calls prog 17 #[.agg #[.string fname,.slice pa pn pc,.int .i64 regs,.int .i64 frm,.int .i64 ent,.slice ca n cap],.func (.func 18) #[] #[]] W1 fun e W=>e=.returned (.tuple #[.agg #[.string ⟨#[]⟩,.slice none 0 0,.int .i64 0,.int .i64 0,.int .i64 0,.slice none 0 0],.int .i64 1])∧Below W1.heap.size W1 W):=HC.out.mono fun e W h=>by
   unfold retTr at h;rw[if_neg (by rw[hr];decide)] at h;exact h
  clear hr HC
  go_wp2_with (go_at_call 17;refine HC2.out.mono ?_;rintro e W2 ⟨rfl,hb2⟩;have H2:=hidF (H1.out.keep hb2);clear hb2;have hrb:=H2.out.rb;have r0:=xheap_cell (o:=0) hrb rfl;have r1:=xheap_cell (o:=1) hrb rfl;have r2:=xheap_cell (o:=2) hrb rfl;have r3:=xheap_cell (o:=3) hrb rfl;have r4:=xheap_cell (o:=4) hrb rfl;have r5:=xheap_cell (o:=5) hrb rfl;have u0:=xheap_frozen (o:=0) hrb;have u1:=xheap_frozen (o:=1) hrb;have u2:=xheap_frozen (o:=2) hrb;have u3:=xheap_frozen (o:=3) hrb;have u4:=xheap_frozen (o:=4) hrb;have u5:=xheap_frozen (o:=5) hrb;clear hrb b0 b1 b2 b3 b4 b5)
  have hF:(((((((W2.setCell ⟨w.heap.size+1,0,none⟩ (.string ⟨#[]⟩)).setCell ⟨w.heap.size+1,1,none⟩ (.slice none 0 0)).setCell ⟨w.heap.size+1,2,none⟩ (.int .i64 0)).setCell ⟨w.heap.size+1,3,none⟩ (.int .i64 0)).setCell ⟨w.heap.size+1,4,none⟩ (.int .i64 0)).setCell ⟨w.heap.size+1,5,none⟩ (.slice none 0 0))).heap[w.heap.size+1]? = some (.cells #[.string ⟨#[]⟩,.slice none 0 0,.int .i64 0,.int .i64 0,.int .i64 0,.slice none 0 0] 25 (0,0)):=xheap_set_same (xheap_set_same (xheap_set_same (xheap_set_same (xheap_set_same (xheap_set_same H2.out.rb _) _) _) _) _) _;have hB:=six_below (b:=w.heap.size+1) (.string ⟨#[]⟩) (.slice none 0 0) (.int .i64 0) (.int .i64 0) (.int .i64 0) (.slice none 0 0) H2.out.bel (by omega)
  generalize ((((((W2.setCell ⟨w.heap.size+1,0,none⟩ (.string ⟨#[]⟩)).setCell ⟨w.heap.size+1,1,none⟩ (.slice none 0 0)).setCell ⟨w.heap.size+1,2,none⟩ (.int .i64 0)).setCell ⟨w.heap.size+1,3,none⟩ (.int .i64 0)).setCell ⟨w.heap.size+1,4,none⟩ (.int .i64 0)).setCell ⟨w.heap.size+1,5,none⟩ (.slice none 0 0))=W9 at *
  have e0:=xheap_cell (o:=0) hF rfl;have e1:=xheap_cell (o:=1) hF rfl;have e2:=xheap_cell (o:=2) hF rfl;have e3:=xheap_cell (o:=3) hF rfl;have e4:=xheap_cell (o:=4) hF rfl;have e5:=xheap_cell (o:=5) hF rfl;clear hF r0 r1 r2 r3 r4 r5 u0 u1 u2 u3 u4 u5 H2 H1;refine end_tr (v:=.tuple #[.agg #[.string ⟨#[]⟩,.slice none 0 0,.int .i64 0,.int .i64 0,.int .i64 0,.slice none 0 0],.int .i64 1]) (by simp[results,results5,go_sem,e0,e1,e2,e3,e4,e5]) rfl ?_;unfold retTr;rw[if_neg (by rw[HRR.out];decide)];exact⟨rfl,hB⟩
 |true =>
  have HRR:=hidF hr
  have HC2:Hid (Calls prog 17 #[.agg #[.string fname,.slice pa pn pc,.int .i64 regs,.int .i64 frm,.int .i64 ent,.slice ca n cap],.func (.func 18) #[] #[]] W1 fun e W=>∃ (pg cg:Option Addr) (png pcg ng capg:Nat) (c':List Ins),e=.returned (.tuple #[.agg #[.string fname,.slice pg png pcg,.int .i64 regs,.int .i64 frm,.int .i64 ent,.slice cg ng capg],.int .i64 0])∧FnW (fun k=>k<w.heap.size∨W1.heap.size≤k) W (.agg #[.string fname,.slice pg png pcg,.int .i64 regs,.int .i64 frm,.int .i64 ent,.slice cg ng capg]) ⟨fname,params,regs,frm,ent,c'⟩∧Cur code c'∧(∀ q n,¬ DeadAt c' q n)∧(c'=code∨∃ q n,DeadAt code q n)∧Below W1.heap.size W1 W):=HC.out.mono fun e W h=>by
   unfold retTr at h;rw[if_pos hr] at h;obtain⟨v,c',h1,h2,h3⟩:=h;obtain⟨pg,cg,png,pcg,ng,capg,rfl,_⟩:=fnV_agg h2.fnV;exact⟨pg,cg,png,pcg,ng,capg,c',h1,h2,h3⟩
  clear hr HC
  go_wp2_with (go_at_call 17;refine HC2.out.mono ?_;rintro e W2 ⟨pg,cg,png,pcg,ng,capg,c',rfl,hv,hcur,hnd,hch,hb2⟩;have H2:=hidF (H1.out.keep hb2);have HV:=hidF hv;have HQ:=hidF (And.intro hcur (And.intro hnd hch));clear hb2 hv hcur hnd hch;have hrb:=H2.out.rb;have r0:=xheap_cell (o:=0) hrb rfl;have r1:=xheap_cell (o:=1) hrb rfl;have r2:=xheap_cell (o:=2) hrb rfl;have r3:=xheap_cell (o:=3) hrb rfl;have r4:=xheap_cell (o:=4) hrb rfl;have r5:=xheap_cell (o:=5) hrb rfl;have u0:=xheap_frozen (o:=0) hrb;have u1:=xheap_frozen (o:=1) hrb;have u2:=xheap_frozen (o:=2) hrb;have u3:=xheap_frozen (o:=3) hrb;have u4:=xheap_frozen (o:=4) hrb;have u5:=xheap_frozen (o:=5) hrb;clear hrb b0 b1 b2 b3 b4 b5)
  have hF:(((((((W2.setCell ⟨w.heap.size+1,0,none⟩ (.string fname)).setCell ⟨w.heap.size+1,1,none⟩ (.slice pg png pcg)).setCell ⟨w.heap.size+1,2,none⟩ (.int .i64 regs)).setCell ⟨w.heap.size+1,3,none⟩ (.int .i64 frm)).setCell ⟨w.heap.size+1,4,none⟩ (.int .i64 ent)).setCell ⟨w.heap.size+1,5,none⟩ (.slice cg ng capg))).heap[w.heap.size+1]? = some (.cells #[.string fname,.slice pg png pcg,.int .i64 regs,.int .i64 frm,.int .i64 ent,.slice cg ng capg] 25 (0,0)):=xheap_set_same (xheap_set_same (xheap_set_same (xheap_set_same (xheap_set_same (xheap_set_same H2.out.rb _) _) _) _) _) _;have hB:=six_below (b:=w.heap.size+1) (.string fname) (.slice pg png pcg) (.int .i64 regs) (.int .i64 frm) (.int .i64 ent) (.slice cg ng capg) H2.out.bel (by omega);have hO:∀ k,k≠w.heap.size+1→(((((((W2.setCell ⟨w.heap.size+1,0,none⟩ (.string fname)).setCell ⟨w.heap.size+1,1,none⟩ (.slice pg png pcg)).setCell ⟨w.heap.size+1,2,none⟩ (.int .i64 regs)).setCell ⟨w.heap.size+1,3,none⟩ (.int .i64 frm)).setCell ⟨w.heap.size+1,4,none⟩ (.int .i64 ent)).setCell ⟨w.heap.size+1,5,none⟩ (.slice cg ng capg))).heap[k]? = W2.heap[k]? := fun k q=>six_other (.string fname) (.slice pg png pcg) (.int .i64 regs) (.int .i64 frm) (.int .i64 ent) (.slice cg ng capg) q
  generalize ((((((W2.setCell ⟨w.heap.size+1,0,none⟩ (.string fname)).setCell ⟨w.heap.size+1,1,none⟩ (.slice pg png pcg)).setCell ⟨w.heap.size+1,2,none⟩ (.int .i64 regs)).setCell ⟨w.heap.size+1,3,none⟩ (.int .i64 frm)).setCell ⟨w.heap.size+1,4,none⟩ (.int .i64 ent)).setCell ⟨w.heap.size+1,5,none⟩ (.slice cg ng capg))=W9 at *
  have e0:=xheap_cell (o:=0) hF rfl;have e1:=xheap_cell (o:=1) hF rfl;have e2:=xheap_cell (o:=2) hF rfl;have e3:=xheap_cell (o:=3) hF rfl;have e4:=xheap_cell (o:=4) hF rfl;have e5:=xheap_cell (o:=5) hF rfl;clear hF r0 r1 r2 r3 r4 r5 u0 u1 u2 u3 u4 u5;refine end_tr (v:=.tuple #[.agg #[.string fname,.slice pg png pcg,.int .i64 regs,.int .i64 frm,.int .i64 ent,.slice cg ng capg],.int .i64 0]) (by simp[results,results5,go_sem,e0,e1,e2,e3,e4,e5]) rfl ?_;have hs1:=H1.out.size;unfold retTr;rw[if_pos HRR.out];refine⟨_,c',rfl,?_,HQ.out.1,HQ.out.2.1,HQ.out.2.2,hB⟩
  obtain⟨pv,cv,q1,q2,q3,q4⟩:=HV.out.keep (w':=W9) (fun p u hp hc=>by
   rw[World.cell?_of_block (w:=W2) (hO p.block (by rcases hp with z|z<;>omega))];exact hc)
  exact⟨pv,cv,q1,q2.mono (fun k hk=>by rcases hk with z|z<;>omega),q3.mono (fun k hk=>by rcases hk with z|z<;>omega),q4⟩
set_option maxHeartbeats 20000000
theorem sameI_walk (op sub a b d k s t:Int) (va ua:Option Addr) (n vc uc vb vo ub uo:Nat) (l:List Int) (w:World) (hn:n*8≤140737488355328) (HN:Hid (n=l.length)) (HA:Hid (0<n→va=some ⟨vb,vo,none⟩)) (HU:Hid (0<n→ua=some ⟨ub,uo,none⟩))
  (HC:Hid (∀ (i:Nat) x,l[i]? = some x→w.cell? ⟨vb,vo+i,none⟩=some (.int .i64 x))) (HD:Hid (∀ (i:Nat) x,l[i]? = some x→w.cell? ⟨ub,uo+i,none⟩=some (.int .i64 x))) :
  Calls prog 11 #[.agg #[.int .i64 op,.int .i64 sub,.int .i64 a,.int .i64 b,.int .i64 d,.int .i64 k,.slice va n vc,.int .i64 s,.int .i64 t],.agg #[.int .i64 op,.int .i64 sub,.int .i64 a,.int .i64 b,.int .i64 d,.int .i64 k,.slice ua n uc,.int .i64 s,.int .i64 t]] w (retP (.bool true) w):=by
 have hnm:(n:Int)≤9223372036854775807:=by omega
 go_enter func11,ntmps11
 go_wp2
 go_loopw [5] (fun vv wz=>∃ i:Nat,i≤n∧vv=.int .i64 i∧Hid (Below ((w.alloc (.cells #[.int .i64 op,.int .i64 sub,.int .i64 a,.int .i64 b,.int .i64 d,.int .i64 k,.slice va n vc,.int .i64 s,.int .i64 t] 35 (0,0))).alloc (.cells #[.int .i64 op,.int .i64 sub,.int .i64 a,.int .i64 b,.int .i64 d,.int .i64 k,.slice ua n uc,.int .i64 s,.int .i64 t] 35 (0,0))).heap.size ((w.alloc (.cells #[.int .i64 op,.int .i64 sub,.int .i64 a,.int .i64 b,.int .i64 d,.int .i64 k,.slice va n vc,.int .i64 s,.int .i64 t] 35 (0,0))).alloc (.cells #[.int .i64 op,.int .i64 sub,.int .i64 a,.int .i64 b,.int .i64 d,.int .i64 k,.slice ua n uc,.int .i64 s,.int .i64 t] 35 (0,0))) wz)) (fun vv _=>n - (intOf vv).toNat)
 case atStart=>exact⟨0,by omega,rfl,Below.refl _ _⟩
 case round =>
  obtain⟨i,hi,rfl,HBz⟩:=hrel
  rename World=>wz
  have x6:=keep_cell (p:=⟨w.heap.size,6,none⟩) HBz.out (v:=.slice va n vc) (by simp);have y6:=keep_cell (p:=⟨w.heap.size+1,6,none⟩) HBz.out (v:=.slice ua n uc) (by simp)
  by_cases hin:i<n
  ·obtain rfl:=HA.out (by omega)
   obtain rfl:=HU.out (by omega);have j0:(0:Int)≤i:=by omega
   have j1:(i:Int)<n:=by omega
   have hget:=List.getElem?_eq_getElem (l:=l) (show i<l.length by rw[←HN.out];exact hin)
   generalize l[i]'(by rw[←HN.out];exact hin)=y at hget
   have cx:=keep_cell HBz.out (keep_alloc (keep_alloc (HC.out i y hget) _) _);have cy:=keep_cell HBz.out (keep_alloc (keep_alloc (HD.out i y hget) _) _);clear hget;go_wp2_with fail
   go_quiet (fail)
   go_wp2
   go_roundw
   case rel=>exact⟨i+1,by omega,by simp,hid (bel_drewN HBz.out _)⟩
   case measure=>simp[intOf];omega
  ·obtain rfl:n=i:=by omega
   go_wp2;go_ret;exact⟨rfl,bel_trans (bel_alloc (bel_alloc (Below.refl _ _) _) _) HBz.out⟩
theorem sameI_any {w:World} {x y:Value} {i:Ins} (hx:∃ v,x=insV i.op i.sub i.a i.b i.d i.k v i.s i.t∧IL w v i.args) (hy:∃ v,y=insV i.op i.sub i.a i.b i.d i.k v i.s i.t∧IL w v i.args):Calls prog 11 #[x,y] w (retP (.bool true) w):=by
 obtain⟨v,rfl,hv⟩:=hx;obtain⟨u,rfl,hu⟩:=hy;obtain⟨va,vc,vb,vo,rfl,hl,ha,hc⟩:=hv.parts;obtain⟨ua,uc,ub,uo,rfl,_,ha2,hc2⟩:=hu.parts;exact sameI_walk i.op i.sub i.a i.b i.d i.k i.s i.t va ua i.args.length vc uc vb vo ub uo i.args w hl rfl ha ha2 hc hc2
theorem sameF_walk (name:ByteArray) (regs frame entry:Int) (pa qa ca da:Option Addr) (np pc qc pb po qb qo n cc dc cb co db do_:Nat) (params:List Int) (code:List Ins) (w:World) (hp:np*8≤140737488355328) (hn:n*88≤140737488355328) (HNP:Hid (np=params.length)) (HNC:Hid (n=code.length))
  (HPA:Hid (0<np→pa=some ⟨pb,po,none⟩)) (HQA:Hid (0<np→qa=some ⟨qb,qo,none⟩)) (HCA:Hid (0<n→ca=some ⟨cb,co,none⟩)) (HDA:Hid (0<n→da=some ⟨db,do_,none⟩))
  (HPC:Hid (∀ (i:Nat) x,params[i]? = some x→w.cell? ⟨pb,po+i,none⟩=some (.int .i64 x))) (HQC:Hid (∀ (i:Nat) x,params[i]? = some x→w.cell? ⟨qb,qo+i,none⟩=some (.int .i64 x)))
  (HCC:Hid (∀ (i:Nat) x,code[i]? = some x→InsAt w cb (co+i*9) x)) (HDC:Hid (∀ (i:Nat) x,code[i]? = some x→InsAt w db (do_+i*9) x)) :
  Calls prog 7 #[.agg #[.string name,.slice pa np pc,.int .i64 regs,.int .i64 frame,.int .i64 entry,.slice ca n cc],.agg #[.string name,.slice qa np qc,.int .i64 regs,.int .i64 frame,.int .i64 entry,.slice da n dc]] w (retP (.bool true) w):=by
 have hpm:(np:Int)≤9223372036854775807:=by omega
 have hnm:(n:Int)≤9223372036854775807:=by omega
 go_enter func7,ntmps7
 go_wp2
 go_loopw [5] (fun vv wz=>∃ i:Nat,i≤np∧vv=.int .i64 i∧Hid (Below ((w.alloc (.cells #[.string name,.slice pa np pc,.int .i64 regs,.int .i64 frame,.int .i64 entry,.slice ca n cc] 25 (0,0))).alloc (.cells #[.string name,.slice qa np qc,.int .i64 regs,.int .i64 frame,.int .i64 entry,.slice da n dc] 25 (0,0))).heap.size ((w.alloc (.cells #[.string name,.slice pa np pc,.int .i64 regs,.int .i64 frame,.int .i64 entry,.slice ca n cc] 25 (0,0))).alloc (.cells #[.string name,.slice qa np qc,.int .i64 regs,.int .i64 frame,.int .i64 entry,.slice da n dc] 25 (0,0))) wz)) (fun vv _=>np - (intOf vv).toNat)
 case atStart=>exact⟨0,by omega,rfl,Below.refl _ _⟩
 case round =>
  obtain⟨i,hi,rfl,HBz⟩:=hrel
  rename World=>wz
  have x1:=keep_cell (p:=⟨w.heap.size,1,none⟩) HBz.out (v:=.slice pa np pc) (by simp);have y1:=keep_cell (p:=⟨w.heap.size+1,1,none⟩) HBz.out (v:=.slice qa np qc) (by simp);have x5:=keep_cell (p:=⟨w.heap.size,5,none⟩) HBz.out (v:=.slice ca n cc) (by simp);have y5:=keep_cell (p:=⟨w.heap.size+1,5,none⟩) HBz.out (v:=.slice da n dc) (by simp)
  by_cases hin:i<np
  ·obtain rfl:=HPA.out (by omega)
   obtain rfl:=HQA.out (by omega);have j0:(0:Int)≤i:=by omega
   have j1:(i:Int)<np:=by omega
   have hget:=List.getElem?_eq_getElem (l:=params) (show i<params.length by rw[←HNP.out];exact hin)
   generalize params[i]'(by rw[←HNP.out];exact hin)=y at hget
   have cx:=keep_cell HBz.out (keep_alloc (keep_alloc (HPC.out i y hget) _) _);have cy:=keep_cell HBz.out (keep_alloc (keep_alloc (HQC.out i y hget) _) _);clear hget;go_wp2_with fail
   go_quiet (fail)
   go_wp2
   go_roundw
   case rel=>exact⟨i+1,by omega,by simp,hid (bel_drewN HBz.out _)⟩
   case measure=>simp[intOf];omega
  ·obtain rfl:np=i:=by omega
   go_wp2
   go_loopw [6] (fun vv wz=>∃ i:Nat,i≤n∧vv=.int .i64 i∧Hid (Below ((w.alloc (.cells #[.string name,.slice pa np pc,.int .i64 regs,.int .i64 frame,.int .i64 entry,.slice ca n cc] 25 (0,0))).alloc (.cells #[.string name,.slice qa np qc,.int .i64 regs,.int .i64 frame,.int .i64 entry,.slice da n dc] 25 (0,0))).heap.size ((w.alloc (.cells #[.string name,.slice pa np pc,.int .i64 regs,.int .i64 frame,.int .i64 entry,.slice ca n cc] 25 (0,0))).alloc (.cells #[.string name,.slice qa np qc,.int .i64 regs,.int .i64 frame,.int .i64 entry,.slice da n dc] 25 (0,0))) wz)) (fun vv _=>n - (intOf vv).toNat)
   case atStart=>exact⟨0,by omega,rfl,HBz⟩
   case round =>
    obtain⟨i,hi,rfl,HBz⟩:=hrel
    rename World=>wz
    have x5:=keep_cell (p:=⟨w.heap.size,5,none⟩) HBz.out (v:=.slice ca n cc) (by simp);have y5:=keep_cell (p:=⟨w.heap.size+1,5,none⟩) HBz.out (v:=.slice da n dc) (by simp)
    by_cases hin:i<n
    ·obtain rfl:=HCA.out (by omega)
     obtain rfl:=HDA.out (by omega);have j0:(0:Int)≤i:=by omega
     have j1:(i:Int)<n:=by omega
     have hget:=List.getElem?_eq_getElem (l:=code) (show i<code.length by rw[←HNC.out];exact hin)
     generalize code[i]'(by rw[←HNC.out];exact hin)=z at hget
     have hbb:Below w.heap.size w wz:=bel_trans (bel_alloc (bel_alloc (Below.refl _ _) _) _) HBz.out;obtain⟨v,hv,c0,c1,c2,c3,c4,c5,c6,c7,c8⟩:=(HCC.out i z hget).keep hbb;obtain⟨u,hu,d0,d1,d2,d3,d4,d5,d6,d7,d8⟩:=(HDC.out i z hget).keep hbb;have HSI:Hid (∀ W,Below wz.heap.size wz W→Calls prog 11 #[insV z.op z.sub z.a z.b z.d z.k v z.s z.t,insV z.op z.sub z.a z.b z.d z.k u z.s z.t] W (retP (.bool true) W)):=fun W hW=>sameI_any (i:=z) ⟨v,rfl,hv.keep hW⟩ ⟨u,rfl,hu.keep hW⟩;clear hget hv hu hbb;have hdB:∀ {A0 A1 A2 A3 A4 A5 A6 A7 A8 A9 A10 A11 A12 A13 A14 A15 A16 A17 A18 A19:Prop} {x:World},A0∧A1∧A2∧A3∧A4∧A5∧A6∧A7∧A8∧A9∧A10∧A11∧A12∧A13∧A14∧A15∧A16∧A17∧A18∧A19∧Below wz.heap.size wz x→Below wz.heap.size wz x:=fun h=>h.2.2.2.2.2.2.2.2.2.2.2.2.2.2.2.2.2.2.2.2;have hdS:∀ {g:World},Below wz.heap.size wz g→(g.cell? ⟨w.heap.size,5,none⟩=some (.slice (some ⟨cb,co,none⟩) n cc)∧g.cell? ⟨w.heap.size+1,5,none⟩=some (.slice (some ⟨db,do_,none⟩) n dc)∧g.cell? ⟨cb,co+i*9,none⟩=some (.int .i64 z.op)∧g.cell? ⟨cb,co+i*9+1,none⟩=some (.int .i64 z.sub)∧g.cell? ⟨cb,co+i*9+2,none⟩=some (.int .i64 z.a)∧g.cell? ⟨cb,co+i*9+3,none⟩=some (.int .i64 z.b)∧g.cell? ⟨cb,co+i*9+4,none⟩=some (.int .i64 z.d)∧g.cell? ⟨cb,co+i*9+5,none⟩=some (.int .i64 z.k)∧g.cell? ⟨cb,co+i*9+6,none⟩=some (v)∧g.cell? ⟨cb,co+i*9+7,none⟩=some (.int .i64 z.s)∧g.cell? ⟨cb,co+i*9+8,none⟩=some (.int .i64 z.t)∧g.cell? ⟨db,do_+i*9,none⟩=some (.int .i64 z.op)∧g.cell? ⟨db,do_+i*9+1,none⟩=some (.int .i64 z.sub)∧g.cell? ⟨db,do_+i*9+2,none⟩=some (.int .i64 z.a)∧g.cell? ⟨db,do_+i*9+3,none⟩=some (.int .i64 z.b)∧g.cell? ⟨db,do_+i*9+4,none⟩=some (.int .i64 z.d)∧g.cell? ⟨db,do_+i*9+5,none⟩=some (.int .i64 z.k)∧g.cell? ⟨db,do_+i*9+6,none⟩=some (u)∧g.cell? ⟨db,do_+i*9+7,none⟩=some (.int .i64 z.s)∧g.cell? ⟨db,do_+i*9+8,none⟩=some (.int .i64 z.t)∧Below wz.heap.size wz g):=fun h=>⟨keep_cell h x5,keep_cell h y5,keep_cell h c0,keep_cell h c1,keep_cell h c2,keep_cell h c3,keep_cell h c4,keep_cell h c5,keep_cell h c6,keep_cell h c7,keep_cell h c8,keep_cell h d0,keep_cell h d1,keep_cell h d2,keep_cell h d3,keep_cell h d4,keep_cell h d5,keep_cell h d6,keep_cell h d7,keep_cell h d8,h⟩;go_wp2_with fail
     refine wp_region_held_drew (S:=(fun w'=>w'.cell? ⟨w.heap.size,5,none⟩=some (.slice (some ⟨cb,co,none⟩) n cc)∧w'.cell? ⟨w.heap.size+1,5,none⟩=some (.slice (some ⟨db,do_,none⟩) n dc)∧w'.cell? ⟨cb,co+i*9,none⟩=some (.int .i64 z.op)∧w'.cell? ⟨cb,co+i*9+1,none⟩=some (.int .i64 z.sub)∧w'.cell? ⟨cb,co+i*9+2,none⟩=some (.int .i64 z.a)∧w'.cell? ⟨cb,co+i*9+3,none⟩=some (.int .i64 z.b)∧w'.cell? ⟨cb,co+i*9+4,none⟩=some (.int .i64 z.d)∧w'.cell? ⟨cb,co+i*9+5,none⟩=some (.int .i64 z.k)∧w'.cell? ⟨cb,co+i*9+6,none⟩=some (v)∧w'.cell? ⟨cb,co+i*9+7,none⟩=some (.int .i64 z.s)∧w'.cell? ⟨cb,co+i*9+8,none⟩=some (.int .i64 z.t)∧w'.cell? ⟨db,do_+i*9,none⟩=some (.int .i64 z.op)∧w'.cell? ⟨db,do_+i*9+1,none⟩=some (.int .i64 z.sub)∧w'.cell? ⟨db,do_+i*9+2,none⟩=some (.int .i64 z.a)∧w'.cell? ⟨db,do_+i*9+3,none⟩=some (.int .i64 z.b)∧w'.cell? ⟨db,do_+i*9+4,none⟩=some (.int .i64 z.d)∧w'.cell? ⟨db,do_+i*9+5,none⟩=some (.int .i64 z.k)∧w'.cell? ⟨db,do_+i*9+6,none⟩=some (u)∧w'.cell? ⟨db,do_+i*9+7,none⟩=some (.int .i64 z.s)∧w'.cell? ⟨db,do_+i*9+8,none⟩=some (.int .i64 z.t)∧Below wz.heap.size wz w')) (by kernel_rfl) (hdS (Below.drew (Below.refl _ _))) (fun hH=>?_);refine wpAnyH_take (i:=0) (oi:=?oa0) (v:=?va0) ?ia0 (by kernel_rfl) (by kernel_rfl) (by kernel_rfl) ?qa0 ?ya0 hH ?_
     case ia0=>simp only[zga,zgs,zgz];rfl
     case qa0=>exact fun _ _ _ h=>h
     case ya0=>refine .inl ⟨by rfl,?_⟩;intro w' hSw;(try dsimp only at hSw);go_simp;try with_reducible rfl
     simp only[Act.put,zsa,zsz,zss];refine wpAnyH_take (i:=1) (oi:=?oa1) (v:=?va1) ?ia1 (by kernel_rfl) (by kernel_rfl) (by kernel_rfl) ?qa1 ?ya1 hH ?_
     case ia1=>simp only[zga,zgs,zgz];rfl
     case qa1=>exact fun _ _ _ h=>h
     case ya1=>refine .inl ⟨by rfl,?_⟩;intro w' hSw;(try dsimp only at hSw);go_simp;try with_reducible rfl
     simp only[Act.put,zsa,zsz,zss];refine wpAnyH_take (i:=2) (oi:=?oa2) (v:=?va2) ?ia2 (by kernel_rfl) (by kernel_rfl) (by kernel_rfl) ?qa2 ?ya2 hH ?_
     case ia2=>simp only[zga,zgs,zgz];rfl
     case qa2=>exact fun _ _ _ h=>h
     case ya2=>refine .inl ⟨by rfl,?_⟩;intro w' hSw;(try dsimp only at hSw);go_simp;try with_reducible rfl
     simp only[Act.put,zsa,zsz,zss];refine wpAnyH_take (i:=3) (oi:=?oa3) (v:=?va3) ?ia3 (by kernel_rfl) (by kernel_rfl) (by kernel_rfl) ?qa3 ?ya3 hH ?_
     case ia3=>simp only[zga,zgs,zgz];rfl
     case qa3=>exact fun _ _ _ h=>h
     case ya3=>refine .inl ⟨by rfl,?_⟩;intro w' hSw;(try dsimp only at hSw);go_simp;try with_reducible rfl
     simp only[Act.put,zsa,zsz,zss];refine wpAnyH_take (i:=4) (oi:=?oa4) (v:=?va4) ?ia4 (by kernel_rfl) (by kernel_rfl) (by kernel_rfl) ?qa4 ?ya4 hH ?_
     case ia4=>simp only[zga,zgs,zgz];rfl
     case qa4=>exact fun _ _ _ h=>h
     case ya4=>refine .inl ⟨by rfl,?_⟩;intro w' hSw;(try dsimp only at hSw);go_simp;try with_reducible rfl
     simp only[Act.put,zsa,zsz,zss];refine wpAnyH_take (i:=5) (oi:=?oa5) (v:=?va5) ?ia5 (by kernel_rfl) (by kernel_rfl) (by kernel_rfl) ?qa5 ?ya5 hH ?_
     case ia5=>simp only[zga,zgs,zgz];rfl
     case qa5=>exact fun _ _ _ h=>h
     case ya5=>refine .inl ⟨by rfl,?_⟩;intro w' hSw;(try dsimp only at hSw);go_simp;try with_reducible rfl
     simp only[Act.put,zsa,zsz,zss];refine wpAnyH_take (i:=6) (oi:=?oa6) (v:=?va6) ?ia6 (by kernel_rfl) (by kernel_rfl) (by kernel_rfl) ?qa6 ?ya6 hH ?_
     case ia6=>simp only[zga,zgs,zgz];rfl
     case qa6=>exact fun _ _ _ h=>h
     case ya6=>refine .inl ⟨by rfl,?_⟩;intro w' hSw;(try dsimp only at hSw);go_simp;try with_reducible rfl
     simp only[Act.put,zsa,zsz,zss];refine wpAnyH_take (i:=7) (oi:=?oa7) (v:=?va7) ?ia7 (by kernel_rfl) (by kernel_rfl) (by kernel_rfl) ?qa7 ?ya7 hH ?_
     case ia7=>simp only[zga,zgs,zgz];rfl
     case qa7=>exact fun _ _ _ h=>h
     case ya7=>refine .inl ⟨by rfl,?_⟩;intro w' hSw;(try dsimp only at hSw);go_simp;try with_reducible rfl
     simp only[Act.put,zsa,zsz,zss];refine wpAnyH_take (i:=8) (oi:=?oa8) (v:=?va8) ?ia8 (by kernel_rfl) (by kernel_rfl) (by kernel_rfl) ?qa8 ?ya8 hH ?_
     case ia8=>simp only[zga,zgs,zgz];rfl
     case qa8=>exact fun _ _ _ h=>h
     case ya8=>refine .inl ⟨by rfl,?_⟩;intro w' hSw;(try dsimp only at hSw);go_simp;try with_reducible rfl
     simp only[Act.put,zsa,zsz,zss];refine wpAnyH_take (i:=9) (oi:=?oa9) (v:=?va9) ?ia9 (by kernel_rfl) (by kernel_rfl) (by kernel_rfl) ?qa9 ?ya9 hH ?_
     case ia9=>simp only[zga,zgs,zgz];rfl
     case qa9=>exact fun _ _ _ h=>h
     case ya9=>refine .inl ⟨by rfl,?_⟩;intro w' hSw;(try dsimp only at hSw);go_simp;try with_reducible rfl
     simp only[Act.put,zsa,zsz,zss];refine wpAnyH_ready (rs:=[10]) (by kernel_rfl) (by simp) ?_;refine AllReadyH.cons (o:=?oa10) ?ia10 (fun K hK=>?_) AllReadyH.nil
     case ia10=>simp only[zga,zgs,zgz];rfl
     go_simp;refine(HSI.out _ (hdB hH)).mono ?_;rintro e v10 ⟨rfl,hv10⟩;go_wp2_with fail
     refine hK.out _ _ (hdS (bel_trans (hdB hH) hv10)) (fun hN=>?_);clear hK K hH;have hH:=hN;clear hN
     try simp only[Act.put,zsa,zsz,zss]
     refine wpAnyH_take (i:=11) (oi:=?oa11) (v:=?va11) ?ia11 (by kernel_rfl) (by kernel_rfl) (by kernel_rfl) ?qa11 ?ya11 hH ?_
     case ia11=>simp only[zga,zgs,zgz];rfl
     case qa11=>exact fun _ _ _ h=>h
     case ya11=>refine .inl ⟨by rfl,?_⟩;intro w' hSw;(try dsimp only at hSw);go_simp;try with_reducible rfl
     simp only[Act.put,zsa,zsz,zss];refine wpAnyH_done (by kernel_rfl) ?_ _;have HBf:=hid (bel_trans HBz.out (hdB hH));clear hH hdB hdS;go_wp2
     go_roundw
     case rel=>exact⟨i+1,by omega,by simp,HBf⟩
     case measure=>simp[intOf];omega
    ·obtain rfl:n=i:=by omega
     go_wp2;go_ret;exact⟨rfl,bel_trans (bel_alloc (bel_alloc (Below.refl _ _) _) _) HBz.out⟩
theorem sameF_any {w:World} {x y:Value} {f:Fn} (hx:FnV w x f) (hy:FnV w y f):Calls prog 7 #[x,y] w (retP (.bool true) w):=by
 obtain⟨pv,cv,rfl,hp,hc,_⟩:=hx;obtain⟨qv,dv,rfl,hq,hd,_⟩:=hy;obtain⟨pa,pc,pb,po,rfl,hpl,hpa,hpc⟩:=hp.parts;obtain⟨qa,qc,qb,qo,rfl,_,hqa,hqc⟩:=hq.parts;obtain⟨ca,cc,cb,co,rfl,hcl,hca,hcc⟩:=hc.parts;obtain⟨da,dc,db,do_,rfl,_,hda,hdc⟩:=hd.parts;exact sameF_walk f.name f.regs f.frame f.entry pa qa ca da _ pc qc pb po qb qo _ cc dc cb co db do_ f.params f.code w hpl hcl rfl rfl hpa hqa hca hda hpc hqc hcc hdc
set_option maxHeartbeats 16000000
def retT (N R:Nat) (p:Nat→Nat→Prop) (w:World):Ending→World→Prop:=fun e W=>∃ LB rb t,e=.returned (.slice (some ⟨LB,0,none⟩) N N)∧TB w.heap.size LB N R rb t W∧(∀ n r,n<N→r<R→(t n r=true↔p r n))∧Below w.heap.size w W
def boolOf:Value→Nat
 |.bool true=>1
 |_=>0
structure L1 (w1:World) (LB N R i:Nat) (rb:Nat→Nat) (W:World):Prop where
 bel:Below w1.heap.size w1 W
 sz:W.heap.size=LB+1+i
 c:∀ j,j<N→W.cell? ⟨LB,j,none⟩=some (if j<i then .slice (some ⟨rb j,0,none⟩) R R else .slice none 0 0)∧W.frozen? ⟨LB,j,none⟩=false
 v:∀ j,j<i→MetAt W (rb j) R (fun _=>false)
theorem L1.next {w1:World} {LB N R i:Nat} {rb:Nat→Nat} {W:World} (h:L1 w1 LB N R i rb W) (hrb:∀ j,rb j=LB+1+j) (hl:w1.heap.size=LB) (hi:i<N):L1 w1 LB N R (i+1) rb ((W.setCell ⟨LB,i,none⟩ (.slice (some ⟨W.heap.size,0,none⟩) R R)).alloc (.cells (madeCells #[.bool false] R) 4)):=by
 have hri:rb i=W.heap.size:=by rw[hrb,h.sz]
 obtain⟨V,hV⟩:∃ V,W.setCell ⟨LB,i,none⟩ (.slice (some ⟨W.heap.size,0,none⟩) R R)=V:=⟨_,rfl⟩;have hs:V.heap.size=W.heap.size:=by rw[←hV];exact gsize_setF _ _ _
 have hm:=made_at V (.bool false) R 4;rw[hs] at hm;have hsz:=h.sz;have hbo:∀ k,k≠LB→V.heap[k]? = W.heap[k]? := fun k hk=>by rw[←hV];exact gset_otherF hk
 rw[hV];refine⟨⟨by rw[show (V.alloc _).os=V.os from rfl,←hV];exact h.bel.os,by rw[show (V.alloc _).tape=V.tape from rfl,←hV];exact h.bel.tape,by rw[show (V.alloc _).output=V.output from rfl,←hV];exact h.bel.output,by rw[World.size_alloc,hs];have:=h.bel.size;omega,fun k hk=>?_⟩,by rw[World.size_alloc,hs,hsz];omega,fun j hj=>?_,fun j hj=>?_⟩
 ·rw[Below.heap_alloc _ _ _ (by rw[hs];have:=h.bel.size;omega),hbo k (by omega)]
  exact h.bel.block k hk
 ·obtain⟨q1,q2⟩:=h.c j hj
  have hc:V.cell? ⟨LB,j,none⟩=some (if j<i+1 then .slice (some ⟨rb j,0,none⟩) R R else .slice none 0 0):=by
   rw[←hV]
   by_cases e:j=i
   ·subst e
    rw[World.cell?_setCell_same _ _ _ q1,if_pos (by omega),hri]
   ·rw[World.cell?_setCell_other _ _ _ _ (fun e2=>e (by cases e2;rfl)),q1]
    by_cases e2:j<i
    ·rw[if_pos e2,if_pos (by omega)]
    ·rw[if_neg e2,if_neg (by omega)]
  have hf:V.frozen? ⟨LB,j,none⟩=false:=by rw[←hV,World.frozen?_setCell];exact q2
  refine⟨keep_alloc hc _,keep_frozen (bel_alloc (Below.refl _ _) _) hc hf⟩
 ·by_cases e:j=i
  ·subst e
   rw[hri];exact hm
  ·refine((h.v j (by omega)).of (hbo _ (by rw[hrb];omega))).of ?_
   exact Below.heap_alloc _ _ _ (by rw[hs,hrb,hsz];omega)
theorem L1.tb {w1:World} {LB N R:Nat} {rb:Nat→Nat} {W:World} (h:L1 w1 LB N R N rb W) (hrb:∀ j,rb j=LB+1+j) (hl:w1.heap.size=LB):TB w1.heap.size LB N R rb (fun _ _=>false) W :=
 ⟨fun i hi=>by rw[(h.c i hi).1,if_pos hi],fun i hi=>h.v i hi,fun i hi=>by rw[hrb];omega,fun i j _ _ e=>by rw[hrb,hrb];omega,fun i hi=>by rw[hrb,h.sz];omega,by omega⟩
structure L2 (w1:World) (LB N R:Nat) (rb:Nat→Nat) (code:List Ins) (ag:Bool) (t:Nat→Nat→Bool) (W:World):Prop where
 tb:TB w1.heap.size LB N R rb t W
 bel:Below w1.heap.size w1 W
 so:SoundT code N R t
 cl:ag=false→∀ n,n<N→ClosedT code R t n
structure L3r (w1:World) (LB N R:Nat) (rb:Nat→Nat) (code:List Ins) (t0:Nat→Nat→Bool) (c:Nat) (ag:Bool) (t:Nat→Nat→Bool) (W:World):Prop where
 tb:TB w1.heap.size LB N R rb t W
 bel:Below w1.heap.size w1 W
 ps:PassT code N R t0 c ag t
structure N4 (Wb:World) (b R:Nat) (m:Nat→Bool) (W:World):Prop where
 bel:Below Wb.heap.size Wb W
 met:MetAt W b R m
 all:AllB W b
 lo:Wb.heap.size≤b
 hi:b<W.heap.size
theorem N4.keep {Wb:World} {b R:Nat} {m:Nat→Bool} {W W':World} (h:N4 Wb b R m W) (hb:Below W.heap.size W W'):N4 Wb b R m W' :=
 ⟨bel_trans h.bel hb,h.met.of (hb.block b h.hi),h.all.of (hb.block b h.hi),h.lo,Nat.lt_of_lt_of_le h.hi hb.size⟩
theorem N4.set {Wb:World} {b R z:Nat} {m m':Nat→Bool} {W:World} {c:Bool} (h:N4 Wb b R m W) (hz:z<R) (hm:∀ i,m' i=if i=z then c else m i):N4 Wb b R m' (W.setCell ⟨b,z,none⟩ (.bool c)) :=
 ⟨⟨h.bel.os,h.bel.tape,h.bel.output,by rw[gsize_setF];exact h.bel.size,fun k hk=>(gset_otherF (by have:=h.lo;omega)).trans (h.bel.block k hk)⟩,h.met.setB hm,h.all.set ⟨_,(h.met z hz).1⟩,h.lo,by rw[gsize_setF];exact h.hi⟩
theorem N4.only {Wb:World} {b R:Nat} {m m':Nat→Bool} {W W':World} (h:N4 Wb b R m W) (ho:Only b W W') (hm:MetAt W' b R m'):Below Wb.heap.size Wb W' :=
 ⟨ho.os.trans h.bel.os,ho.tape.trans h.bel.tape,ho.output.trans h.bel.output,by rw[ho.size];exact h.bel.size,fun k hk=>(ho.block k (by have:=h.lo;omega)).trans (h.bel.block k hk)⟩
theorem clrM_one (m:Nat→Bool) (z i:Nat):clrM m [(z:Int)] i=if i=z then false else m i:=by
 unfold clrM
 by_cases e:i=z
 ·simp[e]
 ·have:(i:Int)≠z:=by omega
  simp[e,this]
theorem clrM_nil (m:Nat→Bool):clrM m []=m:=by
 funext i
 simp[clrM]
theorem agF_zero (ag:Bool) (t:Nat→Nat→Bool) (n:Nat) (now:Nat→Bool):agF ag t n now 0=ag:=by simp[agF]
structure T5 (w1:World) (LB N R:Nat) (rb:Nat→Nat) (t:Nat→Nat→Bool) (b:Nat) (now:Nat→Bool) (W:World):Prop where
 tb:TB w1.heap.size LB N R rb t W
 bel:Below w1.heap.size w1 W
 met:MetAt W b R now
 lo:w1.heap.size≤b∧∀ i,i<N→rb i≠b
theorem T5.set {w1:World} {LB N R n r b:Nat} {rb:Nat→Nat} {t t':Nat→Nat→Bool} {now:Nat→Bool} {W:World} (h:T5 w1 LB N R rb t b now W) (hn:n<N) (hr:r<R) (ht:∀ i j,t' i j=if i=n∧j=r then true else t i j):T5 w1 LB N R rb t' b now (W.setCell ⟨rb n,r,none⟩ (.bool true)) :=
 ⟨h.tb.set hn hr ht,⟨h.bel.os,h.bel.tape,h.bel.output,by rw[gsize_setF];exact h.bel.size,fun k hk=>(gset_otherF (by have:=(h.tb.lo n hn).1;omega)).trans (h.bel.block k hk)⟩,h.met.of (gset_otherF (Ne.symm (h.lo.2 n hn))),h.lo⟩
theorem T5.ext {w1:World} {LB N R b:Nat} {rb:Nat→Nat} {t t':Nat→Nat→Bool} {now:Nat→Bool} {W:World} (h:T5 w1 LB N R rb t b now W) (e:∀ i j,t' i j=t i j):T5 w1 LB N R rb t' b now W:=⟨h.tb.ext e,h.bel,h.met,h.lo⟩
theorem rlive_walk (w:World) (fname:ByteArray) (pa:Option Addr) (pn pc:Nat) (frm ent:Int) (R N cap cb co:Nat) (ca:Option Addr) (code:List Ins) (hR:R≤1000000) (hN:N≤100000) (HCL:Hid (code.length=N)) (HCA:Hid (0<N→ca=some ⟨cb,co,none⟩)) (HIN:Hid (∀ (i:Nat) x,code[i]? = some x→InsAt w cb (co+i*9) x)) (HUS:Hid (∀ x∈code,∀ y∈usR x,0≤y∧y<R)) (HWS:Hid (∀ x∈code,∀ y∈wrR x,0≤y∧y<R)) (HSX:Hid (∀ x∈code,∀ y∈sxF x,0≤y∧y<N)) :
  Calls prog 8 #[.agg #[.string fname,.slice pa pn pc,.int .i64 (R:Int),.int .i64 frm,.int .i64 ent,.slice ca N cap]] w (retT N R (LvR code) w):=by
 have mk1:=mk_bools R (by omega);have mk2:=mk_brows N (by omega);obtain⟨w1,hw1⟩:∃ w1,w.alloc (.cells #[.string fname,.slice pa pn pc,.int .i64 (R:Int),.int .i64 frm,.int .i64 ent,.slice ca N cap] 25)=w1:=⟨_,rfl⟩;have s1:w1.heap.size=w.heap.size+1:=by rw[←hw1];exact World.size_alloc _ _
 have HB1:Hid (Below w.heap.size w w1):=by rw[←hw1];exact bel_alloc (Below.refl _ _) _
 have f0:w1.cell? ⟨w.heap.size,0,none⟩=some (.string fname):=by rw[←hw1];simp
 have f1:w1.cell? ⟨w.heap.size,1,none⟩=some (.slice pa pn pc):=by rw[←hw1];simp
 have f2:w1.cell? ⟨w.heap.size,2,none⟩=some (.int .i64 (R:Int)):=by rw[←hw1];simp
 have f3:w1.cell? ⟨w.heap.size,3,none⟩=some (.int .i64 frm):=by rw[←hw1];simp
 have f4:w1.cell? ⟨w.heap.size,4,none⟩=some (.int .i64 ent):=by rw[←hw1];simp
 have f5:w1.cell? ⟨w.heap.size,5,none⟩=some (.slice ca N cap):=by rw[←hw1];simp
 go_enter func8,ntmps8
 go_upto_region 2 with fail
 obtain⟨LB,hLB⟩:∃ LB,w.heap.size+1=LB:=⟨_,rfl⟩;rw[hLB] at s1;rw[hLB];obtain⟨rb,hrb⟩:∃ rb:Nat→Nat,rb=fun j=>LB+1+j:=⟨_,rfl⟩;have HRB:Hid (∀ j,rb j=LB+1+j):=fun j=>by rw[hrb]
 have HL1:Hid (L1 w1 LB N R 0 rb (w1.alloc (.cells (madeCells #[.slice none 0 0] N) 37))):=by
  refine⟨bel_alloc (Below.refl _ _) _,by rw[World.size_alloc,s1],fun j hj=>?_,fun j hj=>by omega⟩;have:=made_at w1 (.slice none 0 0) N 37 j hj;rw[s1] at this;simpa using this
 have HF:Hid (w1.cell? ⟨w.heap.size,0,none⟩=some (.string fname)∧w1.cell? ⟨w.heap.size,1,none⟩=some (.slice pa pn pc)∧w1.cell? ⟨w.heap.size,2,none⟩=some (.int .i64 (R:Int))∧w1.cell? ⟨w.heap.size,3,none⟩=some (.int .i64 frm)∧w1.cell? ⟨w.heap.size,4,none⟩=some (.int .i64 ent)∧w1.cell? ⟨w.heap.size,5,none⟩=some (.slice ca N cap)):=⟨f0,f1,f2,f3,f4,f5⟩;have HLE:=hidF hLB;have hwl:w.heap.size<LB:=by omega
 have HS1:=hidF s1;clear hw1 hrb f0 f1 f2 f3 f4 f5 hLB s1
 generalize w1.alloc (.cells (madeCells #[.slice none 0 0] N) 37)=wa at *
 go_wp2
 go_loopw [4] (fun v4 wz=>∃ i:Nat,i≤N∧v4=.int .i64 i∧Hid (L1 w1 LB N R i rb wz)) (fun v4 _=>N - (intOf v4).toNat)
 case atStart=>exact⟨0,by omega,rfl,HL1⟩
 case round =>
  clear HL1;obtain⟨i,hi,rfl,HL⟩:=hrel
  rename World=>wz
  by_cases hin:i<N
  ·have j0:(0:Int)≤i:=by omega
   have j1:(i:Int)<N:=by omega
   have c2:=keep_cell HL.out.bel HF.out.2.2.1;obtain⟨cl,fl⟩:=HL.out.c i hin;rw[if_neg (by omega)] at cl;have hLz:LB<wz.heap.size:=block_lt_of_cell cl;have HL2:=hidF (HL.out.next HRB.out HS1.out hin);go_wp2
   go_roundw
   case rel=>exact⟨i+1,by omega,by simp,HL2⟩
   case measure=>simp[intOf];omega
  ·obtain rfl:N=i:=by omega
   have HT0:Hid (L2 w1 LB N R rb code true (fun _ _=>false) wz):=⟨HL.out.tb HRB.out HS1.out,HL.out.bel,(fun n r _ _ h=>by cases h),fun h=>by cases h⟩;clear HL;go_wp2
   go_loopw [5] (fun v5 wy=>∃ (ag:Bool) (t:Nat→Nat→Bool),v5=.bool ag∧Hid (L2 w1 LB N R rb code ag t wy)) (fun v5 wy=>2*cntTW LB R wy N+boolOf v5)
   case atStart=>exact⟨true,_,rfl,HT0⟩
   case round =>
    clear HT0;obtain⟨ag,t0,rfl,HL⟩:=hrel
    rename World=>wy
    cases ag with
    |false =>
     have HEND:Hid (retT N R (LvR code) w (.returned (.slice (some ⟨LB,0,none⟩) N N)) wy):=by
      have h:=HL.out;refine⟨LB,rb,t0,rfl,⟨h.tb.c,h.tb.v,h.tb.ne,h.tb.inj,fun i hi=>⟨by have:=(h.tb.lo i hi).1;have:=HS1.out;omega,(h.tb.lo i hi).2⟩,by omega⟩,fun n r hn hr=>⟨h.so n r hn hr,fun hl=>closed_live HCL.out HSX.out (h.cl rfl) hr hl⟩,bel_trans HB1.out h.bel⟩
     clear HL;go_wp2;go_ret;exact HEND.out
    |true =>
     have HP0:Hid (L3r w1 LB N R rb code t0 N false t0 wy):=⟨HL.out.tb,HL.out.bel,HL.out.so,fun _=>⟨fun _ _ _ _=>rfl,fun m h1 h2=>by omega⟩,Nat.le_refl _,fun h=>by cases h⟩;have HC0:Hid (cntTW LB R wy N=cntT R t0 N):=cntTW_eq HL.out.tb N (Nat.le_refl _);clear HL;go_wp2
     go_loopw [5,6] (fun v5 v6 wx=>∃ (ag:Bool) (c:Nat) (t:Nat→Nat→Bool),v5=.bool ag∧c≤N∧v6=.int .i64 ((c:Int) - 1)∧Hid (L3r w1 LB N R rb code t0 c ag t wx)) (fun _ v6 _=>(intOf v6+1).toNat)
     case atStart=>exact⟨false,N,t0,rfl,by omega,rfl,HP0⟩
     case round =>
      clear HP0;obtain⟨ag,c,t,rfl,hc,rfl,HL⟩:=hrel
      rename World=>wx
      rcases c with _|c
      ·have HX:Hid (L2 w1 LB N R rb code ag t wx∧2*cntTW LB R wx N+boolOf (.bool ag)<2*cntTW LB R wy N+1):=by
        have h:=HL.out;refine⟨⟨h.tb,h.bel,h.ps.so,fun e n hn x r hx hr hq=>?_⟩,?_⟩
        ·obtain⟨h1,h2⟩:=h.ps.no e
         rw[h1 n r hn hr];refine h2 n (Nat.zero_le _) hn x r hx hr ?_;rw[←nowR_ext (fun y hy=>HSX.out x (List.mem_of_getElem? hx) y hy) hr h1];exact hq
        ·rw[HC0.out,cntTW_eq h.tb N (Nat.le_refl _)]
         have:=h.ps.le
         cases ag with
         |false=>simp[boolOf];omega
         |true=>have:=h.ps.lt rfl;simp[boolOf];omega
       have hm1:((((0:Nat):Int)) - 1) = -1:=rfl;rw[hm1];go_wp2
       go_roundw
       case rel=>exact⟨ag,t,rfl,HX.out.1⟩
       case measure=>exact HX.out.2
      ·have hcc:(((c+1:Nat):Int) - 1)=(c:Int):=by omega
       rw[hcc];have j0:(0:Int)≤c:=by omega
       have j1:(c:Int)<N:=by omega
       have hget:=List.getElem?_eq_getElem (l:=code) (show c<code.length by rw[HCL.out];omega)
       generalize code[c]'(by rw[HCL.out];omega)=x at hget
       have HGET:=hidF hget;have hXm:=List.mem_of_getElem? hget;have HSXX:Hid (∀ y∈sxF x,0≤y∧y<N):=HSX.out x hXm;have HUSX:Hid (∀ y∈usR x,0≤y∧y<R):=HUS.out x hXm;have HWSX:Hid (∀ y∈wrR x,0≤y∧y<R):=HWS.out x hXm;obtain rfl:=HCA.out (by omega);have hins:=(HIN.out c x hget).keep (bel_trans HB1.out HL.out.bel);have HINX:=hidF hins;obtain⟨v,hil,e0,e1,e2,e3,e4,e5,e6,e7,e8⟩:=hins;obtain⟨va,vc,rfl,_⟩:=hil.partsF;obtain⟨vn,hvn⟩:∃ vn,x.args.length=vn:=⟨_,rfl⟩;rw[hvn] at hil e6;have HIL:=hidF hil;have g0:=keep_cell HL.out.bel HF.out.1;have g1:=keep_cell HL.out.bel HF.out.2.1;have g2:=keep_cell HL.out.bel HF.out.2.2.1;have g3:=keep_cell HL.out.bel HF.out.2.2.2.1;have g4:=keep_cell HL.out.bel HF.out.2.2.2.2.1;have g5:=keep_cell HL.out.bel HF.out.2.2.2.2.2;have hLx:LB<wx.heap.size:=block_lt_of_cell (HL.out.tb.c c (by omega));have hcx:cb<wx.heap.size:=block_lt_of_cell e0;obtain⟨Wb,hWb⟩:∃ Wb,wx.alloc (.cells #[.int .i64 x.op,.int .i64 x.sub,.int .i64 x.a,.int .i64 x.b,.int .i64 x.d,.int .i64 x.k,.slice va vn vc,.int .i64 x.s,.int .i64 x.t] 35)=Wb:=⟨_,rfl⟩;have sb:Wb.heap.size=wx.heap.size+1:=by rw[←hWb];exact World.size_alloc _ _
       have HBW:Hid (Below wx.heap.size wx Wb):=by rw[←hWb];exact bel_alloc (Below.refl _ _) _
       have HSW:Hid (wx.heap.size<Wb.heap.size):=by show _<_;omega
       have x0:Wb.cell? ⟨wx.heap.size,0,none⟩=some (.int .i64 x.op):=by rw[←hWb];simp
       have x1:Wb.cell? ⟨wx.heap.size,1,none⟩=some (.int .i64 x.sub):=by rw[←hWb];simp
       have x2:Wb.cell? ⟨wx.heap.size,2,none⟩=some (.int .i64 x.a):=by rw[←hWb];simp
       have x3:Wb.cell? ⟨wx.heap.size,3,none⟩=some (.int .i64 x.b):=by rw[←hWb];simp
       have x4:Wb.cell? ⟨wx.heap.size,4,none⟩=some (.int .i64 x.d):=by rw[←hWb];simp
       have x5:Wb.cell? ⟨wx.heap.size,5,none⟩=some (.int .i64 x.k):=by rw[←hWb];simp
       have x6:Wb.cell? ⟨wx.heap.size,6,none⟩=some (.slice va vn vc):=by rw[←hWb];simp
       have x7:Wb.cell? ⟨wx.heap.size,7,none⟩=some (.int .i64 x.s):=by rw[←hWb];simp
       have x8:Wb.cell? ⟨wx.heap.size,8,none⟩=some (.int .i64 x.t):=by rw[←hWb];simp
       have i0:=keep_cell HBW.out g0;have i1:=keep_cell HBW.out g1;have i2:=keep_cell HBW.out g2;have i3:=keep_cell HBW.out g3;have i4:=keep_cell HBW.out g4;have i5:=keep_cell HBW.out g5;clear hget hXm hil hvn
       go_upto_region 13 with fail
       clear hWb e0 e1 e2 e3 e4 e5 e6 e7 e8 g0 g1 g2 g3 g4 g5
       go_upto_region 14 with (go_at_call 20;refine(behind_walk Wb fname pa pn pc frm ent R N cap cb co LB w1.heap.size c _ x rb t hR hN (by omega) rfl (HINX.out.keep HBW.out) (HL.out.tb.below HBW.out) (hidF (by omega)) HSXX).mono ?_;rintro e W4 ⟨b,rfl,hbl,hbs,hbm,hba,hb4⟩)
       have HN4:Hid (N4 Wb b R (anyF t (sxF x)) W4):=⟨hb4,hbm,hba,hbl,hbs⟩;have y0:=keep_cell hb4 x0;have y1:=keep_cell hb4 x1;have y2:=keep_cell hb4 x2;have y3:=keep_cell hb4 x3;have y4:=keep_cell hb4 x4;have y5:=keep_cell hb4 x5;have y6:=keep_cell hb4 x6;have y7:=keep_cell hb4 x7;have y8:=keep_cell hb4 x8;clear hbl hbs hbm hba hb4 i0 i1 i2 i3 i4 i5 x0 x1 x2 x3 x4 x5 x6 x7 x8;obtain⟨wv0,hwv⟩:∃ wv0,writesF x.op x.d=wv0:=⟨_,rfl⟩;have HWV:=hidF hwv
       by_cases h0:0≤wv0
       ·have hwr:wrR x=[wv0]:=by unfold wrR;rw[hwv,if_pos h0]
        have hwz:=HWSX.out wv0 (by rw[hwr];simp);obtain⟨z,rfl⟩:∃ z:Nat,wv0=z:=⟨wv0.toNat,by omega⟩;have hzR:z<R:=by omega
        have HWC:Hid (∀ W,Calls prog 9 #[insV x.op x.sub x.a x.b x.d x.k (.slice va vn vc) x.s x.t] W (retP (.int .i64 (z:Int)) W)):=fun W=>by rw[←hwv];exact rWrites_any x.op x.sub x.a x.b x.d x.k (.slice va vn vc) x.s x.t W
        have HWR:=hidF hwr;clear hwv hwr
        go_upto_region 15 with (go_at_call 9;refine(HWC.out W4).mono ?_;rintro e W5 ⟨rfl,hb5⟩)
        have HN5:=hidF (HN4.out.keep hb5);replace y0:=keep_cell hb5 y0;replace y1:=keep_cell hb5 y1;replace y2:=keep_cell hb5 y2;replace y3:=keep_cell hb5 y3;replace y4:=keep_cell hb5 y4;replace y5:=keep_cell hb5 y5;replace y6:=keep_cell hb5 y6;replace y7:=keep_cell hb5 y7;replace y8:=keep_cell hb5 y8;clear hb5 HN4
        go_upto_region 16 with (go_at_call 9;refine(HWC.out W5).mono ?_;rintro e W6 ⟨rfl,hb6⟩;obtain⟨hm6,hf6⟩:=(HN5.out.keep hb6).met z hzR;have HN6:=hidF (HN5.out.keep hb6);have hbx6:wx.heap.size≠b:=by have:=HN5.out.lo;omega)
        have HN:Hid (N4 Wb b R (clrM (anyF t (sxF x)) (wrR x)) (W6.setCell ⟨b,z,none⟩ (.bool false))):=by
         rw[HWR.out];exact HN6.out.set hzR (clrM_one _ _)
        replace y0:(W6.setCell ⟨b,z,none⟩ (.bool false)).cell? ⟨wx.heap.size,0,none⟩=_:=keep_set (keep_cell hb6 y0) hbx6;replace y1:(W6.setCell ⟨b,z,none⟩ (.bool false)).cell? ⟨wx.heap.size,1,none⟩=_:=keep_set (keep_cell hb6 y1) hbx6;replace y2:(W6.setCell ⟨b,z,none⟩ (.bool false)).cell? ⟨wx.heap.size,2,none⟩=_:=keep_set (keep_cell hb6 y2) hbx6;replace y3:(W6.setCell ⟨b,z,none⟩ (.bool false)).cell? ⟨wx.heap.size,3,none⟩=_:=keep_set (keep_cell hb6 y3) hbx6;replace y4:(W6.setCell ⟨b,z,none⟩ (.bool false)).cell? ⟨wx.heap.size,4,none⟩=_:=keep_set (keep_cell hb6 y4) hbx6;replace y5:(W6.setCell ⟨b,z,none⟩ (.bool false)).cell? ⟨wx.heap.size,5,none⟩=_:=keep_set (keep_cell hb6 y5) hbx6;replace y6:(W6.setCell ⟨b,z,none⟩ (.bool false)).cell? ⟨wx.heap.size,6,none⟩=_:=keep_set (keep_cell hb6 y6) hbx6;replace y7:(W6.setCell ⟨b,z,none⟩ (.bool false)).cell? ⟨wx.heap.size,7,none⟩=_:=keep_set (keep_cell hb6 y7) hbx6;replace y8:(W6.setCell ⟨b,z,none⟩ (.bool false)).cell? ⟨wx.heap.size,8,none⟩=_:=keep_set (keep_cell hb6 y8) hbx6;clear hm6 hf6 HN6 HN5 hb6
        generalize W6.setCell ⟨b,z,none⟩ (.bool false)=W6z at *
        have hBxn:Below wx.heap.size wx W6z:=bel_trans HBW.out HN.out.bel;have HBX:=hidF hBxn;clear hBxn
        go_upto_region 17 with (go_at_call 21;refine(rUses_any x.op x.sub x.a x.b x.d x.k (.slice va vn vc) x.args x.s x.t _ (HIL.out.of2 (fun b o s n c e h=>HBX.out.block b h))).mono ?_;rintro e W7 ⟨uv,rfl,hul,hb7⟩)
        obtain⟨ua,uc,ub,uo,rfl,hu8,hua,huc⟩:=hul.parts;obtain⟨ul,hulq⟩:∃ ul,usR x=ul:=⟨_,rfl⟩;have hulq2:usesF x.op x.a x.b x.args=ul:=hulq;rw[hulq2] at hua huc hu8;rw[hulq2];obtain⟨un,hun⟩:∃ un,ul.length=un:=⟨_,rfl⟩;rw[hun] at hua hu8;rw[hun];have HN7:=hidF (HN.out.keep hb7)
        have HUB:Hid (0<un→ub≠b):=fun h0 e=>by
         have hg:=List.getElem?_eq_getElem (l:=ul) (show 0<ul.length by omega);have h1:=huc 0 _ hg;rw[e] at h1;obtain⟨q,hq⟩:=HN7.out.all _ _ h1
         cases hq
        have HUA:=hidF hua;have HUC:=hidF huc;have HUN:=hidF hun;have HUQ:=hidF hulq;have HUX:Hid (∀ y∈ul,0≤y∧y<R):=by rw[←hulq];exact HUSX.out
        clear hul hb7 hua huc hun hulq hulq2 HN y0 y1 y2 y3 y4 y5 y6 y7 y8;obtain⟨mB,hmB⟩:∃ mB,clrM (anyF t (sxF x)) (wrR x)=mB:=⟨_,rfl⟩;rw[hmB] at HN7;have HMB:=hidF hmB;clear hmB;go_wp2
        go_loopw [10] (fun v10 wv=>∃ k:Nat,k≤un∧v10=.int .i64 k∧Hid (MetAt wv b R (setI mB (ul.take k))∧Only b W7 wv)) (fun v10 _=>un - (intOf v10).toNat)
        case atStart=>exact⟨0,by omega,rfl,HN7.out.met.ext (fun i _=>by simp[setI]),Only.refl _ _⟩
        case round =>
         obtain⟨k,hk,rfl,HV⟩:=hrel
         rename World=>wv
         by_cases hkn:k<un
         ·have k0:(0:Int)≤k:=by omega
          have k1:(k:Int)<un:=by omega
          have hg:=List.getElem?_eq_getElem (l:=ul) (show k<ul.length by rw[HUN.out];exact hkn)
          generalize ul[k]'(by rw[HUN.out];exact hkn)=y at hg
          have hy:=HUX.out y (List.mem_of_getElem? hg);obtain⟨z,rfl⟩:∃ z:Nat,y=z:=⟨y.toNat,by omega⟩;obtain rfl:=HUA.out (by omega);have cs:=HV.out.2.cell (HUB.out (by omega)) (HUC.out k z hg);have hzR:z<R:=by omega
          have z0:(0:Int)≤z:=by omega
          have z1:(z:Int)<R:=by omega
          obtain⟨hm1,hf1⟩:=HV.out.1 z hzR
          have HNX:Hid (∀ i,setI mB (ul.take (k+1)) i=if i=z then true else setI mB (ul.take k) i):=fun i=>by
           rw[List.take_add_one,hg];exact setI_snoc mB (ul.take k) z i
          clear hg;go_wp2
          go_roundw
          case rel=>exact⟨k+1,by omega,by simp,HV.out.1.setB HNX.out,HV.out.2.set _ _⟩
          case measure=>simp[intOf];omega
         ·obtain rfl:un=k:=by omega
          obtain⟨now,hnow⟩:∃ now,setI mB ul=now:=⟨_,rfl⟩;have HNOW:Hid (∀ r,r<R→now r=nowR t x r):=fun r _=>by rw[←hnow,←HMB.out,←HUQ.out];exact now_eq t x r
          have hmv:MetAt wv b R now:=by
           have h:=HV.out.1;rw[←HUN.out,List.take_length,hnow] at h;exact h
          have hbv:Below Wb.heap.size Wb wv:=HN7.out.only HV.out.2 hmv;have hbxv:Below wx.heap.size wx wv:=bel_trans HBW.out hbv;have hsw:wx.heap.size<Wb.heap.size:=HSW.out
          have HT50:Hid (T5 w1 LB N R rb (upT t c now 0) b now wv):=by
           rw[upT_zero];refine⟨HL.out.tb.below hbxv,bel_trans HL.out.bel hbxv,hmv,?_,fun i hi=>?_⟩
           ·have:=HN7.out.lo;have:=HL.out.bel.size;omega
           ·have:=HN7.out.lo;have:=(HL.out.tb.lo i hi).2;omega
          have HAZ:=hidF (agF_zero ag t c now);clear hnow hmv hbv hbxv HV HN7;go_wp2
          go_loopw [5,11] (fun v5 v11 wu=>∃ r:Nat,r≤R∧v11=.int .i64 r∧v5=.bool (agF ag t c now r)∧Hid (T5 w1 LB N R rb (upT t c now r) b now wu)) (fun _ v11 _=>R - (intOf v11).toNat)
          case atStart=>exact⟨0,by omega,rfl,by rw[HAZ.out],HT50⟩
          case round =>
           clear HT50;obtain⟨r,hr,rfl,rfl,HU⟩:=hrel
           rename World=>wu
           have c2:=keep_cell HU.out.bel HF.out.2.2.1
           by_cases hrn:r<R
           ·have r0:(0:Int)≤r:=by omega
            have r1:(r:Int)<R:=by omega
            obtain⟨hm1,hf1⟩:=HU.out.met r hrn;have cl:=HU.out.tb.c c (by omega);obtain⟨hv1,hv2⟩:=HU.out.tb.v c (by omega) r hrn;rw[upT_at] at hv1;have HAS:=hidF (agF_succ ag t c now r)
            cases hq:now r with
            |false =>
             rw[hq] at hm1 HAS;have HNX:Hid (T5 w1 LB N R rb (upT t c now (r+1)) b now wu):=HU.out.ext (upT_no (by rw[hq];simp));have HAE:Hid (agF ag t c now (r+1)=agF ag t c now r):=by show _=_;rw[HAS.out];simp
             clear hq HAS
             generalize agF ag t c now r=ga at *
             go_wp2
             go_roundw
             case rel=>exact⟨r+1,by omega,by simp,by rw[HAE.out],HNX⟩
             case measure=>simp[intOf];omega
            |true =>
             rw[hq] at hm1 HAS
             cases hq2:t c r with
             |true =>
              rw[hq2] at hv1 HAS;have HNX:Hid (T5 w1 LB N R rb (upT t c now (r+1)) b now wu):=HU.out.ext (upT_no (by rw[hq2];simp));have HAE:Hid (agF ag t c now (r+1)=agF ag t c now r):=by show _=_;rw[HAS.out];simp
              clear hq hq2 HAS
              generalize agF ag t c now r=ga at *
              go_wp2
              go_roundw
              case rel=>exact⟨r+1,by omega,by simp,by rw[HAE.out],HNX⟩
              case measure=>simp[intOf];omega
             |false =>
              rw[hq2] at hv1 HAS;have HNX:Hid (T5 w1 LB N R rb (upT t c now (r+1)) b now (wu.setCell ⟨rb c,r,none⟩ (.bool true))):=HU.out.set (by omega) hrn (upT_yes (by rw[hq];simp));have HAE:Hid (agF ag t c now (r+1)=true):=by show _=_;rw[HAS.out];simp
              clear hq hq2 HAS
              generalize agF ag t c now r=ga at *
              go_wp2
              go_roundw
              case rel=>exact⟨r+1,by omega,by simp,by rw[HAE.out],HNX⟩
              case measure=>simp[intOf];omega
           ·obtain rfl:R=r:=by omega
            have HFIN:Hid (L3r w1 LB N R rb code t0 c (agF ag t c now R) (upT t c now R) wu):=⟨HU.out.tb,HU.out.bel,HL.out.ps.step (by omega) HGET.out HSXX.out HNOW.out⟩
            generalize agF ag t c now R=ga at *
            go_wp2
            go_roundw
            case rel=>exact⟨ga,c,upT t c now R,rfl,by omega,rfl,HFIN⟩
            case measure=>simp[intOf]
       ·have hwr:wrR x=[]:=by unfold wrR;rw[hwv,if_neg h0]
        have HWC:Hid (∀ W,Calls prog 9 #[insV x.op x.sub x.a x.b x.d x.k (.slice va vn vc) x.s x.t] W (retP (.int .i64 wv0) W)):=fun W=>by rw[←hwv];exact rWrites_any x.op x.sub x.a x.b x.d x.k (.slice va vn vc) x.s x.t W
        have HWR:=hidF hwr;have h0d:decide (0≤wv0)=false:=by simpa using h0
        clear hwv hwr
        go_upto_region 16 with (go_at_call 9;refine(HWC.out W4).mono ?_;rintro e W6z ⟨rfl,hb5⟩)
        have HN:Hid (N4 Wb b R (clrM (anyF t (sxF x)) (wrR x)) W6z):=by
         rw[HWR.out,clrM_nil];exact HN4.out.keep hb5
        replace y0:=keep_cell hb5 y0;replace y1:=keep_cell hb5 y1;replace y2:=keep_cell hb5 y2;replace y3:=keep_cell hb5 y3;replace y4:=keep_cell hb5 y4;replace y5:=keep_cell hb5 y5;replace y6:=keep_cell hb5 y6;replace y7:=keep_cell hb5 y7;replace y8:=keep_cell hb5 y8;clear hb5 HN4;have hBxn:Below wx.heap.size wx W6z:=bel_trans HBW.out HN.out.bel;have HBX:=hidF hBxn;clear hBxn
        go_upto_region 17 with (go_at_call 21;refine(rUses_any x.op x.sub x.a x.b x.d x.k (.slice va vn vc) x.args x.s x.t _ (HIL.out.of2 (fun b o s n c e h=>HBX.out.block b h))).mono ?_;rintro e W7 ⟨uv,rfl,hul,hb7⟩)
        obtain⟨ua,uc,ub,uo,rfl,hu8,hua,huc⟩:=hul.parts;obtain⟨ul,hulq⟩:∃ ul,usR x=ul:=⟨_,rfl⟩;have hulq2:usesF x.op x.a x.b x.args=ul:=hulq;rw[hulq2] at hua huc hu8;rw[hulq2];obtain⟨un,hun⟩:∃ un,ul.length=un:=⟨_,rfl⟩;rw[hun] at hua hu8;rw[hun];have HN7:=hidF (HN.out.keep hb7)
        have HUB:Hid (0<un→ub≠b):=fun h0 e=>by
         have hg:=List.getElem?_eq_getElem (l:=ul) (show 0<ul.length by omega);have h1:=huc 0 _ hg;rw[e] at h1;obtain⟨q,hq⟩:=HN7.out.all _ _ h1
         cases hq
        have HUA:=hidF hua;have HUC:=hidF huc;have HUN:=hidF hun;have HUQ:=hidF hulq;have HUX:Hid (∀ y∈ul,0≤y∧y<R):=by rw[←hulq];exact HUSX.out
        clear hul hb7 hua huc hun hulq hulq2 HN y0 y1 y2 y3 y4 y5 y6 y7 y8;obtain⟨mB,hmB⟩:∃ mB,clrM (anyF t (sxF x)) (wrR x)=mB:=⟨_,rfl⟩;rw[hmB] at HN7;have HMB:=hidF hmB;clear hmB;go_wp2
        go_loopw [10] (fun v10 wv=>∃ k:Nat,k≤un∧v10=.int .i64 k∧Hid (MetAt wv b R (setI mB (ul.take k))∧Only b W7 wv)) (fun v10 _=>un - (intOf v10).toNat)
        case atStart=>exact⟨0,by omega,rfl,HN7.out.met.ext (fun i _=>by simp[setI]),Only.refl _ _⟩
        case round =>
         obtain⟨k,hk,rfl,HV⟩:=hrel
         rename World=>wv
         by_cases hkn:k<un
         ·have k0:(0:Int)≤k:=by omega
          have k1:(k:Int)<un:=by omega
          have hg:=List.getElem?_eq_getElem (l:=ul) (show k<ul.length by rw[HUN.out];exact hkn)
          generalize ul[k]'(by rw[HUN.out];exact hkn)=y at hg
          have hy:=HUX.out y (List.mem_of_getElem? hg);obtain⟨z,rfl⟩:∃ z:Nat,y=z:=⟨y.toNat,by omega⟩;obtain rfl:=HUA.out (by omega);have cs:=HV.out.2.cell (HUB.out (by omega)) (HUC.out k z hg);have hzR:z<R:=by omega
          have z0:(0:Int)≤z:=by omega
          have z1:(z:Int)<R:=by omega
          obtain⟨hm1,hf1⟩:=HV.out.1 z hzR
          have HNX:Hid (∀ i,setI mB (ul.take (k+1)) i=if i=z then true else setI mB (ul.take k) i):=fun i=>by
           rw[List.take_add_one,hg];exact setI_snoc mB (ul.take k) z i
          clear hg;go_wp2
          go_roundw
          case rel=>exact⟨k+1,by omega,by simp,HV.out.1.setB HNX.out,HV.out.2.set _ _⟩
          case measure=>simp[intOf];omega
         ·obtain rfl:un=k:=by omega
          obtain⟨now,hnow⟩:∃ now,setI mB ul=now:=⟨_,rfl⟩;have HNOW:Hid (∀ r,r<R→now r=nowR t x r):=fun r _=>by rw[←hnow,←HMB.out,←HUQ.out];exact now_eq t x r
          have hmv:MetAt wv b R now:=by
           have h:=HV.out.1;rw[←HUN.out,List.take_length,hnow] at h;exact h
          have hbv:Below Wb.heap.size Wb wv:=HN7.out.only HV.out.2 hmv;have hbxv:Below wx.heap.size wx wv:=bel_trans HBW.out hbv;have hsw:wx.heap.size<Wb.heap.size:=HSW.out
          have HT50:Hid (T5 w1 LB N R rb (upT t c now 0) b now wv):=by
           rw[upT_zero];refine⟨HL.out.tb.below hbxv,bel_trans HL.out.bel hbxv,hmv,?_,fun i hi=>?_⟩
           ·have:=HN7.out.lo;have:=HL.out.bel.size;omega
           ·have:=HN7.out.lo;have:=(HL.out.tb.lo i hi).2;omega
          have HAZ:=hidF (agF_zero ag t c now);clear hnow hmv hbv hbxv HV HN7;go_wp2
          go_loopw [5,11] (fun v5 v11 wu=>∃ r:Nat,r≤R∧v11=.int .i64 r∧v5=.bool (agF ag t c now r)∧Hid (T5 w1 LB N R rb (upT t c now r) b now wu)) (fun _ v11 _=>R - (intOf v11).toNat)
          case atStart=>exact⟨0,by omega,rfl,by rw[HAZ.out],HT50⟩
          case round =>
           clear HT50;obtain⟨r,hr,rfl,rfl,HU⟩:=hrel
           rename World=>wu
           have c2:=keep_cell HU.out.bel HF.out.2.2.1
           by_cases hrn:r<R
           ·have r0:(0:Int)≤r:=by omega
            have r1:(r:Int)<R:=by omega
            obtain⟨hm1,hf1⟩:=HU.out.met r hrn;have cl:=HU.out.tb.c c (by omega);obtain⟨hv1,hv2⟩:=HU.out.tb.v c (by omega) r hrn;rw[upT_at] at hv1;have HAS:=hidF (agF_succ ag t c now r)
            cases hq:now r with
            |false =>
             rw[hq] at hm1 HAS;have HNX:Hid (T5 w1 LB N R rb (upT t c now (r+1)) b now wu):=HU.out.ext (upT_no (by rw[hq];simp));have HAE:Hid (agF ag t c now (r+1)=agF ag t c now r):=by show _=_;rw[HAS.out];simp
             clear hq HAS
             generalize agF ag t c now r=ga at *
             go_wp2
             go_roundw
             case rel=>exact⟨r+1,by omega,by simp,by rw[HAE.out],HNX⟩
             case measure=>simp[intOf];omega
            |true =>
             rw[hq] at hm1 HAS
             cases hq2:t c r with
             |true =>
              rw[hq2] at hv1 HAS;have HNX:Hid (T5 w1 LB N R rb (upT t c now (r+1)) b now wu):=HU.out.ext (upT_no (by rw[hq2];simp));have HAE:Hid (agF ag t c now (r+1)=agF ag t c now r):=by show _=_;rw[HAS.out];simp
              clear hq hq2 HAS
              generalize agF ag t c now r=ga at *
              go_wp2
              go_roundw
              case rel=>exact⟨r+1,by omega,by simp,by rw[HAE.out],HNX⟩
              case measure=>simp[intOf];omega
             |false =>
              rw[hq2] at hv1 HAS;have HNX:Hid (T5 w1 LB N R rb (upT t c now (r+1)) b now (wu.setCell ⟨rb c,r,none⟩ (.bool true))):=HU.out.set (by omega) hrn (upT_yes (by rw[hq];simp));have HAE:Hid (agF ag t c now (r+1)=true):=by show _=_;rw[HAS.out];simp
              clear hq hq2 HAS
              generalize agF ag t c now r=ga at *
              go_wp2
              go_roundw
              case rel=>exact⟨r+1,by omega,by simp,by rw[HAE.out],HNX⟩
              case measure=>simp[intOf];omega
           ·obtain rfl:R=r:=by omega
            have HFIN:Hid (L3r w1 LB N R rb code t0 c (agF ag t c now R) (upT t c now R) wu):=⟨HU.out.tb,HU.out.bel,HL.out.ps.step (by omega) HGET.out HSXX.out HNOW.out⟩
            generalize agF ag t c now R=ga at *
            go_wp2
            go_roundw
            case rel=>exact⟨ga,c,upT t c now R,rfl,by omega,rfl,HFIN⟩
            case measure=>simp[intOf]
set_option maxHeartbeats 8000000
theorem Behind_walkS (w:World) (fname:ByteArray) (pa:Option Addr) (pn pc:Nat) (frm ent:Int) (R N cap cb co LB B n:Nat) (ca:Option Addr) (x:Ins) (rb:Nat→Nat) (t:Nat→Nat→Bool) (hR:R≤1000000) (hN:N≤100000) (hn:n<N) (HCA:Hid (ca=some ⟨cb,co,none⟩)) (HIN:Hid (InsAt w cb (co+n*9) x)) (HT:Hid (TB B LB N R rb t w)) (HLB:Hid (LB<w.heap.size)) (HSX:Hid (∀ y∈sxF x,0≤y∧y<N)) :
  Calls prog 10 #[.agg #[.string fname,.slice pa pn pc,.int .i64 (R:Int),.int .i64 frm,.int .i64 ent,.slice ca N cap],.slice (some ⟨LB,0,none⟩) N N,.int .i64 (n:Int)] w (retM R (anyF t (sxF x)) w):=by
 have hb:Below w.heap.size w (w.alloc (.cells #[.string fname,.slice pa pn pc,.int .i64 (R:Int),.int .i64 frm,.int .i64 ent,.slice ca N cap] 25)):=bel_alloc (Below.refl _ _) _;have HC:=hidF (behind_walk (w.alloc (.cells #[.string fname,.slice pa pn pc,.int .i64 (R:Int),.int .i64 frm,.int .i64 ent,.slice ca N cap] 25)) fname pa pn pc frm ent R N cap cb co LB B n ca x rb t hR hN hn HCA (HIN.out.keep hb) (HT.out.below hb) (hidF (by have:=HLB.out;simp;omega)) HSX);clear hb
 go_enter func10,ntmps10
 go_wp2_with (go_at_call 20;refine HC.out.mono ?_;rintro e W2 ⟨b,rfl,h1,h2,h3,h4,h5⟩)
 have HX:=hidF (And.intro h1 (And.intro h2 (And.intro h3 (And.intro h4 h5))));clear h1 h2 h3 h4 h5;go_ret;obtain⟨h1,h2,h3,h4,h5⟩:=HX.out;exact⟨b,rfl,by simp at h1;omega,h2,h3,h4,bel_trans (bel_alloc (Below.refl _ _) _) h5⟩
theorem zero_fnV (w:World):FnV w zeroFn ⟨⟨#[]⟩,[],0,0,0,[]⟩:=⟨.slice none 0 0,.slice none 0 0,rfl,IL.nil w,⟨none,0,rfl,by simp,fun _=>⟨rfl,rfl⟩,fun h=>absurd rfl h⟩,by decide⟩
structure Lw0 (w:World) (cs ds:Array Value) (b:Nat) (W:World):Prop where
 bel:Below w.heap.size w W
 fb:W.heap[w.heap.size]? = some (.cells cs 25 (0,0))
 gb:W.heap[b]? = some (.cells ds 25 (0,0))
theorem Lw0.keep {w W W':World} {cs ds:Array Value} {b:Nat} (h:Lw0 w cs ds b W) (hb:Below W.heap.size W W'):Lw0 w cs ds b W':=⟨bel_trans h.bel hb,xkeep_heap hb h.fb,xkeep_heap hb h.gb⟩
theorem optDead_many (w:World) (fname:ByteArray) (pa ca:Option Addr) (pn pc N cap:Nat) (regs frm ent:Int) (hNm:(N:Int)≤9223372036854775807) (hq:(decide ((50:Int)<N)||decide (30<regs))=true) (HA:Hid (∀ W,Below w.heap.size w W→Calls prog 4 #[] W (retP (.bool true) W))) :
  Calls prog 3 #[.agg #[.string fname,.slice pa pn pc,.int .i64 regs,.int .i64 frm,.int .i64 ent,.slice ca N cap]] w (retP (.bool true) w):=by
 cases q0:decide ((50:Int)<N) with
 |true =>
  have q0n:decide (50<N)=true:=by simp at q0 ⊢;omega
  clear hq
  go_enter func3,ntmps3
  go_wp2_with (go_at_call 4;refine(HA.out _ (by repeat(first|(with_reducible first|exact Below.refl _ _|refine bel_alloc ?_ _|refine bel_set ?_ (by first|exact Nat.le_refl _|(simp;done)|(simp;omega)) _|refine Below.drew ?_)|refine bel_trans ?_ (by assumption)))).mono ?_;rintro e w1 ⟨rfl,hb1⟩;have HB1:Hid (Below w.heap.size w w1):=bel_trans (bel_alloc (Below.refl _ _) _) hb1;have hfb1:=xkeep_heap hb1 (xheap_new w (.cells #[.string fname,.slice pa pn pc,.int .i64 regs,.int .i64 frm,.int .i64 ent,.slice ca N cap] 25 (0,0)));have f0:=xheap_cell (o:=0) hfb1 rfl;have f1:=xheap_cell (o:=1) hfb1 rfl;have f2:=xheap_cell (o:=2) hfb1 rfl;have f3:=xheap_cell (o:=3) hfb1 rfl;have f4:=xheap_cell (o:=4) hfb1 rfl;have f5:=xheap_cell (o:=5) hfb1 rfl;have HFB1:=hidF hfb1;clear hb1 hfb1)
  go_ret;exact⟨rfl,HB1.out⟩
 |false =>
  rw[q0,Bool.false_or] at hq;have q0n:decide (50<N)=false:=by simp at q0 ⊢;omega
  go_enter func3,ntmps3
  go_wp2_with (go_at_call 4;refine(HA.out _ (by repeat(first|(with_reducible first|exact Below.refl _ _|refine bel_alloc ?_ _|refine bel_set ?_ (by first|exact Nat.le_refl _|(simp;done)|(simp;omega)) _|refine Below.drew ?_)|refine bel_trans ?_ (by assumption)))).mono ?_;rintro e w1 ⟨rfl,hb1⟩;have HB1:Hid (Below w.heap.size w w1):=bel_trans (bel_alloc (Below.refl _ _) _) hb1;have hfb1:=xkeep_heap hb1 (xheap_new w (.cells #[.string fname,.slice pa pn pc,.int .i64 regs,.int .i64 frm,.int .i64 ent,.slice ca N cap] 25 (0,0)));have f0:=xheap_cell (o:=0) hfb1 rfl;have f1:=xheap_cell (o:=1) hfb1 rfl;have f2:=xheap_cell (o:=2) hfb1 rfl;have f3:=xheap_cell (o:=3) hfb1 rfl;have f4:=xheap_cell (o:=4) hfb1 rfl;have f5:=xheap_cell (o:=5) hfb1 rfl;have HFB1:=hidF hfb1;clear hb1 hfb1)
  go_ret;exact⟨rfl,HB1.out⟩
theorem optDead_bad (w:World) (fname:ByteArray) (pa ca:Option Addr) (pn pc N cap:Nat) (regs frm ent:Int) (hNm:(N:Int)≤9223372036854775807) (hq0:decide ((50:Int)<N)=false) (hq1:decide (30<regs)=false) (HA:Hid (∀ W,Below w.heap.size w W→Calls prog 4 #[] W (retP (.bool true) W)))
  (HDE:Hid (∀ W,Below w.heap.size w W→Calls prog 5 #[.agg #[.string fname,.slice pa pn pc,.int .i64 regs,.int .i64 frm,.int .i64 ent,.slice ca N cap]] W (retP (.tuple #[.agg #[.string ⟨#[]⟩,.slice none 0 0,.int .i64 0,.int .i64 0,.int .i64 0,.slice none 0 0],.int .i64 1]) W)))
  (HRR:Hid (∀ W,Below w.heap.size w W→Calls prog 6 #[.agg #[.string fname,.slice pa pn pc,.int .i64 regs,.int .i64 frm,.int .i64 ent,.slice ca N cap]] W (retP (.bool false) W))) :
  Calls prog 3 #[.agg #[.string fname,.slice pa pn pc,.int .i64 regs,.int .i64 frm,.int .i64 ent,.slice ca N cap]] w (retP (.bool true) w):=by
 have q0n:decide (50<N)=false:=by simp at hq0 ⊢;omega
 go_enter func3,ntmps3
 go_upto_region 5 with (go_at_call 4;refine(HA.out _ (by repeat(first|(with_reducible first|exact Below.refl _ _|refine bel_alloc ?_ _|refine bel_set ?_ (by first|exact Nat.le_refl _|(simp;done)|(simp;omega)) _|refine Below.drew ?_)|refine bel_trans ?_ (by assumption)))).mono ?_;rintro e w1 ⟨rfl,hb1⟩;have HB1:Hid (Below w.heap.size w w1):=bel_trans (bel_alloc (Below.refl _ _) _) hb1;have hfb1:=xkeep_heap hb1 (xheap_new w (.cells #[.string fname,.slice pa pn pc,.int .i64 regs,.int .i64 frm,.int .i64 ent,.slice ca N cap] 25 (0,0)));have f0:=xheap_cell (o:=0) hfb1 rfl;have f1:=xheap_cell (o:=1) hfb1 rfl;have f2:=xheap_cell (o:=2) hfb1 rfl;have f3:=xheap_cell (o:=3) hfb1 rfl;have f4:=xheap_cell (o:=4) hfb1 rfl;have f5:=xheap_cell (o:=5) hfb1 rfl;have HFB1:=hidF hfb1;clear hb1 hfb1)
 go_upto_region 6 with (go_at_call 5;refine(HDE.out _ HB1.out).mono ?_;rintro e W2 ⟨rfl,hb2⟩;have HB2:Hid (Below w.heap.size w W2):=bel_trans HB1.out hb2;have HFB2:=hidF (xkeep_heap hb2 HFB1.out);clear hb2 f0 f1 f2 f3 f4 f5)
 refine gwp_namedF (fun W=>∃ b,b=W2.heap.size∧Lw0 w #[.string fname,.slice pa pn pc,.int .i64 regs,.int .i64 frm,.int .i64 ent,.slice ca N cap] #[.string ⟨#[]⟩,.slice none 0 0,.int .i64 0,.int .i64 0,.int .i64 0,.slice none 0 0] b W) ⟨_,rfl,bel_alloc HB2.out _,xkeep_heap (bel_alloc (Below.refl _ _) _) HFB2.out,xheap_new W2 _⟩ ?_;rintro W3 ⟨b,rfl,h3⟩;have H3:=hidF h3;have hfb:=h3.fb;have hgb:=h3.gb;have f0:=xheap_cell (o:=0) hfb rfl;have f1:=xheap_cell (o:=1) hfb rfl;have f2:=xheap_cell (o:=2) hfb rfl;have f3:=xheap_cell (o:=3) hfb rfl;have f4:=xheap_cell (o:=4) hfb rfl;have f5:=xheap_cell (o:=5) hfb rfl;have g0:=xheap_cell (o:=0) hgb rfl;have g1:=xheap_cell (o:=1) hgb rfl;have g2:=xheap_cell (o:=2) hgb rfl;have g3:=xheap_cell (o:=3) hgb rfl;have g4:=xheap_cell (o:=4) hgb rfl;have g5:=xheap_cell (o:=5) hgb rfl;clear h3 hfb hgb;have HSF:Hid (∀ W,Calls prog 7 #[.agg #[.string ⟨#[]⟩,.slice none 0 0,.int .i64 0,.int .i64 0,.int .i64 0,.slice none 0 0],.agg #[.string ⟨#[]⟩,.slice none 0 0,.int .i64 0,.int .i64 0,.int .i64 0,.slice none 0 0]] W (retP (.bool true) W)):=fun W=>sameF_any (zero_fnV W) (zero_fnV W)
 go_upto_region 7 with (go_at_call 6;refine(HRR.out _ H3.out.bel).mono ?_;rintro e W4 ⟨rfl,hb4⟩;have H4:=hidF (H3.out.keep hb4);clear hb4 f0 f1 f2 f3 f4 f5 g0 g1 g2 g3 g4 g5)
 have hgb:=H4.out.gb;have g0:=xheap_cell (o:=0) hgb rfl;have g1:=xheap_cell (o:=1) hgb rfl;have g2:=xheap_cell (o:=2) hgb rfl;have g3:=xheap_cell (o:=3) hgb rfl;have g4:=xheap_cell (o:=4) hgb rfl;have g5:=xheap_cell (o:=5) hgb rfl;clear hgb
 go_wp2_with (go_at_call 7;refine(HSF.out _).mono ?_;rintro e W5 ⟨rfl,hb5⟩;have HB5:=hidF (bel_trans H4.out.bel hb5);clear hb5)
 go_ret;exact⟨rfl,HB5.out⟩
end Go.Proofs.YtaimifnppackgaaGreatDoor
