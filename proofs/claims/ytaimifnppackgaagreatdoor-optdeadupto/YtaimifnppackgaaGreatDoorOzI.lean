import Derived.Test.YtaimifnppackgaaGreatDoorOzF
import Derived.WalkMore
namespace Go.Proofs.YtaimifnppackgaaGreatDoor
open Go.ChangeShapes Go.WideShapes Go.ChangeAt Go.RowKit
set_option linter.all false
structure ROp (w:World) (NB n:Nat) (rv:Nat→Value) (g:Nat→List Nat) (P:Nat→Prop):Prop where
 c:∀ i,i<n→w.cell? ⟨NB,i,none⟩=some (rv i)
 il:∀ i,i<n→IL w (rv i) (up (g i))
 nb:0<n→P NB
 bl:∀ i,i<n→∀ b o s k c,rv i=.slice (some ⟨b,o,s⟩) k c→P b
theorem ROp.of {w w':World} {NB n:Nat} {rv:Nat→Value} {g:Nat→List Nat} {P:Nat→Prop} (h:ROp w NB n rv g P) (hk:∀ k,P k→w'.heap[k]? = w.heap[k]?):ROp w' NB n rv g P :=
 ⟨fun i hi=>cell_of (h.c i hi) (fun _=>hk NB (h.nb (by omega))),fun i hi=>(h.il i hi).of2 (fun b o s n c e _=>hk b (h.bl i hi b o s n c e)),h.nb,h.bl⟩
theorem IL.of4 {w w':World} {v:Value} {l:List Int} (h:IL w v l) (hk:l≠[]→∀ b o s n c,v=.slice (some ⟨b,o,s⟩) n c→w'.heap[b]? = w.heap[b]?):IL w' v l:=by
 obtain⟨a,cap,hv,h1,h0,h2⟩:=h;refine⟨a,cap,hv,h1,h0,fun hl=>?_⟩;obtain⟨b,off,rfl,hc⟩:=h2 hl;exact⟨b,off,rfl,fun i x hx=>cell_of (hc i x hx) (fun _=>hk hl b off none _ _ hv)⟩
def InsW (P:Nat→Prop) (w:World) (CB co n:Nat) (x:Ins):Prop:=∃ v,IL w v x.args∧(x.args≠[]→∀ b o s k c,v=.slice (some ⟨b,o,s⟩) k c→P b)∧w.cell? ⟨CB,co+n*9,none⟩=some (.int .i64 x.op)∧w.cell? ⟨CB,co+n*9+1,none⟩=some (.int .i64 x.sub)∧w.cell? ⟨CB,co+n*9+2,none⟩=some (.int .i64 x.a)∧w.cell? ⟨CB,co+n*9+3,none⟩=some (.int .i64 x.b)∧w.cell? ⟨CB,co+n*9+4,none⟩=some (.int .i64 x.d)∧w.cell? ⟨CB,co+n*9+5,none⟩=some (.int .i64 x.k)∧w.cell? ⟨CB,co+n*9+6,none⟩=some (v)∧w.cell? ⟨CB,co+n*9+7,none⟩=some (.int .i64 x.s)∧w.cell? ⟨CB,co+n*9+8,none⟩=some (.int .i64 x.t)∧w.frozen? ⟨CB,co+n*9,none⟩=false∧w.frozen? ⟨CB,co+n*9+1,none⟩=false∧w.frozen? ⟨CB,co+n*9+2,none⟩=false∧w.frozen? ⟨CB,co+n*9+3,none⟩=false∧w.frozen? ⟨CB,co+n*9+4,none⟩=false∧w.frozen? ⟨CB,co+n*9+5,none⟩=false∧w.frozen? ⟨CB,co+n*9+6,none⟩=false∧w.frozen? ⟨CB,co+n*9+7,none⟩=false∧w.frozen? ⟨CB,co+n*9+8,none⟩=false
theorem InsW.ins {P:Nat→Prop} {w:World} {CB co n:Nat} {x:Ins} (h:InsW P w CB co n x):InsAt w CB (co+n*9) x:=by
 obtain⟨v,h1,_,e0,e1,e2,e3,e4,e5,e6,e7,e8,_⟩:=h;exact⟨v,h1,e0,e1,e2,e3,e4,e5,e6,e7,e8⟩
theorem InsW.of {P:Nat→Prop} {w w':World} {CB co n:Nat} {x:Ins} (h:InsW P w CB co n x) (hk:∀ k,P k→w'.heap[k]? = w.heap[k]?) (hc:w'.heap[CB]? = w.heap[CB]?):InsW P w' CB co n x:=by
 obtain⟨v,h1,h2,e0,e1,e2,e3,e4,e5,e6,e7,e8,f0,f1,f2,f3,f4,f5,f6,f7,f8⟩:=h;have kc:∀ {o:Nat} {u:Value},w.cell? ⟨CB,o,none⟩=some u→w'.cell? ⟨CB,o,none⟩=some u:=fun q=>by rw[World.cell?_of_block (w:=w) hc];exact q
 have kf:∀ {o:Nat},w.frozen? ⟨CB,o,none⟩=false→w'.frozen? ⟨CB,o,none⟩=false:=fun q=>by rw[World.frozen?_of_block (w:=w) hc];exact q
 exact⟨v,h1.of4 (fun hl b o s n c e=>hk b (h2 hl b o s n c e)),h2,kc e0,kc e1,kc e2,kc e3,kc e4,kc e5,kc e6,kc e7,kc e8,kf f0,kf f1,kf f2,kf f3,kf f4,kf f5,kf f6,kf f7,kf f8⟩
structure SwN where
 wB:World
 SB:Nat
 CB:Nat
 co:Nat
 cap:Nat
 XB:Nat
 MB:Nat
 NP:Nat
 NR:Nat
 NW:Nat
 WB:Nat
 N:Nat
 R:Nat
 c0:List Ins
 rr:Nat→Value
 rw:Nat→Value
 rp:Nat→Value
 L:Nat→Prop
def SwN.P (s:SwN) (k:Nat):Prop:=k<s.wB.heap.size∧k≠s.SB∧k≠s.CB∧k≠s.MB∧k≠s.WB
structure SwF (s:SwN):Prop where
 x0:s.wB.cell? ⟨s.XB,0,none⟩=some (.slice (some ⟨s.NP,0,none⟩) s.N s.N)
 x1:s.wB.cell? ⟨s.XB,1,none⟩=some (.slice (some ⟨s.MB,0,none⟩) s.N s.N)
 xp:s.P s.XB
 rd:ROp s.wB s.NR s.R s.rr (gOf (esG usX s.c0 s.N)) s.P
 wr:ROp s.wB s.NW s.R s.rw (gOf (esG wrX s.c0 s.N)) s.P
 pr:ROp s.wB s.NP s.N s.rp (gOf (esG sxF s.c0 s.N)) s.P
 d1:s.SB≠s.CB∧s.SB≠s.MB∧s.SB≠s.WB∧s.CB≠s.MB∧s.CB≠s.WB∧s.MB≠s.WB
 lt:s.SB<s.wB.heap.size∧s.CB<s.wB.heap.size∧s.MB<s.wB.heap.size∧s.WB<s.wB.heap.size
 n0:s.N≤100000∧s.R≤1000000
 len:s.c0.length=s.N
 inr:InR usX s.c0∧InR wrX s.c0∧InR sxF s.c0
 us:∀ x∈s.c0,∀ y∈usX x,0≤y∧y<s.R
 sx:∀ x∈s.c0,∀ y∈sxF x,0≤y∧y<s.N
 lu:∀ r,(gOf (esG usX s.c0 s.N) r).length≤1000000000000
 lw:∀ r,(gOf (esG wrX s.c0 s.N) r).length≤1000000000000
 lp:∀ k,s.L k→s.P k
structure SwS (s:SwN) (c:List Ins) (wt:List Nat) (vw:Value) (W:World):Prop where
 os:W.os=s.wB.os
 tape:W.tape=s.wB.tape
 output:W.output=s.wB.output
 size:s.wB.heap.size≤W.heap.size
 ag:∀ k,s.P k→W.heap[k]? = s.wB.heap[k]?
 s0:W.cell? ⟨s.SB,0,none⟩=some (.slice (some ⟨s.CB,s.co,none⟩) s.N s.cap)
 s1:W.cell? ⟨s.SB,1,none⟩=some (.pointer (some ⟨s.XB,0,none⟩))
 s2:W.cell? ⟨s.SB,2,none⟩=some (.slice (some ⟨s.NR,0,none⟩) s.R s.R)
 s3:W.cell? ⟨s.SB,3,none⟩=some (.slice (some ⟨s.NW,0,none⟩) s.R s.R)
 s4:W.cell? ⟨s.SB,4,none⟩=some vw
 s5:W.cell? ⟨s.SB,5,none⟩=some (.slice (some ⟨s.WB,0,none⟩) s.R s.R)
 z4:W.frozen? ⟨s.SB,4,none⟩=false
 len:c.length=s.N
 code:∀ (n:Nat) x,c[n]? = some x→InsW s.L W s.CB s.co n x
 mt:∃ m,MetAt W s.MB s.N m
 ws:MetAt W s.WB s.R (fun r=>wt.contains r)
 ow:W.ownsRow s.wB.heap.size 3 1 vw wt.length (intsF (up wt))
 nd:wt.Nodup
 wl:∀ r∈wt,r<s.R
theorem SwS.of {s:SwN} {c:List Ins} {wt:List Nat} {vw:Value} {W W':World} (h:SwS s c wt vw W) (hf:SwF s) (hs:W.heap.size≤W'.heap.size) (h1:W'.os=W.os) (h2:W'.tape=W.tape) (h3:W'.output=W.output)
  (hk:∀ k,k<W.heap.size→(s.P k∨k=s.SB∨k=s.CB∨k=s.WB∨some k=vw.ownBlock)→W'.heap[k]? = W.heap[k]?) (hm:∃ m,MetAt W' s.MB s.N m):SwS s c wt vw W':=by
 have hl:=hf.lt;have hsz:=h.size;have eS:=hk s.SB (by omega) (.inr (.inl rfl));have eC:=hk s.CB (by omega) (.inr (.inr (.inl rfl)));have eW:=hk s.WB (by omega) (.inr (.inr (.inr (.inl rfl))));have kc:∀ {o:Nat} {u:Value},W.cell? ⟨s.SB,o,none⟩=some u→W'.cell? ⟨s.SB,o,none⟩=some u:=fun q=>by rw[World.cell?_of_block (w:=W) eS];exact q
 exact⟨h1.trans h.os,h2.trans h.tape,h3.trans h.output,by omega,fun k hp=>(hk k (by have:=hp.1;omega) (.inl hp)).trans (h.ag k hp),kc h.s0,kc h.s1,kc h.s2,kc h.s3,kc h.s4,kc h.s5,by rw[World.frozen?_of_block (w:=W) eS];exact h.z4,h.len,fun n x hx=>(h.code n x hx).of (fun k hl=>hk k (by have:=(hf.lp k hl).1;omega) (.inl (hf.lp k hl))) eC,hm,h.ws.of eW,ownsRow_blk h.ow (fun b hb=>hk b (h.ow.lt b hb).2 (.inr (.inr (.inr (.inr hb.symm))))),h.nd,h.wl⟩
theorem SwS.keep {s:SwN} {c:List Ins} {wt:List Nat} {vw:Value} {W W':World} (h:SwS s c wt vw W) (hf:SwF s) (hb:Below W.heap.size W W'):SwS s c wt vw W' :=
 h.of hf hb.size hb.os hb.tape hb.output (fun k hk _=>hb.block k hk) (by
  obtain⟨m,hm⟩:=h.mt;exact⟨m,hm.of (hb.block _ (by have:=hf.lt;have:=h.size;omega))⟩)
theorem SwS.rd {s:SwN} {c:List Ins} {wt:List Nat} {vw:Value} {W:World} (h:SwS s c wt vw W) (hf:SwF s):ROp W s.NR s.R s.rr (gOf (esG usX s.c0 s.N)) s.P:=hf.rd.of h.ag
theorem SwS.wr {s:SwN} {c:List Ins} {wt:List Nat} {vw:Value} {W:World} (h:SwS s c wt vw W) (hf:SwF s):ROp W s.NW s.R s.rw (gOf (esG wrX s.c0 s.N)) s.P:=hf.wr.of h.ag
theorem SwS.pr {s:SwN} {c:List Ins} {wt:List Nat} {vw:Value} {W:World} (h:SwS s c wt vw W) (hf:SwF s):ROp W s.NP s.N s.rp (gOf (esG sxF s.c0 s.N)) s.P:=hf.pr.of h.ag
end Go.Proofs.YtaimifnppackgaaGreatDoor
namespace Go.Proofs.YtaimifnppackgaaGreatDoor
open Go.ChangeShapes Go.WideShapes Go.ChangeAt Go.RowKit Go.Proofs.Tryz
set_option linter.all false
set_option maxRecDepth 100000
set_option maxHeartbeats 8000000
structure FrW (s:SwN) (vw vw':Value) (W W':World):Prop where
 os:W'.os=W.os
 tape:W'.tape=W.tape
 output:W'.output=W.output
 size:W.heap.size≤W'.heap.size
 block:∀ k,k<W.heap.size→k≠s.SB→k≠s.WB→some k≠vw.ownBlock→W'.heap[k]? = W.heap[k]?
 own:vw'.ownBlock=vw.ownBlock∨∃ k,vw'.ownBlock=some k∧W.heap.size≤k
theorem FrW.refl (s:SwN) (vw:Value) (W:World):FrW s vw vw W W:=⟨rfl,rfl,rfl,Nat.le_refl _,fun _ _ _ _ _=>rfl,.inl rfl⟩
theorem FrW.trans {s:SwN} {v1 v2 v3:Value} {A B C:World} (h:FrW s v1 v2 A B) (k:FrW s v2 v3 B C):FrW s v1 v3 A C:=by
 refine⟨k.os.trans h.os,k.tape.trans h.tape,k.output.trans h.output,Nat.le_trans h.size k.size,fun q h1 h2 h3 h4=>?_,?_⟩
 ·refine(k.block q (Nat.lt_of_lt_of_le h1 h.size) h2 h3 (fun e=>?_)).trans (h.block q h1 h2 h3 h4)
  rcases h.own with e2|⟨k2,e2,h5⟩
  ·exact h4 (by rw[e,e2])
  ·rw[e2] at e
   injection e with e
   omega
 ·rcases k.own with e|⟨k2,e,h5⟩
  ·rw[e];exact h.own
  ·exact .inr ⟨k2,e,Nat.le_trans h.size h5⟩
theorem nodup_bound:∀ {n:Nat} {l:List Nat},l.Nodup→(∀ x∈l,x<n)→l.length≤n
 |0,l,_,h=>by
  cases l with
  |nil=>simp
  |cons a t=>exact absurd (h a (by simp)) (by omega)
 |n+1,l,hd,h=>by
  have ih:=nodup_bound (n:=n) (l:=l.erase n) (hd.erase n) (fun x hx=>by
   have h1:=(hd.mem_erase_iff.1 hx);have:=h x h1.2;have:=h1.1
   omega)
  have h2:l.length≤(l.erase n).length+1:=by
   rw[List.length_erase]
   split<;>omega
  omega
def retW (s:SwN) (c:List Ins) (wt:List Nat) (r:Nat) (vw:Value) (W:World):Ending→World→Prop:=fun e W'=>e=.returned (.tuple #[])∧∃ wt' vw',SwS s c wt' vw' W'∧(∀ q,q∈wt'↔q∈wt∨q=r)∧FrW s vw vw' W W'
theorem cons_contains (wt:List Nat) (r q:Nat):(wt++[r]).contains q=if q=r then true else wt.contains q:=by
 by_cases h:q=r
 ·subst h;simp
 ·simp[h]
theorem SwS.push {s:SwN} {c:List Ins} {wt:List Nat} {vw v':Value} {W W3:World} {r:Nat} (h:SwS s c wt vw W) (hf:SwF s) (hr:r<s.R) (hn:r ∉ wt) (ho:W3.ownsRow s.wB.heap.size 3 1 v' (wt.length+1) (intsF (up wt)++[.int .i64 r])) (hg:(W.setCell ⟨s.WB,r,none⟩ (.bool true)).grownBy W3 vw.ownBlock) (hb:v'.ownBlock=vw.ownBlock∨∃ k,v'.ownBlock=some k∧W.heap.size≤k) :
  SwS s c (wt++[r]) v' (W3.setCell ⟨s.SB,4,none⟩ v')∧FrW s vw v' W (W3.setCell ⟨s.SB,4,none⟩ v'):=by
 have hl:=hf.lt;have hd:=hf.d1;have hsz:=h.size;have hs1:(W.setCell ⟨s.WB,r,none⟩ (.bool true)).heap.size=W.heap.size:=gsize_setF _ _ _;have hs3:W.heap.size≤W3.heap.size:=by have:=hg.size;omega
 have hob:∀ k,vw.ownBlock=some k→s.wB.heap.size≤k:=fun k hk=>(h.ow.lt k hk).1;have hob':∀ k,v'.ownBlock=some k→s.wB.heap.size≤k:=fun k hk=>(ho.lt k hk).1;have hno:∀ k,k<s.wB.heap.size→some k≠vw.ownBlock:=fun k hk e=>by have:=hob k e.symm;omega
 have h3:∀ k,k<W.heap.size→k≠s.WB→some k≠vw.ownBlock→W3.heap[k]? = W.heap[k]? := fun k q1 q2 q3=>(hg.block k (by omega) q3).trans (gset_otherF q2);have hfr:∀ k,k<W.heap.size→k≠s.SB→k≠s.WB→some k≠vw.ownBlock→(W3.setCell ⟨s.SB,4,none⟩ v').heap[k]? = W.heap[k]? := fun k q1 q2 q3 q4=>(gset_otherF q2).trans (h3 k q1 q3 q4);have eS:W3.heap[s.SB]? = W.heap[s.SB]? := h3 s.SB (by omega) hd.2.2.1 (hno _ hl.1);have eW:W3.heap[s.WB]? = (W.setCell ⟨s.WB,r,none⟩ (.bool true)).heap[s.WB]? := hg.block s.WB (by omega) (hno _ hl.2.2.2)
 have kc:∀ {o:Nat} {u:Value},o≠4→W.cell? ⟨s.SB,o,none⟩=some u→(W3.setCell ⟨s.SB,4,none⟩ v').cell? ⟨s.SB,o,none⟩=some u:=fun q1 q=>by
  rw[World.cell?_setCell_other _ _ _ _ (fun e=>q1 (by cases e;rfl)),World.cell?_of_block (w:=W) eS];exact q
 have hP:∀ k,s.P k→(W3.setCell ⟨s.SB,4,none⟩ v').heap[k]? = W.heap[k]? := fun k hp=>hfr k (by have:=hp.1;omega) hp.2.1 hp.2.2.2.2 (hno k hp.1);refine⟨⟨hg.os.trans h.os,hg.tape.trans h.tape,hg.output.trans h.output,by rw[gsize_setF];omega,fun k hp=>(hP k hp).trans (h.ag k hp),kc (by decide) h.s0,kc (by decide) h.s1,kc (by decide) h.s2,kc (by decide) h.s3,World.cell?_setCell_same _ _ _ (by rw[World.cell?_of_block (w:=W) eS];exact h.s4),kc (by decide) h.s5,by rw[World.frozen?_setCell,World.frozen?_of_block (w:=W) eS];exact h.z4,h.len,fun n x hx=>(h.code n x hx).of (fun k hl=>hP k (hf.lp k hl)) (hfr s.CB (by omega) (Ne.symm hd.1) hd.2.2.2.2.1 (hno _ hl.2.1)),?_,?_,?_,?_,?_⟩,⟨hg.os,hg.tape,hg.output,by rw[gsize_setF];exact hs3,hfr,hb⟩⟩
 ·obtain⟨m,hm⟩:=h.mt
  exact⟨m,hm.of (hfr s.MB (by omega) (Ne.symm hd.2.1) hd.2.2.2.2.2 (hno _ hl.2.2.1))⟩
 ·have hw1:MetAt (W.setCell ⟨s.WB,r,none⟩ (.bool true)) s.WB s.R (fun q=>(wt++[r]).contains q):=h.ws.setB (fun q=>cons_contains wt r q)
  exact(hw1.of eW).of (gset_otherF (Ne.symm hd.2.2.1))
 ·rw[List.length_append,up_append,ints_append]
  exact ownsRow_blk ho (fun b hb2=>gset_otherF (by have:=hob' b hb2;omega))
 ·rw[List.nodup_append]
  refine⟨h.nd,by simp,fun a ha b hb2=>?_⟩;have:b=r:=by simpa using hb2
  subst this;intro e;subst e;exact hn ha
 ·intro q hq
  rcases List.mem_append.1 hq with e|e
  ·exact h.wl q e
  ·have:q=r:=by simpa using e
   omega
theorem wait_any {s:SwN} {c:List Ins} {wt:List Nat} {vw:Value} {W:World} {r:Nat} (h:SwS s c wt vw W) (hf:SwF s) (hr:r<s.R):Calls prog 32 #[.pointer (some ⟨s.SB,0,none⟩),.int .i64 (r:Int)] W (retW s c wt r vw W):=by
 have r0:(0:Int)≤r:=by omega
 have r1:(r:Int)<s.R:=by omega
 have s5:=h.s5;have s4:=h.s4;have z4:=h.z4;obtain⟨hc,hz⟩:=h.ws r hr;dsimp only at hc
 by_cases hin:r∈wt
 ·rw[show wt.contains r=true by simpa using hin] at hc
  have HE:Hid (retW s c wt r vw W (.returned (.tuple #[])) W):=⟨rfl,wt,vw,h,fun q=>⟨fun e=>.inl e,fun e=>by rcases e with e|e;exact e;rw[e];exact hin⟩,FrW.refl _ _ _⟩;clear h hf hin
  go_enter func32,ntmps32
  go_wp2;go_end0;exact HE.out
 ·rw[show wt.contains r=false by simpa using hin] at hc
  obtain⟨va,vc,rfl⟩:∃ a cap,vw=.slice a wt.length cap:=by
   rcases h.ow.2 with ⟨e1,e2⟩|⟨g',cap,cur,e1,_⟩
   ·exact⟨none,0,by rw[e1,e2]⟩
   ·exact⟨_,cap,e1⟩
  have hwl:wt.length≤1000000:=by
   have hn:wt.length≤s.R:=nodup_bound h.nd h.wl;have:=hf.n0.2
   omega
  obtain⟨i0,hi,hz0,hz1,hz2⟩:∃ i0,prog.info? 3=some i0∧i0.zero=some (.int .i64 0)∧i0.size=1∧i0.bytes=8:=info_parts (by kernel_rfl);have HI:=hidF (And.intro hi (And.intro hz0 (And.intro hz1 hz2)));obtain⟨W1,hW1⟩:∃ W1,W.setCell ⟨s.WB,r,none⟩ (.bool true)=W1:=⟨_,rfl⟩;have sz1:W1.heap.size=W.heap.size:=by rw[←hW1];exact gsize_setF _ _ _
  have hSW:s.SB≠s.WB:=hf.d1.2.2.1;have t4:W1.cell? ⟨s.SB,4,none⟩=some (.slice va wt.length vc):=by rw[←hW1];exact keep_set s4 hSW
  have y4:W1.frozen? ⟨s.SB,4,none⟩=false:=by rw[←hW1,World.frozen?_setCell];exact z4
  have HO:Hid (W1.ownsRow s.wB.heap.size 3 1 (.slice va wt.length vc) wt.length (intsF (up wt))):=by
   rw[←hW1];exact ownsRow_blk h.ow (fun b hb=>gset_otherF (by have:=(h.ow.lt b hb).1;have:=hf.lt;omega))
  have HH:Hid (s.wB.heap.size≤W1.heap.size):=by show _≤_;rw[sz1];exact h.size
  have HS:=hidF (And.intro h hf);have HIN:=hidF hin;have HR:=hidF hr;have hlt:=hf.lt;have hSB:s.SB<W1.heap.size:=by have:=h.size;omega
  generalize hwn:wt.length=wn at *
  have HWN:=hidF hwn;have HSZ:=hidF sz1;have HWE:=hidF hW1;clear h hf hin hi hz0 hz1 hz2 hlt hwn sz1
  go_enter func32,ntmps32
  go_wp2_with (at_builtin;refine wpList_append_any _ (by rfl) _ _ 22 (by rfl) s.wB.heap.size 3 i0 (.int .i64 0) 1 8 underlying22 HI.out.1 HI.out.2.1 HI.out.2.2.1 HI.out.2.2.2 rfl (by decide) (.slice va wn vc) wn (intsF (up wt)) (by rfl) (HO.out.alloc _) (.slice (some ⟨W1.heap.size,0,none⟩) 1 1) 1 [.int .i64 r] (by rfl) (by rfl) ?c1 ?c2 (by unfold maxLen;omega) (by omega) ?c3 _ rfl ?_)
  case c1 =>
   refine .inl ⟨_,_,rfl,fun j u hj=>?_⟩
   match j,hj with
   |0,hj =>
    cases hj
    rw[show (⟨W1.heap.size,0,none⟩:Addr).add 0=⟨W1.heap.size,0+0,none⟩ from Addr.add_mid _ _ _];simp
   |j+1,hj=>simp at hj
  case c2=>first|rfl|(intro u hu;cases List.mem_singleton.1 hu;rfl)
  case c3=>have:=HH.out;first|omega|(rw[World.size_alloc];omega)
  intro a5 c5 W3 ho hg hbk
  have HX:Hid (SwS s c (wt++[r]) (.slice a5 (wn+1) c5) (W3.setCell ⟨s.SB,4,none⟩ (.slice a5 (wn+1) c5))∧FrW s (.slice va wn vc) (.slice a5 (wn+1) c5) W (W3.setCell ⟨s.SB,4,none⟩ (.slice a5 (wn+1) c5))):=by
   have hs:=HS.out;refine hs.1.push hs.2 HR.out HIN.out (by rw[HWN.out];exact ho) ?_ ?_
   ·rw[HWE.out];exact grown_alloc hg
   ·exact hbk.imp id (fun e=>⟨_,e,by have:=HSZ.out;omega⟩)
  have hsb:W3.heap[s.SB]? = W1.heap[s.SB]? := (grown_alloc hg).block s.SB hSB (fun e=>by have:=(HO.out.lt s.SB e.symm).1;have:=HS.out.2.lt;omega);have u4:W3.cell? ⟨s.SB,4,none⟩=some (.slice va wn vc):=by rw[World.cell?_of_block (w:=W1) hsb];exact t4
  have v4:W3.frozen? ⟨s.SB,4,none⟩=false:=by rw[World.frozen?_of_block (w:=W1) hsb];exact y4
  clear ho hg hbk hsb;go_wp2;go_end0;exact⟨rfl,_,_,HX.out.1,fun q=>by simp,HX.out.2⟩
set_option maxHeartbeats 4000000
def nopV (s:Int):Value:=.agg #[.int .i64 1,.int .i64 0,.int .i64 0,.int .i64 0,.int .i64 0,.int .i64 0,.slice none 0 0,.int .i64 s,.int .i64 0]
theorem nop_any (s:Int) (w:World):Calls prog 65 #[.int .i64 s] w (retP (nopV s) w):=by
 go_enter func65,ntmps65
 go_wp2;exact bodyPost_ret (by simp[results,results65,go_sem,nopV]) rfl ⟨rfl,(by repeat(first|(with_reducible first|exact Below.refl _ _|refine bel_alloc ?_ _|refine bel_set ?_ (by first|exact Nat.le_refl _|(simp;done)|(simp;omega)) _|refine Below.drew ?_)|refine bel_trans ?_ (by assumption)))⟩
theorem dne_any (op sub a b d k:Int) (v:Value) (s t:Int) (w:World) (hv:v.oneCell'=true):Calls prog 53 #[.agg #[.int .i64 op,.int .i64 sub,.int .i64 a,.int .i64 b,.int .i64 d,.int .i64 k,v,.int .i64 s,.int .i64 t]] w (retP (.bool (decide (op∈pureOps))) w):=by
 by_cases h:op∈pureOps
 ·rw[decide_eq_true h]
  have:op=2∨op=3∨op=4∨op=5∨op=6∨op=8∨op=9:=by simpa[pureOps] using h
  rcases this with rfl|rfl|rfl|rfl|rfl|rfl|rfl
  all_goals
   go_enter func53,ntmps53
   go_wp2;go_ret;exact⟨rfl,(by repeat(first|(with_reducible first|exact Below.refl _ _|refine bel_alloc ?_ _|refine bel_set ?_ (by first|exact Nat.le_refl _|(simp;done)|(simp;omega)) _|refine Below.drew ?_)|refine bel_trans ?_ (by assumption)))⟩
 ·rw[decide_eq_false h]
  have h2:op≠2∧op≠3∧op≠4∧op≠5∧op≠6∧op≠8∧op≠9:=by simpa[pureOps] using h
  obtain⟨h2,h3,h4,h5,h6,h8,h9⟩:=h2;have e2:(op==2)=false:=by simpa using h2
  have e3:(op==3)=false:=by simpa using h3
  have e4:(op==4)=false:=by simpa using h4
  have e5:(op==5)=false:=by simpa using h5
  have e6:(op==6)=false:=by simpa using h6
  have e8:(op==8)=false:=by simpa using h8
  have e9:(op==9)=false:=by simpa using h9
  have d2:decide (op=2)=false:=by simpa using h2
  have d3:decide (op=3)=false:=by simpa using h3
  have d4:decide (op=4)=false:=by simpa using h4
  have d5:decide (op=5)=false:=by simpa using h5
  have d6:decide (op=6)=false:=by simpa using h6
  have d8:decide (op=8)=false:=by simpa using h8
  have d9:decide (op=9)=false:=by simpa using h9
  go_enter func53,ntmps53
  go_wp2;go_ret;exact⟨rfl,(by repeat(first|(with_reducible first|exact Below.refl _ _|refine bel_alloc ?_ _|refine bel_set ?_ (by first|exact Nat.le_refl _|(simp;done)|(simp;omega)) _|refine Below.drew ?_)|refine bel_trans ?_ (by assumption)))⟩
theorem SwS.put {s:SwN} {c:List Ins} {wt:List Nat} {vw:Value} {W:World} {l:Nat} {r:Loop} (h:SwS s c wt vw W) (hf:SwF s) (hl:W.heap[l]? = some (.loop r)) (hlB:s.wB.heap.size≤l) (o:Obj):SwS s c wt vw (W.putObj l o):=by
 have hlt:=hf.lt;refine h.of hf (by rw[World.putObj_size];exact Nat.le_refl _) rfl rfl rfl (fun k hk hc=>put_otherF (fun e=>?_)) ?_
 ·subst e
  rcases hc with g|g|g|g|g
  ·have:=g.1;omega
  ·omega
  ·omega
  ·omega
  ·exact ownsRow_not_loop h.ow g.symm hl
 ·obtain⟨m,hm⟩:=h.mt
  exact⟨m,hm.of (put_otherF (by omega))⟩
noncomputable def loRange:List (Array Tmp×Code×Code):=(Tryz.f54.body.map rangesOfF).getD []
noncomputable def loAssign:Code:=((loRange[0]?).map (·.2.1)).getD .skip
noncomputable def loBody:Code:=((loRange[0]?).map (·.2.2)).getD .skip
attribute [local go_sem] Oper.semAt_some
theorem lo_round (s:SwN) (c:List Ins) (wt:List Nat) (vw:Value) (l KB q d:Nat) (fn:FuncId) (z0 z1 z3 z4 z5 z6 z7 z8 z9 z10 z11 z12 z13 z14 z15 z16 z17 z18 z19 z20 z21 z22 z23 z24 z25 z26 z27 z28 z29 z30 z31:Value) (W:World) (R:Ending→World→Prop)
  (hl:W.heap[l]? = some (.loop (loopRec fn #[z0,z1,.pointer (some ⟨KB,0,none⟩),z3,z4,z5,z6,z7,z8,z9,z10,z11,z12,z13,z14,z15,z16,z17,z18,z19,z20,z21,z22,z23,z24,z25,z26,z27,z28,z29,z30,z31] #[13] loAssign loBody d))) (h0:W.cell? ⟨KB,0,none⟩=some (.pointer (some ⟨s.SB,0,none⟩))) (HS:Hid (SwS s c wt vw W)) (HF:Hid (SwF s)) (hq:q<s.R) (hlB:s.wB.heap.size≤l)
  (HT:Hid (∀ W' wt' vw',SwS s c wt' vw' W'→(∀ x,x∈wt'↔x∈wt∨x=q)→(∀ k,k<W.heap.size→k≠l→k≠s.SB→k≠s.WB→some k≠vw.ownBlock→W'.heap[k]? = W.heap[k]?)→W'.heap[l]? = some (.loop (loopRec fn #[z0,z1,.pointer (some ⟨KB,0,none⟩),z3,z4,z5,z6,z7,z8,z9,z10,z11,z12,z13,z14,z15,z16,z17,z18,z19,z20,z21,z22,z23,z24,z25,z26,z27,z28,z29,z30,z31] #[13] loAssign loBody d))→W.heap.size≤W'.heap.size→W'.os=W.os→W'.tape=W.tape→W'.output=W.output→(vw'.ownBlock=vw.ownBlock∨∃ k,vw'.ownBlock=some k∧W.heap.size≤k)→R (.returned (.bool true)) W')) :
  YieldAt Fence.wide 0 prog l #[.int .i64 q] W R:=by
 have n0:=cell_not_loopF hl h0;have HLL:=hidF hl;refine yield_round hl rfl rfl trivial ?_;simp only[loopRec]
 conv=>arg 4;whnf
 gi_wp2
 refine⟨(by first|exact hl|rfl),?_⟩
 conv=>arg 4;whnf
 have ll:l<W.heap.size:=(zge hl).1;obtain⟨W2,hW2⟩:∃ W2,W.putObj l (.loop { state:=.busy,pending:=none,fn:=fn,tmps:=#[z0,z1,.pointer (some ⟨KB,0,none⟩),z3,z4,z5,z6,z7,z8,z9,z10,z11,z12,z13,z14,z15,z16,z17,z18,z19,z20,z21,z22,z23,z24,z25,z26,z27,z28,z29,z30,z31],params:=#[13],assign:=loAssign,body:=loBody,defers:=d })=W2:=⟨_,rfl⟩;have HOT:Hid (∀ k,k≠l→W2.heap[k]? = W.heap[k]?):=fun k hk=>by rw[←hW2];exact put_otherF hk
 have HL:Hid (W2.heap[l]? = some (.loop { state:=.busy,pending:=none,fn:=fn,tmps:=#[z0,z1,.pointer (some ⟨KB,0,none⟩),z3,z4,z5,z6,z7,z8,z9,z10,z11,z12,z13,z14,z15,z16,z17,z18,z19,z20,z21,z22,z23,z24,z25,z26,z27,z28,z29,z30,z31],params:=#[13],assign:=loAssign,body:=loBody,defers:=d })):=by show _=_;rw[←hW2];exact World.putObj_heap_same ll
 have HZ:Hid (W2.heap.size=W.heap.size∧W2.os=W.os∧W2.tape=W.tape∧W2.output=W.output):=by rw[←hW2];exact⟨World.putObj_size ..,rfl,rfl,rfl⟩
 have HS2:Hid (SwS s c wt vw W2):=by rw[←hW2];exact HS.out.put HF.out hl hlB _
 rw[hW2];clear hW2 hl;replace h0:=(World.cell?_of_block (HOT.out KB n0)).trans h0;have HX:Hid (∀ m,CallsIn (Fence.wide.inRound l) m prog 32 #[.pointer (some ⟨s.SB,0,none⟩),.int .i64 (q:Int)] W2 (retW s c wt q vw W2)):=fun m=>CallsIn.inRound l (callsIn_wide.2 (wait_any HS2.out HF.out hq))
 gi_wp2
 refine⟨trivial,rfl,(HX.out _).mono ?_⟩;rintro e W3 ⟨rfl,wt',vw',hs3,hw3,hf3⟩;have hlt:=HF.out.lt;have hl3:W3.heap[l]? = some (.loop { state:=.busy,pending:=none,fn:=fn,tmps:=#[z0,z1,.pointer (some ⟨KB,0,none⟩),z3,z4,z5,z6,z7,z8,z9,z10,z11,z12,z13,z14,z15,z16,z17,z18,z19,z20,z21,z22,z23,z24,z25,z26,z27,z28,z29,z30,z31],params:=#[13],assign:=loAssign,body:=loBody,defers:=d }):=(hf3.block l (by rw[HZ.out.1];exact ll) (by omega) (by omega) (fun e=>ownsRow_not_loop HS2.out.ow e.symm HL.out)).trans HL.out
 have HE:Hid (R (.returned (.bool true)) (W3.putObj l (.loop { state:=.ready,pending:=none,fn:=fn,tmps:=#[z0,z1,.pointer (some ⟨KB,0,none⟩),z3,z4,z5,z6,z7,z8,z9,z10,z11,z12,z13,z14,z15,z16,z17,z18,z19,z20,z21,z22,z23,z24,z25,z26,z27,z28,z29,z30,z31],params:=#[13],assign:=loAssign,body:=loBody,defers:=d }))∧W3.heap[l]? = some (.loop { state:=.busy,pending:=none,fn:=fn,tmps:=#[z0,z1,.pointer (some ⟨KB,0,none⟩),z3,z4,z5,z6,z7,z8,z9,z10,z11,z12,z13,z14,z15,z16,z17,z18,z19,z20,z21,z22,z23,z24,z25,z26,z27,z28,z29,z30,z31],params:=#[13],assign:=loAssign,body:=loBody,defers:=d })):=by
  refine⟨HT.out _ wt' vw' (hs3.put HF.out hl3 hlB _) hw3 (fun k h1 h2 h3 h4 h5=>(put_otherF h2).trans ((hf3.block k (by rw[HZ.out.1];exact h1) h3 h4 h5).trans (HOT.out k h2))) (World.putObj_heap_same (by have:=hf3.size;have:=HZ.out.1;omega)) (by rw[World.putObj_size];have:=hf3.size;have:=HZ.out.1;omega) (hf3.os.trans HZ.out.2.1) (hf3.tape.trans HZ.out.2.2.1) (hf3.output.trans HZ.out.2.2.2) ?_,hl3⟩;exact hf3.own.imp id (fun⟨k,e,h⟩=>⟨k,e,by have:=HZ.out.1;omega⟩)
 clear hs3 hw3 hf3 hl3 hlt;dsimp only
 gi_wp2
 exact⟨HE.out.2,HE.out.1⟩
def nineSet (W:World) (CB o:Nat) (q:Int):World:=((((((((W.setCell ⟨CB,o,none⟩ (.int .i64 1)).setCell ⟨CB,o+1,none⟩ (.int .i64 0)).setCell ⟨CB,o+2,none⟩ (.int .i64 0)).setCell ⟨CB,o+3,none⟩ (.int .i64 0)).setCell ⟨CB,o+4,none⟩ (.int .i64 0)).setCell ⟨CB,o+5,none⟩ (.int .i64 0)).setCell ⟨CB,o+6,none⟩ (.slice none 0 0)).setCell ⟨CB,o+7,none⟩ (.int .i64 q)).setCell ⟨CB,o+8,none⟩ (.int .i64 0)
theorem nine_other {W:World} {CB o k:Nat} {q:Int} (h:k≠CB):(nineSet W CB o q).heap[k]? = W.heap[k]? := by
 unfold nineSet;rw[gset_otherF h,gset_otherF h,gset_otherF h,gset_otherF h,gset_otherF h,gset_otherF h,gset_otherF h,gset_otherF h,gset_otherF h]
theorem nine_size (W:World) (CB o:Nat) (q:Int):(nineSet W CB o q).heap.size=W.heap.size:=by
 unfold nineSet;rw[gsize_setF,gsize_setF,gsize_setF,gsize_setF,gsize_setF,gsize_setF,gsize_setF,gsize_setF,gsize_setF]
theorem nine_frozen (W:World) (CB o:Nat) (q:Int) (a:Addr):(nineSet W CB o q).frozen? a=W.frozen? a:=by
 unfold nineSet;rw[World.frozen?_setCell,World.frozen?_setCell,World.frozen?_setCell,World.frozen?_setCell,World.frozen?_setCell,World.frozen?_setCell,World.frozen?_setCell,World.frozen?_setCell,World.frozen?_setCell]
theorem nine_apart (W:World) (CB o:Nat) (q:Int) (p:Nat) (h:p<o∨o+9≤p):(nineSet W CB o q).cell? ⟨CB,p,none⟩=W.cell? ⟨CB,p,none⟩:=by
 unfold nineSet;rw[World.cell?_setCell_other _ _ _ _ (fun e=>by cases e;omega),World.cell?_setCell_other _ _ _ _ (fun e=>by cases e;omega),World.cell?_setCell_other _ _ _ _ (fun e=>by cases e;omega),World.cell?_setCell_other _ _ _ _ (fun e=>by cases e;omega),World.cell?_setCell_other _ _ _ _ (fun e=>by cases e;omega),World.cell?_setCell_other _ _ _ _ (fun e=>by cases e;omega),World.cell?_setCell_other _ _ _ _ (fun e=>by cases e;omega),World.cell?_setCell_other _ _ _ _ (fun e=>by cases e;omega),World.cell?_setCell_other _ _ _ _ (fun e=>by cases e;omega)]
theorem nine_cells {W:World} {CB o:Nat} {q:Int} (h:∀ j,j<9→(W.cell? ⟨CB,o+j,none⟩).isSome=true):(nineSet W CB o q).cell? ⟨CB,o,none⟩=some (.int .i64 1)∧(nineSet W CB o q).cell? ⟨CB,o+1,none⟩=some (.int .i64 0)∧(nineSet W CB o q).cell? ⟨CB,o+2,none⟩=some (.int .i64 0)∧(nineSet W CB o q).cell? ⟨CB,o+3,none⟩=some (.int .i64 0)∧(nineSet W CB o q).cell? ⟨CB,o+4,none⟩=some (.int .i64 0)∧(nineSet W CB o q).cell? ⟨CB,o+5,none⟩=some (.int .i64 0)∧(nineSet W CB o q).cell? ⟨CB,o+6,none⟩=some (.slice none 0 0)∧(nineSet W CB o q).cell? ⟨CB,o+7,none⟩=some (.int .i64 q)∧(nineSet W CB o q).cell? ⟨CB,o+8,none⟩=some (.int .i64 0):=by
 have hs:∀ (V:World) (a b:Addr) (v:Value),(V.cell? b).isSome=true→((V.setCell a v).cell? b).isSome=true:=fun V a b v hb=>by
  by_cases e:b=a
  ·subst e
   obtain⟨u,hu⟩:=Option.isSome_iff_exists.1 hb;rw[World.cell?_setCell_same _ _ _ hu];rfl
  ·rw[World.cell?_setCell_other _ _ _ _ (Ne.symm e)];exact hb
 have he:∀ (V:World) (a:Addr) (v:Value),(V.cell? a).isSome=true→(V.setCell a v).cell? a=some v:=fun V a v ha=>by
  obtain⟨u,hu⟩:=Option.isSome_iff_exists.1 ha;exact World.cell?_setCell_same _ _ _ hu
 have h0:(W.cell? ⟨CB,o,none⟩).isSome=true:=h 0 (by omega);have h1:(W.cell? ⟨CB,o+1,none⟩).isSome=true:=h 1 (by omega);have h2:(W.cell? ⟨CB,o+2,none⟩).isSome=true:=h 2 (by omega);have h3:(W.cell? ⟨CB,o+3,none⟩).isSome=true:=h 3 (by omega);have h4:(W.cell? ⟨CB,o+4,none⟩).isSome=true:=h 4 (by omega);have h5:(W.cell? ⟨CB,o+5,none⟩).isSome=true:=h 5 (by omega);have h6:(W.cell? ⟨CB,o+6,none⟩).isSome=true:=h 6 (by omega);have h7:(W.cell? ⟨CB,o+7,none⟩).isSome=true:=h 7 (by omega);have h8:(W.cell? ⟨CB,o+8,none⟩).isSome=true:=h 8 (by omega);unfold nineSet;refine⟨?_,?_,?_,?_,?_,?_,?_,?_,?_⟩
 ·rw[World.cell?_setCell_other _ _ _ _ (by simp),World.cell?_setCell_other _ _ _ _ (by simp),World.cell?_setCell_other _ _ _ _ (by simp),World.cell?_setCell_other _ _ _ _ (by simp),World.cell?_setCell_other _ _ _ _ (by simp),World.cell?_setCell_other _ _ _ _ (by simp),World.cell?_setCell_other _ _ _ _ (by simp),World.cell?_setCell_other _ _ _ _ (by simp)];exact he _ _ _ (h0)
 ·rw[World.cell?_setCell_other _ _ _ _ (by simp),World.cell?_setCell_other _ _ _ _ (by simp),World.cell?_setCell_other _ _ _ _ (by simp),World.cell?_setCell_other _ _ _ _ (by simp),World.cell?_setCell_other _ _ _ _ (by simp),World.cell?_setCell_other _ _ _ _ (by simp),World.cell?_setCell_other _ _ _ _ (by simp)];exact he _ _ _ (hs _ _ _ _ (h1))
 ·rw[World.cell?_setCell_other _ _ _ _ (by simp),World.cell?_setCell_other _ _ _ _ (by simp),World.cell?_setCell_other _ _ _ _ (by simp),World.cell?_setCell_other _ _ _ _ (by simp),World.cell?_setCell_other _ _ _ _ (by simp),World.cell?_setCell_other _ _ _ _ (by simp)];exact he _ _ _ (hs _ _ _ _ (hs _ _ _ _ (h2)))
 ·rw[World.cell?_setCell_other _ _ _ _ (by simp),World.cell?_setCell_other _ _ _ _ (by simp),World.cell?_setCell_other _ _ _ _ (by simp),World.cell?_setCell_other _ _ _ _ (by simp),World.cell?_setCell_other _ _ _ _ (by simp)];exact he _ _ _ (hs _ _ _ _ (hs _ _ _ _ (hs _ _ _ _ (h3))))
 ·rw[World.cell?_setCell_other _ _ _ _ (by simp),World.cell?_setCell_other _ _ _ _ (by simp),World.cell?_setCell_other _ _ _ _ (by simp),World.cell?_setCell_other _ _ _ _ (by simp)];exact he _ _ _ (hs _ _ _ _ (hs _ _ _ _ (hs _ _ _ _ (hs _ _ _ _ (h4)))))
 ·rw[World.cell?_setCell_other _ _ _ _ (by simp),World.cell?_setCell_other _ _ _ _ (by simp),World.cell?_setCell_other _ _ _ _ (by simp)];exact he _ _ _ (hs _ _ _ _ (hs _ _ _ _ (hs _ _ _ _ (hs _ _ _ _ (hs _ _ _ _ (h5))))))
 ·rw[World.cell?_setCell_other _ _ _ _ (by simp),World.cell?_setCell_other _ _ _ _ (by simp)];exact he _ _ _ (hs _ _ _ _ (hs _ _ _ _ (hs _ _ _ _ (hs _ _ _ _ (hs _ _ _ _ (hs _ _ _ _ (h6)))))))
 ·rw[World.cell?_setCell_other _ _ _ _ (by simp)];exact he _ _ _ (hs _ _ _ _ (hs _ _ _ _ (hs _ _ _ _ (hs _ _ _ _ (hs _ _ _ _ (hs _ _ _ _ (hs _ _ _ _ (h7))))))))
 ·exact he _ _ _ (hs _ _ _ _ (hs _ _ _ _ (hs _ _ _ _ (hs _ _ _ _ (hs _ _ _ _ (hs _ _ _ _ (hs _ _ _ _ (hs _ _ _ _ (h8)))))))))
theorem below_drewL {w w':World} (h:Below w.drew.heap.size w.drew w'):Below w.heap.size w w':=(Below.drew (Below.refl _ _)).trans h
noncomputable def loR4:Code:=((Tryz.f54.body.bind (regionNF 4)).getD .skip)
theorem lo_r4 (s:SwN) (n KB:Nat) (x:Ins) (g0 g3 g4 g5 g6 g7 g8 g9 g10 g11 g12 g13 g14 g15 g16 g17 g18 g19 g20 g21 g22 g23 g24 g25 g26 g27 g28 g29 g30 g31:Value) (DF:List Deferred) (Q0:Exit→Act→World→Prop) (w1:World) (hQ0:∀ c (a:Act) (dd:Option Tmp) v x,Q0 (.panic c) (a.put dd v) x→Q0 (.panic c) a x)
  (h0:w1.cell? ⟨KB,0,none⟩=some (.pointer (some ⟨s.SB,0,none⟩))) (h1:w1.cell? ⟨s.SB,0,none⟩=some (.slice (some ⟨s.CB,s.co,none⟩) s.N s.cap)) (HI:Hid (InsW s.L w1 s.CB s.co n x)) (hn:n<s.N) (HN:Hid (KB≠s.CB∧s.SB≠s.CB))
  (HK:Hid (∀ y17 y18 y19 y20 y21 y22 y23 y24 y25 y26 y27 y28 y29 y30 y31 (W:World),Below w1.heap.size w1 W→Q0 .normal ⟨#[g0,.int .i64 (n:Int),.pointer (some ⟨KB,0,none⟩),g3,g4,g5,g6,g7,g8,g9,g10,g11,g12,g13,g14,g15,g16,y17,y18,y19,y20,y21,y22,y23,y24,y25,y26,y27,y28,y29,y30,y31],DF⟩ (nineSet W s.CB (s.co+n*9) x.s))) :
  Code.wp prog loR4 Q0 ⟨#[g0,.int .i64 (n:Int),.pointer (some ⟨KB,0,none⟩),g3,g4,g5,g6,g7,g8,g9,g10,g11,g12,g13,g14,g15,g16,g17,g18,g19,g20,g21,g22,g23,g24,g25,g26,g27,g28,g29,g30,g31],DF⟩ w1:=by
 have j0:(0:Int)≤n:=by omega
 have j1:(n:Int)<s.N:=by omega
 obtain⟨v6,_,_,i0,i1,i2,i3,i4,i5,i6,h7,i8,z0,z1,z2,z3,z4,z5,z6,z7,z8⟩:=HI.out
 have HI9:Hid (∀ V,Below w1.heap.size w1 V→V.cell? ⟨s.CB,s.co+n*9,none⟩=some (.int .i64 x.op)∧V.cell? ⟨s.CB,s.co+n*9+1,none⟩=some (.int .i64 x.sub)∧V.cell? ⟨s.CB,s.co+n*9+2,none⟩=some (.int .i64 x.a)∧V.cell? ⟨s.CB,s.co+n*9+3,none⟩=some (.int .i64 x.b)∧V.cell? ⟨s.CB,s.co+n*9+4,none⟩=some (.int .i64 x.d)∧V.cell? ⟨s.CB,s.co+n*9+5,none⟩=some (.int .i64 x.k)∧V.cell? ⟨s.CB,s.co+n*9+6,none⟩=some (v6)∧V.cell? ⟨s.CB,s.co+n*9+7,none⟩=some (.int .i64 x.s)∧V.cell? ⟨s.CB,s.co+n*9+8,none⟩=some (.int .i64 x.t)∧V.frozen? ⟨s.CB,s.co+n*9,none⟩=false∧V.frozen? ⟨s.CB,s.co+n*9+1,none⟩=false∧V.frozen? ⟨s.CB,s.co+n*9+2,none⟩=false∧V.frozen? ⟨s.CB,s.co+n*9+3,none⟩=false∧V.frozen? ⟨s.CB,s.co+n*9+4,none⟩=false∧V.frozen? ⟨s.CB,s.co+n*9+5,none⟩=false∧V.frozen? ⟨s.CB,s.co+n*9+6,none⟩=false∧V.frozen? ⟨s.CB,s.co+n*9+7,none⟩=false∧V.frozen? ⟨s.CB,s.co+n*9+8,none⟩=false):=fun V hb=>by
  have kf:∀ {o:Nat} {u:Value},w1.cell? ⟨s.CB,o,none⟩=some u→w1.frozen? ⟨s.CB,o,none⟩=false→V.frozen? ⟨s.CB,o,none⟩=false:=fun q1 q=>by rw[World.frozen?_of_block (w:=w1) (hb.block _ (block_lt_of_cell q1))];exact q
  exact⟨keep_cell hb i0,keep_cell hb i1,keep_cell hb i2,keep_cell hb i3,keep_cell hb i4,keep_cell hb i5,keep_cell hb i6,keep_cell hb h7,keep_cell hb i8,kf i0 z0,kf i1 z1,kf i2 z2,kf i3 z3,kf i4 z4,kf i5 z5,kf i6 z6,kf h7 z7,kf i8 z8⟩
 have HN7:Hid (∀ V,Below w1.heap.size w1 V→(nineSet V s.CB (s.co+n*9) x.s).cell? ⟨s.CB,s.co+n*9+7,none⟩=some (.int .i64 x.s)):=fun V hb=>by
  obtain⟨e0,e1,e2,e3,e4,e5,e6,e7,e8,_⟩:=HI9.out V hb;refine(nine_cells (W:=V) (CB:=s.CB) (o:=s.co+n*9) (q:=x.s) (fun j hj=>?_)).2.2.2.2.2.2.2.1
  match j,hj with
  |0,_=>exact Option.isSome_iff_exists.2 ⟨_,e0⟩
  |1,_=>exact Option.isSome_iff_exists.2 ⟨_,e1⟩
  |2,_=>exact Option.isSome_iff_exists.2 ⟨_,e2⟩
  |3,_=>exact Option.isSome_iff_exists.2 ⟨_,e3⟩
  |4,_=>exact Option.isSome_iff_exists.2 ⟨_,e4⟩
  |5,_=>exact Option.isSome_iff_exists.2 ⟨_,e5⟩
  |6,_=>exact Option.isSome_iff_exists.2 ⟨_,e6⟩
  |7,_=>exact Option.isSome_iff_exists.2 ⟨_,e7⟩
  |8,_=>exact Option.isSome_iff_exists.2 ⟨_,e8⟩
 clear i0 i1 i2 i3 i4 i5 i6 i8 z0 z1 z2 z3 z4 z5 z6 z7 z8
 conv=>arg 2;whnf
 refine wp_region_held_drew (S:=(fun w'=>w'.cell? ⟨KB,0,none⟩=some (.pointer (some ⟨s.SB,0,none⟩))∧w'.cell? ⟨s.SB,0,none⟩=some (.slice (some ⟨s.CB,s.co,none⟩) s.N s.cap)∧w'.cell? ⟨s.CB,s.co+n*9+7,none⟩=some (.int .i64 x.s))) (by kernel_rfl) (⟨h0,h1,h7⟩) (fun hH=>?_);refine wpAnyH_take (i:=0) (oi:=?oa0) (v:=?va0) ?ia0 (by kernel_rfl) (by kernel_rfl) (by kernel_rfl) ?qa0 ?ya0 hH ?_
 case ia0=>simp only[zga,zgs,zgz];rfl
 case qa0=>exact fun _ _ _=>hQ0 _ _ _ _ _
 case ya0=>refine .inl ⟨by rfl,?_⟩;intro w' hSw;(try dsimp only at hSw);go_simp;try with_reducible rfl
 simp only[Act.put,zsa,zsz,zss];refine wpAnyH_take (i:=1) (oi:=?oa1) (v:=?va1) ?ia1 (by kernel_rfl) (by kernel_rfl) (by kernel_rfl) ?qa1 ?ya1 hH ?_
 case ia1=>simp only[zga,zgs,zgz];rfl
 case qa1=>exact fun _ _ _=>hQ0 _ _ _ _ _
 case ya1=>refine .inl ⟨by rfl,?_⟩;intro w' hSw;(try dsimp only at hSw);go_simp;try with_reducible rfl
 simp only[Act.put,zsa,zsz,zss];refine wpAnyH_take (i:=2) (oi:=?oa2) (v:=?va2) ?ia2 (by kernel_rfl) (by kernel_rfl) (by kernel_rfl) ?qa2 ?ya2 hH ?_
 case ia2=>simp only[zga,zgs,zgz];rfl
 case qa2=>exact fun _ _ _=>hQ0 _ _ _ _ _
 case ya2=>refine .inl ⟨by rfl,?_⟩;intro w' hSw;(try dsimp only at hSw);go_simp;try with_reducible rfl
 simp only[Act.put,zsa,zsz,zss];refine wpAnyH_take (i:=3) (oi:=?oa3) (v:=?va3) ?ia3 (by kernel_rfl) (by kernel_rfl) (by kernel_rfl) ?qa3 ?ya3 hH ?_
 case ia3=>simp only[zga,zgs,zgz];rfl
 case qa3=>exact fun _ _ _=>hQ0 _ _ _ _ _
 case ya3=>refine .inl ⟨by rfl,?_⟩;intro w' hSw;(try dsimp only at hSw);go_simp;try with_reducible rfl
 simp only[Act.put,zsa,zsz,zss];refine wpAnyH_take (i:=4) (oi:=?oa4) (v:=?va4) ?ia4 (by kernel_rfl) (by kernel_rfl) (by kernel_rfl) ?qa4 ?ya4 hH ?_
 case ia4=>simp only[zga,zgs,zgz];rfl
 case qa4=>exact fun _ _ _=>hQ0 _ _ _ _ _
 case ya4=>refine .inl ⟨by rfl,?_⟩;intro w' hSw;(try dsimp only at hSw);go_simp;try with_reducible rfl
 simp only[Act.put,zsa,zsz,zss];refine wpAnyH_take (i:=5) (oi:=?oa5) (v:=?va5) ?ia5 (by kernel_rfl) (by kernel_rfl) (by kernel_rfl) ?qa5 ?ya5 hH ?_
 case ia5=>simp only[zga,zgs,zgz];rfl
 case qa5=>exact fun _ _ _=>hQ0 _ _ _ _ _
 case ya5=>refine .inl ⟨by rfl,?_⟩;intro w' hSw;(try dsimp only at hSw);go_simp;try with_reducible rfl
 simp only[Act.put,zsa,zsz,zss];refine wpAnyH_take (i:=6) (oi:=?oa6) (v:=?va6) ?ia6 (by kernel_rfl) (by kernel_rfl) (by kernel_rfl) ?qa6 ?ya6 hH ?_
 case ia6=>simp only[zga,zgs,zgz];rfl
 case qa6=>exact fun _ _ _=>hQ0 _ _ _ _ _
 case ya6=>refine .inl ⟨by rfl,?_⟩;intro w' hSw;(try dsimp only at hSw);go_simp;try with_reducible rfl
 simp only[Act.put,zsa,zsz,zss];refine wpAnyH_take (i:=7) (oi:=?oa7) (v:=?va7) ?ia7 (by kernel_rfl) (by kernel_rfl) (by kernel_rfl) ?qa7 ?ya7 hH ?_
 case ia7=>simp only[zga,zgs,zgz];rfl
 case qa7=>exact fun _ _ _=>hQ0 _ _ _ _ _
 case ya7=>refine .inl ⟨by rfl,?_⟩;intro w' hSw;(try dsimp only at hSw);go_simp;try with_reducible rfl
 simp only[Act.put,zsa,zsz,zss];refine wpAnyH_take (i:=8) (oi:=?oa8) (v:=?va8) ?ia8 (by kernel_rfl) (by kernel_rfl) (by kernel_rfl) ?qa8 ?ya8 hH ?_
 case ia8=>simp only[zga,zgs,zgz];rfl
 case qa8=>exact fun _ _ _=>hQ0 _ _ _ _ _
 case ya8=>refine .inl ⟨by rfl,?_⟩;intro w' hSw;(try dsimp only at hSw);go_simp;try with_reducible rfl
 simp only[Act.put,zsa,zsz,zss];refine wpAnyH_take (i:=9) (oi:=?oa9) (v:=?va9) ?ia9 (by kernel_rfl) (by kernel_rfl) (by kernel_rfl) ?qa9 ?ya9 hH ?_
 case ia9=>simp only[zga,zgs,zgz];rfl
 case qa9=>exact fun _ _ _=>hQ0 _ _ _ _ _
 case ya9=>refine .inl ⟨by rfl,?_⟩;intro w' hSw;(try dsimp only at hSw);go_simp;try with_reducible rfl
 simp only[Act.put,zsa,zsz,zss];refine wpAnyH_take (i:=10) (oi:=?oa10) (v:=?va10) ?ia10 (by kernel_rfl) (by kernel_rfl) (by kernel_rfl) ?qa10 ?ya10 hH ?_
 case ia10=>simp only[zga,zgs,zgz];rfl
 case qa10=>exact fun _ _ _=>hQ0 _ _ _ _ _
 case ya10=>refine .inl ⟨by rfl,?_⟩;intro w' hSw;(try dsimp only at hSw);go_simp;try with_reducible rfl
 simp only[Act.put,zsa,zsz,zss];refine wpAnyH_take (i:=11) (oi:=?oa11) (v:=?va11) ?ia11 (by kernel_rfl) (by kernel_rfl) (by kernel_rfl) ?qa11 ?ya11 hH ?_
 case ia11=>simp only[zga,zgs,zgz];rfl
 case qa11=>exact fun _ _ _=>hQ0 _ _ _ _ _
 case ya11=>refine .inl ⟨by rfl,?_⟩;intro w' hSw;(try dsimp only at hSw);go_simp;try with_reducible rfl
 simp only[Act.put,zsa,zsz,zss];refine wpAnyH_take (i:=12) (oi:=?oa12) (v:=?va12) ?ia12 (by kernel_rfl) (by kernel_rfl) (by kernel_rfl) ?qa12 ?ya12 hH ?_
 case ia12=>simp only[zga,zgs,zgz];rfl
 case qa12=>exact fun _ _ _=>hQ0 _ _ _ _ _
 case ya12=>refine .inl ⟨by rfl,?_⟩;intro w' hSw;(try dsimp only at hSw);go_simp;try with_reducible rfl
 simp only[Act.put,zsa,zsz,zss];refine wpAnyH_ready (rs:=[13]) (by kernel_rfl) (by simp) ?_;refine AllReadyH.cons (o:=?oa13) ?ia13 (fun K hK=>?_) AllReadyH.nil
 case ia13=>simp only[zga,zgs,zgz];rfl
 go_simp;refine(nop_any x.s _).mono ?_;rintro e v13 ⟨rfl,hb⟩;have hb0:=hb;unfold nopV;replace hb:=below_drewL hb;obtain⟨e0,e1,e2,e3,e4,e5,e6,e7,e8,f0,f1,f2,f3,f4,f5,f6,f7,f8⟩:=HI9.out _ hb;go_wp2_with fail
 refine hK.out _ _ (⟨keep_cell hb hH.1,keep_cell hb hH.2.1,keep_cell hb hH.2.2⟩) (fun hN=>?_);clear hK K hH;have hH:=hN;clear hN
 try simp only[Act.put,zsa,zsz,zss]
 refine wpAnyH_take (i:=14) (oi:=?oa14) (v:=?va14) ?ia14 (by kernel_rfl) (by kernel_rfl) (by kernel_rfl) ?qa14 ?ya14 hH ?_
 case ia14=>simp only[zga,zgs,zgz];rfl
 case qa14=>exact fun _ _ _=>hQ0 _ _ _ _ _
 case ya14=>refine .inl ⟨by rfl,?_⟩;intro w' hSw;(try dsimp only at hSw);go_simp;try with_reducible rfl
 simp only[Act.put,zsa,zsz,zss];refine wpAnyH_ready (rs:=[15]) (by kernel_rfl) (by simp) ?_;refine AllReadyH.cons (o:=?oa15) ?ia15 (fun K hK=>?_) AllReadyH.nil
 case ia15=>simp only[zga,zgs,zgz];rfl
 go_simp;refine hK.out _ _ (⟨(World.cell?_of_block (nine_other (W:=v13) (o:=s.co+n*9) (q:=x.s) HN.out.1)).trans hH.1,(World.cell?_of_block (nine_other (W:=v13) (o:=s.co+n*9) (q:=x.s) HN.out.2)).trans hH.2.1,HN7.out _ hb⟩) (fun hN=>?_);clear hK K hH;have hH:=hN;clear hN
 try simp only[Act.put,zsa,zsz,zss]
 refine wpAnyH_done (by kernel_rfl) ?_ _;exact HK.out _ _ _ _ _ _ _ _ _ _ _ _ _ _ _ _ hb
set_option maxHeartbeats 16000000
theorem nine_rest (W:World) (CB o:Nat) (q:Int):(nineSet W CB o q).os=W.os∧(nineSet W CB o q).tape=W.tape∧(nineSet W CB o q).output=W.output:=by
 have h1:∀ (V:World) (a:Addr) (v:Value),(V.setCell a v).os=V.os:=fun _ _ _=>rfl;have h2:∀ (V:World) (a:Addr) (v:Value),(V.setCell a v).tape=V.tape:=fun _ _ _=>rfl;have h3:∀ (V:World) (a:Addr) (v:Value),(V.setCell a v).output=V.output:=fun _ _ _=>rfl;unfold nineSet;exact⟨by rw[h1,h1,h1,h1,h1,h1,h1,h1,h1],by rw[h2,h2,h2,h2,h2,h2,h2,h2,h2],by rw[h3,h3,h3,h3,h3,h3,h3,h3,h3]⟩
theorem SwS.leave {s:SwN} {c:List Ins} {wt:List Nat} {vw:Value} {W:World} {n:Nat} {x:Ins} (h:SwS s c wt vw W) (hf:SwF s) (hx:c[n]? = some x):SwS s (leave c n x) wt vw (nineSet W s.CB (s.co+n*9) x.s):=by
 have hl:=hf.lt;have hd:=hf.d1;have hsz:=h.size;have kc:∀ {o:Nat} {u:Value},W.cell? ⟨s.SB,o,none⟩=some u→(nineSet W s.CB (s.co+n*9) x.s).cell? ⟨s.SB,o,none⟩=some u:=fun q=>(World.cell?_of_block (nine_other hd.1)).trans q;have hre:=nine_rest W s.CB (s.co+n*9) x.s;refine⟨hre.1.trans h.os,hre.2.1.trans h.tape,hre.2.2.trans h.output,by rw[nine_size];exact hsz,fun k hp=>(nine_other hp.2.2.1).trans (h.ag k hp),kc h.s0,kc h.s1,kc h.s2,kc h.s3,kc h.s4,kc h.s5,by rw[nine_frozen];exact h.z4,by rw[leave_len];exact h.len,fun m y hy=>?_,?_,h.ws.of (nine_other (Ne.symm hd.2.2.2.2.1)),ownsRow_blk h.ow (fun b hb=>nine_other (by have:=(h.ow.lt b hb).1;omega)),h.nd,h.wl⟩
 ·rw[leave_get] at hy
  by_cases e:n=m∧n<c.length
  ·rw[if_pos e] at hy
   cases hy
   obtain⟨rfl,_⟩:=e;obtain⟨v,_,_,e0,e1,e2,e3,e4,e5,e6,e7,e8,f0,f1,f2,f3,f4,f5,f6,f7,f8⟩:=h.code n x hx
   obtain⟨c0,c1,c2,c3,c4,c5,c6,c7,c8⟩:=nine_cells (W:=W) (CB:=s.CB) (o:=s.co+n*9) (q:=x.s) (fun j hj=>by
    match j,hj with
    |0,_=>exact Option.isSome_iff_exists.2 ⟨_,e0⟩
    |1,_=>exact Option.isSome_iff_exists.2 ⟨_,e1⟩
    |2,_=>exact Option.isSome_iff_exists.2 ⟨_,e2⟩
    |3,_=>exact Option.isSome_iff_exists.2 ⟨_,e3⟩
    |4,_=>exact Option.isSome_iff_exists.2 ⟨_,e4⟩
    |5,_=>exact Option.isSome_iff_exists.2 ⟨_,e5⟩
    |6,_=>exact Option.isSome_iff_exists.2 ⟨_,e6⟩
    |7,_=>exact Option.isSome_iff_exists.2 ⟨_,e7⟩
    |8,_=>exact Option.isSome_iff_exists.2 ⟨_,e8⟩)
   exact⟨.slice none 0 0,IL.nil _,(fun hl=>absurd rfl hl),c0,c1,c2,c3,c4,c5,c6,c7,c8,by rw[nine_frozen];exact f0,by rw[nine_frozen];exact f1,by rw[nine_frozen];exact f2,by rw[nine_frozen];exact f3,by rw[nine_frozen];exact f4,by rw[nine_frozen];exact f5,by rw[nine_frozen];exact f6,by rw[nine_frozen];exact f7,by rw[nine_frozen];exact f8⟩
  ·rw[if_neg e] at hy
   have hm:n≠m:=fun q=>e ⟨q,(List.getElem?_eq_some_iff.1 hx).1⟩;obtain⟨v,h1,h2,e0,e1,e2,e3,e4,e5,e6,e7,e8,f0,f1,f2,f3,f4,f5,f6,f7,f8⟩:=h.code m y hy;have ka:∀ {p:Nat} {u:Value},(p<s.co+n*9∨s.co+n*9+9≤p)→W.cell? ⟨s.CB,p,none⟩=some u→(nineSet W s.CB (s.co+n*9) x.s).cell? ⟨s.CB,p,none⟩=some u:=fun hp q=>(nine_apart W s.CB _ x.s _ hp).trans q;exact⟨v,h1.of4 (fun hl b o s' k c e=>nine_other (hf.lp b (h2 hl b o s' k c e)).2.2.1),h2,ka (by omega) e0,ka (by omega) e1,ka (by omega) e2,ka (by omega) e3,ka (by omega) e4,ka (by omega) e5,ka (by omega) e6,ka (by omega) e7,ka (by omega) e8,by rw[nine_frozen];exact f0,by rw[nine_frozen];exact f1,by rw[nine_frozen];exact f2,by rw[nine_frozen];exact f3,by rw[nine_frozen];exact f4,by rw[nine_frozen];exact f5,by rw[nine_frozen];exact f6,by rw[nine_frozen];exact f7,by rw[nine_frozen];exact f8⟩
 ·obtain⟨m,hm⟩:=h.mt
  exact⟨m,hm.of (nine_other (Ne.symm hd.2.2.2.1))⟩
structure JLo (s:SwN) (c:List Ins) (wt:List Nat) (vw:Value) (W3:World) (rc:Loop) (pre:List Int) (W:World):Prop where
 size:W3.heap.size+2≤W.heap.size
 block:(∀ k,k<W3.heap.size→k≠s.SB→k≠s.WB→some k≠vw.ownBlock→W.heap[k]? = W3.heap[k]?)
 df:W.heap[W3.heap.size]? = some (.deferred (some []))
 lp:W.heap[W3.heap.size+1]? = some (.loop rc)
 sw:∃ wt' vw',SwS s c wt' vw' W∧(∀ q:Nat,q∈wt'↔q∈wt∨(q:Int)∈pre)∧(vw'.ownBlock=vw.ownBlock∨∃ k,vw'.ownBlock=some k∧W3.heap.size+2≤k)
theorem JLo.enter {s:SwN} {c:List Ins} {wt:List Nat} {vw:Value} {W3:World} {rc:Loop} (h:SwS s c wt vw W3) (hf:SwF s):JLo s c wt vw W3 rc [] (loopW W3 rc) where
 size:=by simp[loopW]
 block:=fun k hk _ _ _=>by unfold loopW;rw[Below.heap_alloc _ _ k (by simp;omega),Below.heap_alloc _ _ k hk]
 df:=by unfold loopW;rw[Below.heap_alloc _ _ _ (by simp)];show (W3.heap.push _)[W3.heap.size]? = _;simp
 lp:=by
  unfold loopW
  show ((W3.alloc (.deferred (some []))).heap.push _)[W3.heap.size+1]? = _
  have:(W3.alloc (.deferred (some []))).heap.size=W3.heap.size+1:=World.size_alloc _ _;rw[←this];exact Array.getElem?_push_size
 sw:=⟨wt,vw,h.keep hf (by unfold loopW;exact bel_alloc (bel_alloc (Below.refl _ _) _) _),fun q=>by simp,.inl rfl⟩
structure MLo (s:SwN) (c:List Ins) (wt:List Nat) (vw:Value) (W3:World) (us:List Int) (W:World):Prop where
 size:W3.heap.size+2≤W.heap.size
 block:(∀ k,k<W3.heap.size→k≠s.SB→k≠s.WB→some k≠vw.ownBlock→W.heap[k]? = W3.heap[k]?)
 df:W.heap[W3.heap.size]? = some (.deferred (some []))
 sw:∃ wt' vw',SwS s c wt' vw' W∧(∀ q:Nat,q∈wt'↔q∈wt∨(q:Int)∈us)∧(vw'.ownBlock=vw.ownBlock∨∃ k,vw'.ownBlock=some k∧W3.heap.size+2≤k)
def retLo (s:SwN) (c:List Ins) (wt:List Nat) (vw:Value) (n:Nat) (x:Ins) (W:World):Ending→World→Prop:=fun e W'=>e=.returned (.tuple #[])∧∃ wt' vw',SwS s (leave c n x) wt' vw' W'∧(∀ q:Nat,q∈wt'↔q∈wt∨(q:Int)∈usX x)∧W.heap.size≤W'.heap.size∧(∀ k,k<W.heap.size→k≠s.SB→k≠s.CB→k≠s.WB→some k≠vw.ownBlock→W'.heap[k]? = W.heap[k]?)∧(vw'.ownBlock=vw.ownBlock∨∃ k,vw'.ownBlock=some k∧W.heap.size≤k)
theorem leaveOut_any {s:SwN} {c:List Ins} {wt:List Nat} {vw:Value} {W:World} {n:Nat} {x:Ins} (h:SwS s c wt vw W) (hf:SwF s) (HSH:Hid (∀ V:World,(∀ k,s.P k→V.heap[k]? = s.wB.heap[k]?)→ShTab V)) (hx:c[n]? = some x) (HUS:Hid (∀ y∈usX x,0≤y∧y<(s.R:Int))):Calls prog 54 #[.pointer (some ⟨s.SB,0,none⟩),.int .i64 (n:Int)] W (retLo s c wt vw n x W):=by
 have hn:n<s.N:=by have:=(List.getElem?_eq_some_iff.1 hx).1;have:=h.len;omega
 have j0:(0:Int)≤n:=by omega
 have j1:(n:Int)<s.N:=by omega
 have s0:=h.s0;obtain⟨v,hil,e0,e1,e2,e3,e4,e5,e6,e7,e8⟩:=(h.code n x hx).ins;obtain⟨va,vc,rfl,_⟩:=hil.partsF
 generalize x.args.length=vn at *
 have HH:=hidF h;have HF:=hidF hf;have HX:=hidF hx;have HIL:=hidF hil;have HSW:Hid (ShTab W):=HSH.out W h.ag;have HLT:Hid (s.SB<W.heap.size∧s.CB<W.heap.size∧s.MB<W.heap.size∧s.WB<W.heap.size∧s.wB.heap.size≤W.heap.size∧∀ k,vw.ownBlock=some k→k<W.heap.size):=by have:=hf.lt;have:=h.size;exact⟨by omega,by omega,by omega,by omega,by omega,fun k hk=>(h.ow.lt k hk).2⟩
 have hSBw:=HLT.out.1;have hCBw:=HLT.out.2.1;clear h hf hx hil;refine callsIn_wide.1 (callsIn_of_wp_marks (n:=3) func54 rfl trivial ?_);simp only[ntmps54,List.size_toArray,List.length_cons,List.length_nil,Nat.reduceAdd,Nat.reduceSub,Array.replicate_succ,Array.replicate_zero,List.push_toArray,List.append_toArray,List.nil_append,List.cons_append];refine wpIn_wide.2 ?_
 go_wp2_with (go_at_call 50;refine(uses_made2 _ _ _ _ _ _ _ _ _ _ _ x.args _ _ rfl (HSW.out.keep (bel_alloc (Below.refl _ _) _)) (HIL.out.keep (bel_alloc (Below.refl _ _) _))).mono ?_;rintro e W3 ⟨sb,ib,v,rfl,hus,hb3,hsb,hib,hvf⟩)
 obtain⟨l',hl'⟩:∃ l',(if (shOf x.op).args=true then x.args else [])=l':=⟨_,rfl⟩;rw[hl'] at hus;have HUX:Hid (usX x=usP (shOf x.op) x.a x.b l'):=by show _=_;unfold usX;rw[hl']
 obtain⟨u0,u1,u2,u3,u4,u5⟩:=hus;obtain⟨va2,vc2,rfl,h8⟩:=u5.partsF;have hbz:Below W.heap.size W W3:=bel_trans (bel_alloc (Below.refl _ _) _) hb3;have cK:W3.cell? ⟨W.heap.size,0,none⟩=some (.pointer (some ⟨s.SB,0,none⟩)):=keep_cell hb3 (cell_new2 W _ _ _ rfl);have hsb2:W.heap.size+1≤sb:=by simp at hsb;omega
 have hib2:W.heap.size+1≤ib:=by simp at hib;omega
 have hs3:W.heap.size+1≤W3.heap.size:=by have:=hb3.size;simp at this;omega
 have hsb3:sb<W3.heap.size:=block_lt_of_cell u0;have hib3:ib<W3.heap.size:=block_lt_of_cell u2;have HVF:Hid (∀ b o s n c,Value.slice va2 l'.length vc2=.slice (some ⟨b,o,s⟩) n c→W.heap.size+1≤b):=fun b o s n c h=>by have:=hvf b o s n c h;simp at this;omega
 have HBZ:=hidF hbz;have HCK:=hidF cK;have HU:=hidF (And.intro u0 (And.intro u1 (And.intro u2 (And.intro u3 (And.intro u4 u5)))));have HS3:Hid (SwS s c wt vw W3):=HH.out.keep HF.out hbz;clear hbz cK u0 u1 u2 u3 u4 u5 hb3 hsb hib hvf e0 e1 e2 e3 e4 e5 e6 e7 e8 hl' s0 hSBw hCBw;refine(wpIn_wide (n:=3)).1 ?_;refine range_outer (F:=Fence.wide) rfl (by omega) (gf:=80) (lb:=#[.pointer (some ⟨sb,0,none⟩),.pointer (some ⟨ib,0,none⟩)]) (by simp[Act.eval]) trivial (enters_of func80 (by kernel_rfl) rfl) ?_;intro fn _;refine callsIn_wide.2 ?_
 generalize hrc:loopRec fn _ _ _ _ _=rc
 have HRC:=hidF hrc;clear hrc;have HNO:Hid (∀ k,W.heap.size≤k→k≠s.SB∧k≠s.WB∧k≠s.CB∧some k≠vw.ownBlock):=fun k hk=>⟨by have:=HLT.out.1;omega,by have:=HLT.out.2.2.2.1;omega,by have:=HLT.out.2.1;omega,fun e=>by have:=HLT.out.2.2.2.2.2 k e.symm;omega⟩;have HKK:Hid (∀ pre W',JLo s c wt vw W3 rc pre W'→∀ k,W.heap.size≤k→k<W3.heap.size→W'.heap[k]? = W3.heap[k]?):=fun pre W' hJ k h1 h2=>hJ.block k h2 (HNO.out k h1).1 (HNO.out k h1).2.1 (HNO.out k h1).2.2.2;refine(uses1_any (W3.heap.size+1) sb ib (shOf x.op) x.a x.b va2 l'.length vc2 l' (loopW W3 rc) (JLo s c wt vw W3 rc) (fun _=>False) rfl h8 (JLo.enter HS3.out HF.out) ?_ ?_).mono ?_
 ·intro pre W' hJ
  have hk:=HKK.out pre W' hJ;obtain⟨s0,s1,s2,s3,s4,s5⟩:=HU.out;exact⟨cell_of s0 (fun _=>hk _ (by omega) hsb3),cell_of s1 (fun _=>hk _ (by omega) hsb3),cell_of s2 (fun _=>hk _ (by omega) hib3),cell_of s3 (fun _=>hk _ (by omega) hib3),cell_of s4 (fun _=>hk _ (by omega) hib3),s5.of2 (fun b o s n c e hb=>hk b (by have:=HVF.out b o s n c e;omega) hb)⟩
 ·intro pre y rest W' hsp hJ
  have hy:=HUS.out y (by rw[HUX.out,hsp];simp);obtain⟨z,rfl⟩:∃ z:Nat,y=z:=⟨y.toNat,by omega⟩;obtain⟨wt1,vw1,hsw,hmem,hown⟩:=hJ.sw;have hlp:=hJ.lp;rw[←HRC.out] at hlp;have hsz:=hJ.size;have hwl:=HLT.out.2.2.2.2.1
  have hno1:∀ k,k<W3.heap.size+2→some k≠vw.ownBlock→some k≠vw1.ownBlock:=fun k hk h1 e=>by
   rcases hown with q|⟨k2,q,hq⟩
   ·exact h1 (by rw[e,q])
   ·rw[q] at e
    injection e with e
    omega
  refine lo_round s c wt1 vw1 (W3.heap.size+1) W.heap.size z _ fn _ _ _ _ _ _ _ _ _ _ _ _ _ _ _ _ _ _ _ _ _ _ _ _ _ _ _ _ _ _ _ W' _ hlp (cell_of HCK.out (fun _=>HKK.out pre W' hJ _ (Nat.le_refl _) (by omega))) hsw HF.out (by omega) (by omega) ?_;intro W2 wt2 vw2 n1 n2 n3 n4 n5 n6 n7 n8 n9;replace n4:W2.heap[W3.heap.size+1]? = some (.loop rc):=by rw[←HRC.out];exact n4
  refine⟨true,rfl,fun _=>⟨Nat.le_trans hJ.size n5,fun k hk h1 h2 h3=>(n3 k (by omega) (by omega) h1 h2 (hno1 k (by omega) h3)).trans (hJ.block k hk h1 h2 h3),?_,n4,wt2,vw2,n1,fun q=>?_,?_⟩,fun h=>by cases h⟩
  ·have hw:=HNO.out W3.heap.size (by omega)
   exact(n3 _ (by omega) (by omega) hw.1 hw.2.1 (hno1 _ (by omega) hw.2.2.2)).trans hJ.df
  ·rw[n2 q,hmem q,List.mem_append,List.mem_singleton,or_assoc]
   exact or_congr Iff.rfl (or_congr Iff.rfl ⟨fun e=>by rw[e],fun e=>by omega⟩)
  ·rcases n9 with e|⟨k,e,hk⟩
   ·rw[e];exact hown
   ·exact .inr ⟨k,e,by omega⟩
 ·rintro e W5 ⟨rfl,hJ⟩
  replace hJ:=hJ.resolve_right (fun h=>h);refine⟨⟨_,rfl⟩,rc,hJ.lp,by rw[←HRC.out];simp[loopRec],.inl ⟨by rw[←HRC.out];rfl,?_⟩⟩;refine gq_namedF (MLo s c wt vw W3 (usX x)) ?_ ?_
  ·have hsz:=hJ.size
   have p1:∀ o' k,k≠W3.heap.size+1→(W5.putObj (W3.heap.size+1) o').heap[k]? = W5.heap[k]? := fun _ k hk=>put_otherF hk;obtain⟨wt1,vw1,hsw,hmem,hown⟩:=hJ.sw;have hwl:=HLT.out.2.2.2.2.1;exact⟨by rw[World.putObj_size];exact hsz,fun k h1 h2 h3 h4=>(p1 _ k (by omega)).trans (hJ.block k h1 h2 h3 h4),(p1 _ _ (by omega)).trans hJ.df,wt1,vw1,hsw.put HF.out hJ.lp (by omega) _,fun q=>by rw[hmem q,HUX.out],hown⟩
  intro W7 hM;have HM7:=hidF hM;obtain⟨wt1,vw1,hsw,hmem,hown⟩:=hM.sw;have HS7:=hidF hsw;have HMO:=hidF (And.intro hmem hown);have hnoW:=HNO.out W.heap.size (Nat.le_refl _);have cK:W7.cell? ⟨W.heap.size,0,none⟩=some (.pointer (some ⟨s.SB,0,none⟩)):=cell_of HCK.out (fun _=>hM.block _ (by omega) hnoW.1 hnoW.2.1 hnoW.2.2.2);have c0:=hsw.s0;have HI7:=hidF (hsw.code n x HX.out);have HNN:Hid (W.heap.size≠s.CB∧s.SB≠s.CB):=⟨hnoW.2.2.1,HF.out.d1.1⟩;clear hM hJ hsw hmem hown hnoW;dsimp only
  go_upto_region 4 with fail
  refine wp_calm ?_;refine lo_r4 s n W.heap.size x _ _ _ _ _ _ _ _ _ _ _ _ _ _ _ _ _ _ _ _ _ _ _ _ _ _ _ _ _ _ _ _ W7 (fun c a dd v x h=>by cases h.1) cK c0 HI7 hn HNN ?_;intro y17 y18 y19 y20 y21 y22 y23 y24 y25 y26 y27 y28 y29 y30 y31 W8 hb8;have HE8:Hid (SwS s (leave c n x) wt1 vw1 (nineSet W8 s.CB (s.co+n*9) x.s)):=(HS7.out.keep HF.out hb8).leave HF.out HX.out;have HB8:Hid (∀ k,k<W7.heap.size→k≠s.CB→(nineSet W8 s.CB (s.co+n*9) x.s).heap[k]? = W7.heap[k]?):=fun k h1 h2=>(nine_other h2).trans (hb8.block k h1);have HZ8:Hid (W7.heap.size≤(nineSet W8 s.CB (s.co+n*9) x.s).heap.size):=by show _≤_;rw[nine_size];exact hb8.size
  generalize nineSet W8 s.CB (s.co+n*9) x.s=W9 at *
  clear hb8;refine⟨rfl,?_⟩;go_wp2;have hm7:=HM7.out;have hsz7:=hm7.size;have hz8:=HZ8.out;refine leaves_marks [W3.heap.size] W9 (by simp) (fun d hd=>?_) ?_
  ·have e:d=W3.heap.size:=by simpa using hd
   rw[e];exact(HB8.out _ (by omega) (HNO.out _ (by omega)).2.2.1).trans hm7.df
  intro W10 h1 h2 h3 h4 h5;have hk:∀ k,k≠W3.heap.size→W10.heap[k]? = W9.heap[k]? := fun k q=>h1 k (fun hd=>q (List.mem_singleton.1 hd));have hwl:=HLT.out;have hsw:=HE8.out;refine⟨_,(by simp[results,results54,go_sem]),rfl,wt1,vw1,hsw.of HF.out (by rw[h5];exact Nat.le_refl _) h2 h3 h4 (fun k g1 g2=>hk k (fun e=>?_)) ?_,HMO.out.1,by rw[h5];omega,fun k g1 g2 g3 g4 g5=>(hk k (by omega)).trans ((HB8.out k (by omega) g3).trans ((hm7.block k (by omega) g2 g4 g5).trans (HBZ.out.block k g1))),?_⟩
  ·have hf:=HF.out.lt
   rcases g2 with g|g|g|g|g
   ·have:=g.1;omega
   ·omega
   ·omega
   ·omega
   ·rcases HMO.out.2 with q|⟨k2,q,hq⟩
    ·have:=hwl.2.2.2.2.2 k (by rw[←q];exact g.symm)
     omega
    ·rw[q] at g
     injection g with g
     omega
  ·obtain⟨m,hm⟩:=hsw.mt
   exact⟨m,hm.of (hk _ (by omega))⟩
  ·rcases HMO.out.2 with q|⟨k2,q,hq⟩
   ·exact .inl q
   ·exact .inr ⟨k2,q,by omega⟩
set_option maxHeartbeats 4000000
noncomputable def asRange:List (Array Tmp×Code×Code):=(Tryz.f33.body.map rangesOfF).getD []
noncomputable def asAssign:Code:=((asRange[0]?).map (·.2.1)).getD .skip
noncomputable def asBody:Code:=((asRange[0]?).map (·.2.2)).getD .skip
attribute [local go_sem] Oper.semAt_some
theorem as_round (l LB b N y d:Nat) (q:Bool) (fn:FuncId) (z0 z1 z2 z3 z5 z6 z7 z8 z9 z10 z11 z12 z13 z14 z15 z16 z17 z18 z19 z20 z21 z22 z23 z24 z25 z26 z27 z28 z29 z30 z31 z32 z33 z34 z35 z36 z37 z38 z39 z40 z41 z42 z43 z44 z45 z46 z47 z48:Value) (W:World) (R:Ending→World→Prop)
  (hl:W.heap[l]? = some (.loop (loopRec fn #[z0,z1,z2,z3,.pointer (some ⟨LB,0,none⟩),z5,z6,z7,z8,z9,z10,z11,z12,z13,z14,z15,z16,z17,z18,z19,z20,z21,z22,z23,z24,z25,z26,z27,z28,z29,z30,z31,z32,z33,z34,z35,z36,z37,z38,z39,z40,z41,z42,z43,z44,z45,z46,z47,z48] #[40] asAssign asBody d))) (h0:W.cell? ⟨LB,0,none⟩=some (.slice (some ⟨b,0,none⟩) N N)) (cv:W.cell? ⟨b,y,none⟩=some (.bool q)) (j0:(0:Int)≤y) (j1:(y:Int)<N)
  (HT:Hid (q=false→∀ W':World,(∀ k,k≠l→W'.heap[k]? = W.heap[k]?)→W'.heap[l]? = some (.loop (loopRec fn #[z0,z1,z2,z3,.pointer (some ⟨LB,0,none⟩),z5,z6,z7,z8,z9,z10,z11,z12,z13,z14,z15,z16,z17,z18,z19,z20,z21,z22,z23,z24,z25,z26,z27,z28,z29,z30,z31,z32,z33,z34,z35,z36,z37,z38,z39,z40,z41,z42,z43,z44,z45,z46,z47,z48] #[40] asAssign asBody d))→W'.heap.size=W.heap.size→W'.os=W.os→W'.tape=W.tape→W'.output=W.output→R (.returned (.bool true)) W'))
  (HF:Hid (q=true→∀ W':World,(∀ k,k≠l→W'.heap[k]? = W.heap[k]?)→W'.heap[l]? = some (.loop { state:=.done,pending:=some (.exit 1),fn:=fn,tmps:=#[z0,z1,z2,z3,.pointer (some ⟨LB,0,none⟩),z5,z6,z7,z8,z9,z10,z11,z12,z13,z14,z15,z16,z17,z18,z19,z20,z21,z22,z23,z24,z25,z26,z27,z28,z29,z30,z31,z32,z33,z34,z35,z36,z37,z38,z39,z40,z41,z42,z43,z44,z45,z46,z47,z48],params:=#[40],assign:=asAssign,body:=asBody,defers:=d })→W'.heap.size=W.heap.size→W'.os=W.os→W'.tape=W.tape→W'.output=W.output→R (.returned (.bool false)) W')) :
  YieldAt Fence.wide 0 prog l #[.int .i64 y] W R:=by
 have n0:=cell_not_loopF hl h0;have n1:=cell_not_loopF hl cv;refine yield_round hl rfl rfl trivial ?_;simp only[loopRec]
 conv=>arg 4;whnf
 gi_wp2
 refine⟨(by first|exact hl|rfl),?_⟩
 conv=>arg 4;whnf
 have ll:l<W.heap.size:=(zge hl).1;obtain⟨W2,hW2⟩:∃ W2,W.putObj l (.loop { state:=.busy,pending:=none,fn:=fn,tmps:=#[z0,z1,z2,z3,.pointer (some ⟨LB,0,none⟩),z5,z6,z7,z8,z9,z10,z11,z12,z13,z14,z15,z16,z17,z18,z19,z20,z21,z22,z23,z24,z25,z26,z27,z28,z29,z30,z31,z32,z33,z34,z35,z36,z37,z38,z39,z40,z41,z42,z43,z44,z45,z46,z47,z48],params:=#[40],assign:=asAssign,body:=asBody,defers:=d })=W2:=⟨_,rfl⟩;have HO:Hid (∀ k,k≠l→W2.heap[k]? = W.heap[k]?):=fun k hk=>by rw[←hW2];exact put_otherF hk
 have HL:Hid (W2.heap[l]? = some (.loop { state:=.busy,pending:=none,fn:=fn,tmps:=#[z0,z1,z2,z3,.pointer (some ⟨LB,0,none⟩),z5,z6,z7,z8,z9,z10,z11,z12,z13,z14,z15,z16,z17,z18,z19,z20,z21,z22,z23,z24,z25,z26,z27,z28,z29,z30,z31,z32,z33,z34,z35,z36,z37,z38,z39,z40,z41,z42,z43,z44,z45,z46,z47,z48],params:=#[40],assign:=asAssign,body:=asBody,defers:=d })):=by show _=_;rw[←hW2];exact World.putObj_heap_same ll
 have HS:Hid (W2.heap.size=W.heap.size∧W2.os=W.os∧W2.tape=W.tape∧W2.output=W.output):=by rw[←hW2];exact⟨World.putObj_size ..,rfl,rfl,rfl⟩
 rw[hW2];clear hW2 hl;replace h0:=(World.cell?_of_block (HO.out LB n0)).trans h0;replace cv:=(World.cell?_of_block (HO.out b n1)).trans cv
 cases q with
 |false =>
  gi_wp2
  exact⟨HL.out,HT.out (by trivial) _ (fun k hk=>(put_otherF hk).trans (HO.out k hk)) (World.putObj_heap_same (by rw[HS.out.1];exact ll)) (by rw[World.putObj_size,HS.out.1]) HS.out.2.1 HS.out.2.2.1 HS.out.2.2.2⟩
 |true =>
  gi_wp2
  exact⟨HL.out,HF.out (by trivial) _ (fun k hk=>(put_otherF hk).trans (HO.out k hk)) (World.putObj_heap_same (by rw[HS.out.1];exact ll)) (by rw[World.putObj_size,HS.out.1]) HS.out.2.1 HS.out.2.2.1 HS.out.2.2.2⟩
structure AskI (c0:List Ins) (N R r:Nat) (l:Nat→Bool) (c:List Ins) (wt ws:List Nat) (i:Nat) (c':List Ins) (wt':List Nat):Prop where
 cur:Cur c0 c'
 calm:Calm R (fun q=>q∈wt') (fun q=>q=r) c'
 lv:∀ n,n<N→LvX c' r n→l n=true
 ex:r∈wt'∨((∀ n,n<N→l n=true→LvX c' r n)∧∀ n∈ws.take i,¬ DeadAt c' r n)
 mo:(c'=c∧wt'=wt)∨(busy c'<busy c∧∃ n,DeadAt c r n)
 sub:∀ q∈wt,q∈wt'
theorem AskI.start {c0 c:List Ins} {N R r:Nat} {l:Nat→Bool} {wt ws:List Nat} (hc:Cur c0 c) (hm:Calm R (fun q=>q∈wt) (fun q=>q=r) c) (hl:∀ n,n<N→(l n=true↔LvX c r n)):AskI c0 N R r l c wt ws 0 c wt :=
 ⟨hc,hm,fun n hn h=>(hl n hn).2 h,.inr ⟨fun n hn h=>(hl n hn).1 h,fun n hn=>by simp at hn⟩,.inl ⟨rfl,rfl⟩,fun q hq=>hq⟩
theorem AskI.skip {c0 c c':List Ins} {N R r i n:Nat} {l:Nat→Bool} {wt ws wt':List Nat} (h:AskI c0 N R r l c wt ws i c' wt') (hg:ws[i]? = some n) (hd:r∈wt'∨¬ DeadAt c' r n):AskI c0 N R r l c wt ws (i+1) c' wt':=by
 refine⟨h.cur,h.calm,h.lv,?_,h.mo,h.sub⟩
 rcases h.ex with q|⟨q1,q2⟩
 ·exact .inl q
 ·rcases hd with q|q
  ·exact .inl q
  ·refine .inr ⟨q1,fun m hm=>?_⟩
   rw[List.take_add_one,hg] at hm
   rcases List.mem_append.1 hm with z|z
   ·exact q2 m z
   ·have e:m=n:=by simpa using z
    rw[e];exact q
theorem AskI.other {c0 c c':List Ins} {N R r i n:Nat} {x:Ins} {l:Nat→Bool} {wt ws wt':List Nat} (h:AskI c0 N R r l c wt ws i c' wt') (hg:ws[i]? = some n) (hx:c'[n]? = some x) (hp:x.op ∉ pureOps):AskI c0 N R r l c wt ws (i+1) c' wt' :=
 h.skip hg (.inr fun⟨y,hy,hyp,_⟩=>by rw[hx] at hy;cases hy;exact hp hyp)
theorem AskI.live {c0 c c':List Ins} {N R r i n t:Nat} {x:Ins} {l:Nat→Bool} {wt ws wt':List Nat} (h:AskI c0 N R r l c wt ws i c' wt') (hg:ws[i]? = some n) (hx:c'[n]? = some x) (ht:(t:Int)∈sxF x) (hN:t<N) (hl:l t=true):AskI c0 N R r l c wt ws (i+1) c' wt':=by
 rcases h.ex with q|⟨q1,_⟩
 ·exact h.skip hg (.inl q)
 ·exact h.skip hg (.inr fun⟨y,hy,_,_,hyd⟩=>by rw[hx] at hy;cases hy;exact hyd t ht (q1 t hN hl))
theorem AskI.left {c0 c c':List Ins} {N R r i n:Nat} {x:Ins} {l:Nat→Bool} {wt ws wt' wt2:List Nat} (h:AskI c0 N R r l c wt ws i c' wt') (hg:ws[i]? = some n) (hx:c'[n]? = some x) (hp:x.op∈pureOps) (hw:wrX x=[(r:Int)])
  (hs:∀ s:Nat,(s:Int)∈sxF x→s<N∧l s=false) (hm:∀ q:Nat,q∈wt2↔q∈wt'∨(q:Int)∈usX x):AskI c0 N R r l c wt ws (i+1) (leave c' n x) wt2:=by
 have hd:∀ s:Nat,(s:Int)∈sxF x→¬ LvX c' r s:=fun s h1 h2=>by
  have h3:=hs s h1;have:=h.lv s h3.1 h2;rw[h3.2] at this
  cases this
 refine⟨h.cur.leave hx hp hw hd,h.calm.leave hx hp (fun q hq=>(hm q).2 (.inl hq)) (fun q hq=>(hm q).2 (.inr hq)),fun m hN hl=>h.lv m hN (leave_shrinks hx hp hw hd hl),?_,.inr ⟨?_,?_⟩,fun q hq=>(hm q).2 (.inl (h.sub q hq))⟩
 ·by_cases hu:(r:Int)∈usX x
  ·exact .inl ((hm r).2 (.inr hu))
  rcases h.ex with q|⟨q1,q2⟩
  ·exact .inl ((hm r).2 (.inl q))
  ·refine .inr ⟨fun m hN hl=>leave_keeps hx hp hu (q1 m hN hl),fun m hmem hdead=>?_⟩
   rw[List.take_add_one,hg] at hmem
   rcases List.mem_append.1 hmem with z|z
   ·exact q2 m z (hdead.back hx hp hu)
   ·have e:m=n:=by simpa using z
    subst e;obtain⟨y,hy,hyp,_⟩:=hdead;rw[leave_get,if_pos ⟨rfl,(List.getElem?_eq_some_iff.1 hx).1⟩] at hy
    cases hy
    exact absurd (show (1:Int)∈pureOps from hyp) (by decide)
 ·have:=busy_leave hx hp
  rcases h.mo with ⟨q,_⟩|⟨q,_⟩
  ·rw[←q];omega
  ·omega
 ·rcases h.mo with ⟨q,_⟩|⟨_,q⟩
  ·exact⟨n,x,by rw[←q];exact hx,hp,hw,fun t ht=>by rw[←q];exact hd t ht⟩
  ·exact q
theorem dead_writer {c0 c':List Ins} {N r n:Nat} (hc:Cur c0 c') (hN:c0.length=N) (hI:InR wrX c0) (h:DeadAt c' r n):n∈gOf (esG wrX c0 N) r:=by
 obtain⟨x,hx,hp,hw,_⟩:=h;obtain⟨x0,h0⟩:=hc.has hx
 rcases hc.ev n x0 h0 with q|⟨q,_⟩
 ·rw[hx] at q
  cases q
  exact(mem_rows hN hI).2 ⟨_,h0,by rw[hw];simp⟩
 ·rw[hx] at q
  cases q
  exact absurd (show (1:Int)∈pureOps from hp) (by decide)
theorem writer_pure {c0 c':List Ins} {N r n:Nat} {x:Ins} (hc:Cur c0 c') (hN:c0.length=N) (hI:InR wrX c0) (h:n∈gOf (esG wrX c0 N) r) (hx:c'[n]? = some x) (hp:x.op∈pureOps):wrX x=[(r:Int)]:=by
 obtain⟨x0,h0,hr⟩:=(mem_rows hN hI).1 h
 rcases hc.ev n x0 h0 with q|⟨q,_⟩
 ·rw[hx] at q
  cases q
  unfold wrX at hr ⊢
  split at hr
  ·rename_i hq
   rw[if_pos hq];have e:(r:Int)=x.d:=by simpa using hr
   rw[e]
  ·cases hr
 ·rw[hx] at q
  cases q
  exact absurd (show (1:Int)∈pureOps from hp) (by decide)
theorem AskI.done {c0 c c':List Ins} {N R r:Nat} {l:Nat→Bool} {wt wt':List Nat} (h:AskI c0 N R r l c wt (gOf (esG wrX c0 N) r) (gOf (esG wrX c0 N) r).length c' wt') (hN:c0.length=N) (hI:InR wrX c0):Calm R (fun q=>q∈wt') (fun _=>False) c':=by
 intro q hq hw _ n hd
 by_cases e:q=r
 ·subst e
  rcases h.ex with z|⟨_,z⟩
  ·exact hw z
  ·rw[List.take_length] at z
   exact z n (dead_writer h.cur hN hI hd) hd
 ·exact h.calm q hq hw e n hd
noncomputable def lsR2:Code:=((Tryz.f52.body.bind (regionNF 2)).getD .skip)
theorem ls_r2 (s:SwN) (r wn wc:Nat) (wa:Option Addr) (m:Nat→Bool) (z2 z3 z4 z5 z6 z7 z8 z9 z10 z11 z12 z13 z14 z15 z16 z17 z18 z19 z20 z21 z22 z23 z24 z25 z26 z27 z28 z29 z30 z31 z32 z33 z34 z35 z36 z37 z38 z39 z40 z41 z42 z43 z44 z45 z46 z47 z48 z49 z50 z51 z52 z53 z54 z55 z56 z57 z58 z59 z60 z61 z62 z63 z64 z65 z66 z67 z68 z69 z70 z71 z72 z73 z74 z75:Value) (DF:List Deferred) (Q0:Exit→Act→World→Prop) (w1:World) (hQ0:∀ c (a:Act) (dd:Option Tmp) v x,Q0 (.panic c) (a.put dd v) x→Q0 (.panic c) a x)
  (h1:w1.cell? ⟨s.SB,1,none⟩=some (.pointer (some ⟨s.XB,0,none⟩))) (h3:w1.cell? ⟨s.SB,3,none⟩=some (.slice (some ⟨s.NW,0,none⟩) s.R s.R)) (hr0:w1.cell? ⟨s.NW,r,none⟩=some (.slice wa wn wc)) (hr:r<s.R) (HN:Hid (s.SB≠s.MB∧s.NW≠s.MB))
  (HC:Hid (Calls prog 83 #[.pointer (some ⟨s.XB,0,none⟩),.slice wa wn wc] w1.drew (retS s.MB s.N m w1.drew)))
  (HK:Hid (∀ y15 y16 y17 y18 y19 y20 y21 y22 y23 y24 y25 y26 (W:World),MetAt W s.MB s.N m→Only s.MB w1 W→Q0 .normal ⟨#[.pointer (some ⟨s.SB,0,none⟩),.int .i64 (r:Int),z2,z3,z4,z5,z6,z7,z8,z9,z10,z11,z12,z13,z14,y15,y16,y17,y18,y19,y20,y21,y22,y23,y24,y25,y26,z27,z28,z29,z30,z31,z32,z33,z34,z35,z36,z37,z38,z39,z40,z41,z42,z43,z44,z45,z46,z47,z48,z49,z50,z51,z52,z53,z54,z55,z56,z57,z58,z59,z60,z61,z62,z63,z64,z65,z66,z67,z68,z69,z70,z71,z72,z73,z74,z75],DF⟩ W)) :
  Code.wp prog lsR2 Q0 ⟨#[.pointer (some ⟨s.SB,0,none⟩),.int .i64 (r:Int),z2,z3,z4,z5,z6,z7,z8,z9,z10,z11,z12,z13,z14,z15,z16,z17,z18,z19,z20,z21,z22,z23,z24,z25,z26,z27,z28,z29,z30,z31,z32,z33,z34,z35,z36,z37,z38,z39,z40,z41,z42,z43,z44,z45,z46,z47,z48,z49,z50,z51,z52,z53,z54,z55,z56,z57,z58,z59,z60,z61,z62,z63,z64,z65,z66,z67,z68,z69,z70,z71,z72,z73,z74,z75],DF⟩ w1:=by
 have j0:(0:Int)≤r:=by omega
 have j1:(r:Int)<s.R:=by omega
 conv=>arg 2;whnf
 refine wp_region_held_drew (S:=(fun w'=>w'.cell? ⟨s.SB,1,none⟩=some (.pointer (some ⟨s.XB,0,none⟩))∧w'.cell? ⟨s.SB,3,none⟩=some (.slice (some ⟨s.NW,0,none⟩) s.R s.R)∧w'.cell? ⟨s.NW,r,none⟩=some (.slice wa wn wc))) (by kernel_rfl) (⟨h1,h3,hr0⟩) (fun hH=>?_);refine wpAnyH_take (i:=0) (oi:=?oa0) (v:=?va0) ?ia0 (by kernel_rfl) (by kernel_rfl) (by kernel_rfl) ?qa0 ?ya0 hH ?_
 case ia0=>simp only[zga,zgs,zgz];rfl
 case qa0=>exact fun _ _ _=>hQ0 _ _ _ _ _
 case ya0=>refine .inl ⟨by rfl,?_⟩;intro w' hSw;(try dsimp only at hSw);go_simp;try with_reducible rfl
 simp only[Act.put,zsa,zsz,zss];refine wpAnyH_take (i:=1) (oi:=?oa1) (v:=?va1) ?ia1 (by kernel_rfl) (by kernel_rfl) (by kernel_rfl) ?qa1 ?ya1 hH ?_
 case ia1=>simp only[zga,zgs,zgz];rfl
 case qa1=>exact fun _ _ _=>hQ0 _ _ _ _ _
 case ya1=>refine .inl ⟨by rfl,?_⟩;intro w' hSw;(try dsimp only at hSw);go_simp;try with_reducible rfl
 simp only[Act.put,zsa,zsz,zss];refine wpAnyH_take (i:=2) (oi:=?oa2) (v:=?va2) ?ia2 (by kernel_rfl) (by kernel_rfl) (by kernel_rfl) ?qa2 ?ya2 hH ?_
 case ia2=>simp only[zga,zgs,zgz];rfl
 case qa2=>exact fun _ _ _=>hQ0 _ _ _ _ _
 case ya2=>refine .inl ⟨by rfl,?_⟩;intro w' hSw;(try dsimp only at hSw);go_simp;try with_reducible rfl
 simp only[Act.put,zsa,zsz,zss];refine wpAnyH_take (i:=3) (oi:=?oa3) (v:=?va3) ?ia3 (by kernel_rfl) (by kernel_rfl) (by kernel_rfl) ?qa3 ?ya3 hH ?_
 case ia3=>simp only[zga,zgs,zgz];rfl
 case qa3=>exact fun _ _ _=>hQ0 _ _ _ _ _
 case ya3=>refine .inl ⟨by rfl,?_⟩;intro w' hSw;(try dsimp only at hSw);go_simp;try with_reducible rfl
 simp only[Act.put,zsa,zsz,zss];refine wpAnyH_take (i:=4) (oi:=?oa4) (v:=?va4) ?ia4 (by kernel_rfl) (by kernel_rfl) (by kernel_rfl) ?qa4 ?ya4 hH ?_
 case ia4=>simp only[zga,zgs,zgz];rfl
 case qa4=>exact fun _ _ _=>hQ0 _ _ _ _ _
 case ya4=>refine .inl ⟨by rfl,?_⟩;intro w' hSw;(try dsimp only at hSw);go_simp;try with_reducible rfl
 simp only[Act.put,zsa,zsz,zss];refine wpAnyH_take (i:=5) (oi:=?oa5) (v:=?va5) ?ia5 (by kernel_rfl) (by kernel_rfl) (by kernel_rfl) ?qa5 ?ya5 hH ?_
 case ia5=>simp only[zga,zgs,zgz];rfl
 case qa5=>exact fun _ _ _=>hQ0 _ _ _ _ _
 case ya5=>refine .inl ⟨by rfl,?_⟩;intro w' hSw;(try dsimp only at hSw);go_simp;try with_reducible rfl
 simp only[Act.put,zsa,zsz,zss];refine wpAnyH_take (i:=6) (oi:=?oa6) (v:=?va6) ?ia6 (by kernel_rfl) (by kernel_rfl) (by kernel_rfl) ?qa6 ?ya6 hH ?_
 case ia6=>simp only[zga,zgs,zgz];rfl
 case qa6=>exact fun _ _ _=>hQ0 _ _ _ _ _
 case ya6=>refine .inl ⟨by rfl,?_⟩;intro w' hSw;(try dsimp only at hSw);go_simp;try with_reducible rfl
 simp only[Act.put,zsa,zsz,zss];refine wpAnyH_take (i:=7) (oi:=?oa7) (v:=?va7) ?ia7 (by kernel_rfl) (by kernel_rfl) (by kernel_rfl) ?qa7 ?ya7 hH ?_
 case ia7=>simp only[zga,zgs,zgz];rfl
 case qa7=>exact fun _ _ _=>hQ0 _ _ _ _ _
 case ya7=>refine .inl ⟨by rfl,?_⟩;intro w' hSw;(try dsimp only at hSw);go_simp;try with_reducible rfl
 simp only[Act.put,zsa,zsz,zss];refine wpAnyH_take (i:=8) (oi:=?oa8) (v:=?va8) ?ia8 (by kernel_rfl) (by kernel_rfl) (by kernel_rfl) ?qa8 ?ya8 hH ?_
 case ia8=>simp only[zga,zgs,zgz];rfl
 case qa8=>exact fun _ _ _=>hQ0 _ _ _ _ _
 case ya8=>refine .inl ⟨by rfl,?_⟩;intro w' hSw;(try dsimp only at hSw);go_simp;try with_reducible rfl
 simp only[Act.put,zsa,zsz,zss];refine wpAnyH_take (i:=9) (oi:=?oa9) (v:=?va9) ?ia9 (by kernel_rfl) (by kernel_rfl) (by kernel_rfl) ?qa9 ?ya9 hH ?_
 case ia9=>simp only[zga,zgs,zgz];rfl
 case qa9=>exact fun _ _ _=>hQ0 _ _ _ _ _
 case ya9=>refine .inl ⟨by rfl,?_⟩;intro w' hSw;(try dsimp only at hSw);go_simp;try with_reducible rfl
 simp only[Act.put,zsa,zsz,zss];refine wpAnyH_take (i:=10) (oi:=?oa10) (v:=?va10) ?ia10 (by kernel_rfl) (by kernel_rfl) (by kernel_rfl) ?qa10 ?ya10 hH ?_
 case ia10=>simp only[zga,zgs,zgz];rfl
 case qa10=>exact fun _ _ _=>hQ0 _ _ _ _ _
 case ya10=>refine .inl ⟨by rfl,?_⟩;intro w' hSw;(try dsimp only at hSw);go_simp;try with_reducible rfl
 simp only[Act.put,zsa,zsz,zss];refine wpAnyH_ready (rs:=[11]) (by kernel_rfl) (by simp) ?_;refine AllReadyH.cons (o:=?oa11) ?ia11 (fun K hK=>?_) AllReadyH.nil
 case ia11=>simp only[zga,zgs,zgz];rfl
 go_simp;refine(HC.out).mono ?_;rintro e v11 ⟨rfl,hm,ho⟩;go_wp2_with fail
 refine hK.out _ _ (⟨ho.cell HN.out.1 hH.1,ho.cell HN.out.1 hH.2.1,ho.cell HN.out.2 hH.2.2⟩) (fun hN=>?_);clear hK K hH;have hH:=hN;clear hN
 try simp only[Act.put,zsa,zsz,zss]
 refine wpAnyH_done (by kernel_rfl) ?_ _;exact HK.out _ _ _ _ _ _ _ _ _ _ _ _ _ hm ⟨ho.os,ho.tape,ho.output,ho.size,ho.block⟩
noncomputable def lsRange:List (Array Tmp×Code×Code):=(Tryz.f52.body.map rangesOfF).getD []
noncomputable def lsAssign:Code:=((lsRange[0]?).map (·.2.1)).getD .skip
noncomputable def lsBody:Code:=((lsRange[0]?).map (·.2.2)).getD .skip
attribute [local go_sem] Oper.semAt_some
theorem ls_round (l LX b N y d:Nat) (q:Bool) (fn:FuncId) (z0 z1 z2 z3 z4 z5 z6 z7 z9 z10 z11 z12 z13 z14 z15 z16 z17 z18 z19 z20 z21 z22 z23 z24 z25 z26 z27 z28 z29 z30 z31 z32 z33 z34 z35 z36 z37 z38 z39 z40 z41 z42 z43 z44 z45 z46 z47 z48 z49 z50 z51 z52 z53 z54 z55 z56 z57 z58 z59 z60 z61 z62 z63 z64 z65 z66 z67 z68 z69 z70 z71 z72 z73 z74 z75:Value) (W:World) (R:Ending→World→Prop)
  (hl:W.heap[l]? = some (.loop (loopRec fn #[z0,z1,z2,z3,z4,z5,z6,z7,.pointer (some ⟨LX,0,none⟩),z9,z10,z11,z12,z13,z14,z15,z16,z17,z18,z19,z20,z21,z22,z23,z24,z25,z26,z27,z28,z29,z30,z31,z32,z33,z34,z35,z36,z37,z38,z39,z40,z41,z42,z43,z44,z45,z46,z47,z48,z49,z50,z51,z52,z53,z54,z55,z56,z57,z58,z59,z60,z61,z62,z63,z64,z65,z66,z67,z68,z69,z70,z71,z72,z73,z74,z75] #[71] lsAssign lsBody d))) (h0:W.cell? ⟨LX,0,none⟩=some (.slice (some ⟨b,0,none⟩) N N)) (cv:W.cell? ⟨b,y,none⟩=some (.bool q)) (zv:W.frozen? ⟨b,y,none⟩=false) (j0:(0:Int)≤y) (j1:(y:Int)<N)
  (HT:Hid (∀ (W2:World),(∀ k,k≠l→W2.heap[k]? = W.heap[k]?)→W2.heap[l]? = some (.loop { state:=.busy,pending:=none,fn:=fn,tmps:=#[z0,z1,z2,z3,z4,z5,z6,z7,.pointer (some ⟨LX,0,none⟩),z9,z10,z11,z12,z13,z14,z15,z16,z17,z18,z19,z20,z21,z22,z23,z24,z25,z26,z27,z28,z29,z30,z31,z32,z33,z34,z35,z36,z37,z38,z39,z40,z41,z42,z43,z44,z45,z46,z47,z48,z49,z50,z51,z52,z53,z54,z55,z56,z57,z58,z59,z60,z61,z62,z63,z64,z65,z66,z67,z68,z69,z70,z71,z72,z73,z74,z75],params:=#[71],assign:=lsAssign,body:=lsBody,defers:=d })→(W2.heap.size=W.heap.size∧W2.os=W.os∧W2.tape=W.tape∧W2.output=W.output)→R (.returned (.bool true)) ((W2.setCell ⟨b,y,none⟩ (.bool true)).putObj l (.loop { state:=.ready,pending:=none,fn:=fn,tmps:=#[z0,z1,z2,z3,z4,z5,z6,z7,.pointer (some ⟨LX,0,none⟩),z9,z10,z11,z12,z13,z14,z15,z16,z17,z18,z19,z20,z21,z22,z23,z24,z25,z26,z27,z28,z29,z30,z31,z32,z33,z34,z35,z36,z37,z38,z39,z40,z41,z42,z43,z44,z45,z46,z47,z48,z49,z50,z51,z52,z53,z54,z55,z56,z57,z58,z59,z60,z61,z62,z63,z64,z65,z66,z67,z68,z69,z70,z71,z72,z73,z74,z75],params:=#[71],assign:=lsAssign,body:=lsBody,defers:=d })))) :
  YieldAt Fence.wide 0 prog l #[.int .i64 y] W R:=by
 have n0:=cell_not_loopF hl h0;have n4:=cell_not_loopF hl cv;refine yield_round hl rfl rfl trivial ?_;simp only[loopRec]
 conv=>arg 4;whnf
 gi_wp2
 refine⟨(by first|exact hl|rfl),?_⟩
 conv=>arg 4;whnf
 have ll:l<W.heap.size:=(zge hl).1;obtain⟨W2,hW2⟩:∃ W2,W.putObj l (.loop { state:=.busy,pending:=none,fn:=fn,tmps:=#[z0,z1,z2,z3,z4,z5,z6,z7,.pointer (some ⟨LX,0,none⟩),z9,z10,z11,z12,z13,z14,z15,z16,z17,z18,z19,z20,z21,z22,z23,z24,z25,z26,z27,z28,z29,z30,z31,z32,z33,z34,z35,z36,z37,z38,z39,z40,z41,z42,z43,z44,z45,z46,z47,z48,z49,z50,z51,z52,z53,z54,z55,z56,z57,z58,z59,z60,z61,z62,z63,z64,z65,z66,z67,z68,z69,z70,z71,z72,z73,z74,z75],params:=#[71],assign:=lsAssign,body:=lsBody,defers:=d })=W2:=⟨_,rfl⟩;have HOT:Hid (∀ k,k≠l→W2.heap[k]? = W.heap[k]?):=fun k hk=>by rw[←hW2];exact put_otherF hk
 have HL:Hid (W2.heap[l]? = some (.loop { state:=.busy,pending:=none,fn:=fn,tmps:=#[z0,z1,z2,z3,z4,z5,z6,z7,.pointer (some ⟨LX,0,none⟩),z9,z10,z11,z12,z13,z14,z15,z16,z17,z18,z19,z20,z21,z22,z23,z24,z25,z26,z27,z28,z29,z30,z31,z32,z33,z34,z35,z36,z37,z38,z39,z40,z41,z42,z43,z44,z45,z46,z47,z48,z49,z50,z51,z52,z53,z54,z55,z56,z57,z58,z59,z60,z61,z62,z63,z64,z65,z66,z67,z68,z69,z70,z71,z72,z73,z74,z75],params:=#[71],assign:=lsAssign,body:=lsBody,defers:=d })):=by show _=_;rw[←hW2];exact World.putObj_heap_same ll
 have HS:Hid (W2.heap.size=W.heap.size∧W2.os=W.os∧W2.tape=W.tape∧W2.output=W.output):=by rw[←hW2];exact⟨World.putObj_size ..,rfl,rfl,rfl⟩
 rw[hW2];clear hW2 hl;replace h0:=(World.cell?_of_block (HOT.out LX n0)).trans h0;replace cv:=(World.cell?_of_block (HOT.out b n4)).trans cv;replace zv:=(World.frozen?_of_block (HOT.out b n4)).trans zv
 have HE:Hid (R (.returned (.bool true)) ((W2.setCell ⟨b,y,none⟩ (.bool true)).putObj l (.loop { state:=.ready,pending:=none,fn:=fn,tmps:=#[z0,z1,z2,z3,z4,z5,z6,z7,.pointer (some ⟨LX,0,none⟩),z9,z10,z11,z12,z13,z14,z15,z16,z17,z18,z19,z20,z21,z22,z23,z24,z25,z26,z27,z28,z29,z30,z31,z32,z33,z34,z35,z36,z37,z38,z39,z40,z41,z42,z43,z44,z45,z46,z47,z48,z49,z50,z51,z52,z53,z54,z55,z56,z57,z58,z59,z60,z61,z62,z63,z64,z65,z66,z67,z68,z69,z70,z71,z72,z73,z74,z75],params:=#[71],assign:=lsAssign,body:=lsBody,defers:=d }))∧(W2.setCell ⟨b,y,none⟩ (.bool true)).heap[l]? = some (.loop { state:=.busy,pending:=none,fn:=fn,tmps:=#[z0,z1,z2,z3,z4,z5,z6,z7,.pointer (some ⟨LX,0,none⟩),z9,z10,z11,z12,z13,z14,z15,z16,z17,z18,z19,z20,z21,z22,z23,z24,z25,z26,z27,z28,z29,z30,z31,z32,z33,z34,z35,z36,z37,z38,z39,z40,z41,z42,z43,z44,z45,z46,z47,z48,z49,z50,z51,z52,z53,z54,z55,z56,z57,z58,z59,z60,z61,z62,z63,z64,z65,z66,z67,z68,z69,z70,z71,z72,z73,z74,z75],params:=#[71],assign:=lsAssign,body:=lsBody,defers:=d })) :=
  ⟨HT.out W2 HOT.out HL.out HS.out,by rw[gset_otherF (Ne.symm n4)];exact HL.out⟩
 clear HT
 gi_wp2
 exact⟨HE.out.2,HE.out.1⟩
set_option maxHeartbeats 16000000
def opN (c:List Ins) (n:Nat):Bool:=match c[n]? with
 |some x=>x.op != 1
 |none=>false
theorem opN_iff {c:List Ins} {n:Nat}:opN c n=true↔∃ x,c[n]? = some x∧x.op≠1:=by
 unfold opN
 cases c[n]? with
 |none=>simp
 |some x=>simp
def rsF (c:List Ins) (l:List Nat):List Nat:=l.filter (opN c)
def clM (rs ws:List Nat):Nat→Bool:=setM (setM (fun _=>false) true ws) false rs
theorem clM_iff (rs ws:List Nat) (i:Nat):clM rs ws i=true↔(i∈ws∧i ∉ rs):=by
 unfold clM setM
 by_cases h1:i∈rs
 ·simp[h1]
 ·by_cases h2:i∈ws<;>simp[h1,h2]
structure JSl (W3:World) (MB b N:Nat) (rc:Loop) (o:List Nat) (W:World):Prop where
 os:W.os=W3.os
 tape:W.tape=W3.tape
 output:W.output=W3.output
 size:W3.heap.size+2≤W.heap.size
 block:∀ k,k<W3.heap.size→k≠MB→k≠b→W.heap[k]? = W3.heap[k]?
 df:W.heap[W3.heap.size]? = some (.deferred (some []))
 lp:W.heap[W3.heap.size+1]? = some (.loop rc)
 la:MetAt W b N (fun n=>o.contains n)
theorem JSl.enter {W3:World} {MB b N:Nat} {rc:Loop} (hla:MetAt W3 b N (fun _=>false)) (hb:b<W3.heap.size):JSl W3 MB b N rc [] (loopW W3 rc) where
 os:=rfl
 tape:=rfl
 output:=rfl
 size:=by simp[loopW]
 block:=fun k hk _ _=>by unfold loopW;rw[Below.heap_alloc _ _ k (by simp;omega),Below.heap_alloc _ _ k hk]
 df:=by unfold loopW;rw[Below.heap_alloc _ _ _ (by simp)];show (W3.heap.push _)[W3.heap.size]? = _;simp
 lp:=by
  unfold loopW
  show ((W3.alloc (.deferred (some []))).heap.push _)[W3.heap.size+1]? = _
  have:(W3.alloc (.deferred (some []))).heap.size=W3.heap.size+1:=World.size_alloc _ _;rw[←this];exact Array.getElem?_push_size
 la:=by
  have h:=hla.of (w':=loopW W3 rc) (by unfold loopW;rw[Below.heap_alloc _ _ _ (by simp;omega),Below.heap_alloc _ _ _ hb]);intro i hi;have:=h i hi;simpa using this
theorem JSl.mv {W3 W W':World} {MB b N:Nat} {rc:Loop} {o:List Nat} (h:JSl W3 MB b N rc o W) (hv:Mv (W3.heap.size+2) MB W W') (hb:b<W3.heap.size) (hne:b≠MB) (hm:MB<W3.heap.size):JSl W3 MB b N rc o W' where
 os:=hv.os.trans h.os
 tape:=hv.tape.trans h.tape
 output:=hv.output.trans h.output
 size:=Nat.le_trans h.size hv.size
 block:=fun k hk h1 h2=>(hv.block k (by omega) h1).trans (h.block k hk h1 h2)
 df:=(hv.block _ (by omega) (by omega)).trans h.df
 lp:=(hv.block _ (by omega) (by omega)).trans h.lp
 la:=h.la.of (hv.block b (by omega) hne)
structure X6 (W:World) (XB N:Nat) (sv:Value) (W3:World):Prop where
 bel:Below W.heap.size W W3
 size:W3.heap.size=W.heap.size+4
 mt:MetAt W3 W.heap.size N (fun _=>false)
 c1:W3.cell? ⟨W.heap.size+1,0,none⟩=some (.slice (some ⟨W.heap.size,0,none⟩) N N)
 c2:W3.cell? ⟨W.heap.size+2,0,none⟩=some (.pointer (some ⟨XB,0,none⟩))
 c3:W3.cell? ⟨W.heap.size+3,0,none⟩=some sv
theorem x6_made (W:World) (XB N:Nat) (sa:Option Addr) (sn sc:Nat):X6 W XB N (.slice sa sn sc) ((((W.alloc (.cells (madeCells #[.bool false] N) 4)).alloc (.cells #[.slice (some ⟨W.heap.size,0,none⟩) N N] 37)).alloc (.cells #[.pointer (some ⟨XB,0,none⟩)] 56)).alloc (.cells #[.slice sa sn sc] 22)) where
 bel:=bel_alloc (bel_alloc (bel_alloc (bel_alloc (Below.refl _ _) _) _) _) _
 size:=by simp
 mt:=fun i hi=>by
  have:=made_at W (.bool false) N 4 i hi;exact⟨keep_alloc (keep_alloc (keep_alloc this.1 _) _) _,keep_frozen (bel_alloc (bel_alloc (bel_alloc (Below.refl _ _) _) _) _) this.1 this.2⟩
 c1:=keep_alloc (keep_alloc (cell_new2 _ _ _ _ (by simp)) _) _
 c2:=keep_alloc (cell_new2 _ _ _ _ (by simp)) _
 c3:=cell_new2 _ _ _ _ (by simp)
structure B6 (W5:World) (MB b N d:Nat) (o:List Nat) (W:World):Prop where
 os:W.os=W5.os
 tape:W.tape=W5.tape
 output:W.output=W5.output
 size:W5.heap.size≤W.heap.size
 block:∀ k,k<W5.heap.size→k≠MB→k≠b→W.heap[k]? = W5.heap[k]?
 df:W.heap[d]? = some (.deferred (some []))
 la:MetAt W b N (fun n=>o.contains n)
 mt:∃ m,MetAt W MB N m
def retLv (s:SwN) (c:List Ins) (wt:List Nat) (vw:Value) (r:Nat) (W:World):Ending→World→Prop:=fun e W'=>∃ b l,e=.returned (.slice (some ⟨b,0,none⟩) s.N s.N)∧W.heap.size≤b∧b<W'.heap.size∧MetAt W' b s.N l∧(∀ n,n<s.N→(l n=true↔LvX c r n))∧SwS s c wt vw W'∧(∀ k,k<W.heap.size→k≠s.MB→W'.heap[k]? = W.heap[k]?)∧W.heap.size≤W'.heap.size∧W'.os=W.os∧W'.tape=W.tape∧W'.output=W.output
theorem slive_any {s:SwN} {c:List Ins} {wt:List Nat} {vw:Value} {W:World} {r:Nat} (h:SwS s c wt vw W) (hf:SwF s) (hc:Cur s.c0 c) (hr:r<s.R):Calls prog 52 #[.pointer (some ⟨s.SB,0,none⟩),.int .i64 (r:Int)] W (retLv s c wt vw r W):=by
 have HH:=hidF h;have HF:=hidF hf;have HCUR:=hidF hc;have j0:(0:Int)≤r:=by omega
 have j1:(r:Int)<s.R:=by omega
 have hl:=hf.lt;have hd:=hf.d1;have hsz:=h.size;have s0:=h.s0;have s1:=h.s1;have s2:=h.s2;have s3:=h.s3;obtain⟨m,hm⟩:=h.mt;have HM:=hidF hm;have hX:s.XB≠s.MB:=hf.xp.2.2.2.1;have x1:W.cell? ⟨s.XB,1,none⟩=some (.slice (some ⟨s.MB,0,none⟩) s.N s.N):=cell_of hf.x1 (fun _=>h.ag s.XB hf.xp);have hrd:=h.rd hf;have hwr:=h.wr hf;have hNR:s.NR≠s.MB:=(hrd.nb (by omega)).2.2.2.1;have hNW:s.NW≠s.MB:=(hwr.nb (by omega)).2.2.2.1;obtain⟨us,hus⟩:∃ us,gOf (esG usX s.c0 s.N) r=us:=⟨_,rfl⟩;obtain⟨ws,hws⟩:∃ ws,gOf (esG wrX s.c0 s.N) r=ws:=⟨_,rfl⟩;obtain⟨ra,rc0,rb2,ro,hrv,hr8,hra,hrc⟩:=(hrd.il r hr).parts;obtain⟨wa,wc,hwv,hw8⟩:=(hwr.il r hr).partsF;have ilw:=hwr.il r hr;have blw:=hwr.bl r hr;have blr:=hrd.bl r hr;have cr:=hrd.c r hr;have cw:=hwr.c r hr;rw[up_length] at hrv hra hwv hr8;rw[hrv] at cr blr;rw[hwv] at cw ilw blw;rw[hus] at cr blr hra hrc hr8;rw[hws] at cw ilw blw;have hul:us.length≤1000000000000:=by rw[←hus];exact hf.lu r
 have hwl:ws.length≤1000000000000:=by rw[←hws];exact hf.lw r
 have hlt:∀ {f:Ins→List Int} {n q:Nat},InR f s.c0→n∈gOf (esG f s.c0 s.N) q→n<s.N:=fun hI h=>by
  obtain⟨x,hx,_⟩:=(mem_rows hf.len hI).1 h;have:=(List.getElem?_eq_some_iff.1 hx).1;have:=hf.len
  omega
 have HUN:Hid (∀ n∈us,n<s.N):=fun n hn=>hlt hf.inr.1 (by rw[hus];exact hn);have HWN:Hid (∀ n∈ws,n<s.N):=fun n hn=>hlt hf.inr.2.1 (by rw[hws];exact hn)
 have HGP:Hid (∀ k,k<s.N→(gOf (esG sxF s.c0 s.N) k).length≤1000000∧∀ t∈gOf (esG sxF s.c0 s.N) k,t<s.N):=fun k hk=>⟨by
  have h1:=gOf_length (esG sxF s.c0 s.N) k;have h2:=esT_length s.c0 s.N;rw[esT_esG] at h2;have:=hf.n0.1
  omega,fun t ht=>hlt hf.inr.2.2 ht⟩
 have HIW:=hidF (And.intro ilw blw);have HRA:=hidF hra;have HRC:Hid (∀ (i n:Nat),us[i]? = some n→W.cell? ⟨rb2,ro+i,none⟩=some (.int .i64 (n:Int))):=fun i n hi=>hrc i n (by rw[up_get,hi];rfl);have HBR:=hidF blr;have HUE:=hidF (And.intro hus hws);have hN6:s.N≤1000000:=by have:=hf.n0.1;omega
 have hMW:s.MB<W.heap.size:=by omega
 have hSM:s.SB≠s.MB:=hd.2.1;have mk1:=mk_bools s.N hN6
 generalize hun:us.length=un at *
 generalize hwn:ws.length=wn at *
 have HUL:=hidF (And.intro hun hwn);clear h hf hc hm hrd hwr hlt ilw blw blr hrv hwv hra hrc hus hws hun hwn hl hd;refine callsIn_wide.1 (callsIn_of_wp_marks (n:=3) func52 rfl trivial ?_);simp only[ntmps52,List.size_toArray,List.length_cons,List.length_nil,Nat.reduceAdd,Nat.reduceSub,Array.replicate_succ,Array.replicate_zero,List.push_toArray,List.append_toArray,List.nil_append,List.cons_append];refine wpIn_wide.2 ?_
 go_upto_region 2 with (go_at_call 82;refine(reset_any s.XB s.MB s.N s.N m W x1 hX HM).mono ?_;rintro e W2 ⟨rfl,hm2,ho2⟩)
 have t1:=ho2.cell hSM s1;have t3:=ho2.cell hSM s3;have tw:=ho2.cell hNW cw
 have HC:Hid (Calls prog 83 #[.pointer (some ⟨s.XB,0,none⟩),.slice wa wn wc] W2.drew (retS s.MB s.N (setM (fun _=>false) true ws) W2.drew)) :=
  close_any s.XB s.MB s.N s.N (.slice wa wn wc) ws (fun _=>false) W2.drew (by rw[HUL.out.2];exact hwl) (ho2.cell hX x1) hX (HIW.out.1.of2 (fun b o s' n c e _=>ho2.block b (HIW.out.2 b o s' n c e).2.2.2.1)) (fun b o s' k c e=>(HIW.out.2 b o s' k c e).2.2.2.1) HWN.out (fun i hi=>hm2 i hi)
 have HO2:=hidF ho2;clear hm2 ho2;refine wp_calm ?_;refine ls_r2 s r wn wc wa _ _ _ _ _ _ _ _ _ _ _ _ _ _ _ _ _ _ _ _ _ _ _ _ _ _ _ _ _ _ _ _ _ _ _ _ _ _ _ _ _ _ _ _ _ _ _ _ _ _ _ _ _ _ _ _ _ _ _ _ _ _ _ _ _ _ _ _ _ _ _ _ _ _ _ _ _ _ (fun c a dd v x h=>by cases h.1) t1 t3 tw hr ⟨hSM,hNW⟩ HC ?_;intro y15 y16 y17 y18 y19 y20 y21 y22 y23 y24 y25 y26 W3 hm3 ho3;refine⟨rfl,?_⟩;have HM3:=hidF hm3;have HO3:=hidF (HO2.out.trans ho3);clear hm3 ho3 t1 t3 tw HC HO2;have p0:=HO3.out.cell hSM s0;have p1:=HO3.out.cell hSM s1;have p2:=HO3.out.cell hSM s2;have pr:=HO3.out.cell hNR cr;have HS3:Hid (W3.heap.size=W.heap.size):=HO3.out.size;have hM3:s.MB<W3.heap.size:=by rw[HS3.out];exact hMW
 have HR3:Hid (∀ (i n:Nat),us[i]? = some n→W3.cell? ⟨rb2,ro+i,none⟩=some (.int .i64 (n:Int))):=fun i n hi=>HO3.out.cell (by
  have hlt:0<un:=by have:=(List.getElem?_eq_some_iff.1 hi).1;have:=HUL.out.1;omega
  exact(HBR.out rb2 ro none _ _ (by rw[HRA.out hlt])).2.2.2.1) (HRC.out i n hi)
 have HCO:Hid (∀ (n:Nat) x,c[n]? = some x→W3.cell? ⟨s.CB,s.co+n*9,none⟩=some (.int .i64 x.op)):=fun n x hx=>by
  obtain⟨v,_,_,e0,_⟩:=HH.out.code n x hx;exact HO3.out.cell HF.out.d1.2.2.2.1 e0
 obtain⟨i0,hi,hz0,hz1,hz2⟩:∃ i0,prog.info? 3=some i0∧i0.zero=some (.int .i64 0)∧i0.size=1∧i0.bytes=8:=info_parts (by kernel_rfl);have HI:=hidF (And.intro hi (And.intro hz0 (And.intro hz1 hz2)));clear s0 s1 s2 s3 cr cw hi hz0 hz1 hz2 HRC;go_wp2
 go_loopw [5,35] (fun v5 v35 wz=>∃ (k:Nat) (a5:Option Addr) (n5 c5:Nat),k≤un∧v35=.int .i64 k∧v5=.slice a5 n5 c5∧Hid ((rsF c (us.take k)).length=n5∧wz.ownsRow W3.heap.size 3 1 (.slice a5 n5 c5) n5 (intsF (up (rsF c (us.take k))))∧Below W3.heap.size W3 wz)) (fun _ v35 _=>un - (intOf v35).toNat)
 case atStart=>exact⟨0,none,0,0,by omega,rfl,rfl,by simp[rsF],by simpa[rsF,up,intsF] using World.ownsRow_nil _ _ _ _,Below.refl _ _⟩
 case round =>
  obtain⟨k,a5,n5,c5,hk,rfl,rfl,HL⟩:=hrel
  rename World=>wz
  have q0:=keep_cell HL.out.2.2 p0
  by_cases hkn:k<un
  ·have k0:(0:Int)≤k:=by omega
   have k1:(k:Int)<un:=by omega
   have hg:=List.getElem?_eq_getElem (l:=us) (show k<us.length by rw[HUL.out.1];exact hkn)
   generalize us[k]'(by rw[HUL.out.1];exact hkn)=n at hg
   obtain rfl:=HRA.out (by omega);have cn:=keep_cell HL.out.2.2 (HR3.out k n hg);have hnN:n<s.N:=HUN.out n (List.mem_of_getElem? hg);have n0:(0:Int)≤n:=by omega
   have n1:(n:Int)<s.N:=by omega
   have hcx:=List.getElem?_eq_getElem (l:=c) (show n<c.length by rw[HH.out.len];exact hnN)
   generalize c[n]'(by rw[HH.out.len];exact hnN)=x at hcx
   have co1:=keep_cell HL.out.2.2 (HCO.out n x hcx)
   have hn5:n5≤1000000000000:=by
    have h1:=HL.out.1;have h2:(rsF c (us.take k)).length≤(us.take k).length:=List.length_filter_le _ _;rw[List.length_take] at h2
    omega
   have HTK:Hid (rsF c (us.take (k+1))=rsF c (us.take k)++(if opN c n=true then [n] else [])):=by
    show _=_
    unfold rsF;rw[List.take_add_one,hg,List.filter_append]
    congr 1
    by_cases e:opN c n=true
    ·rw[if_pos e];simp[e]
    ·rw[if_neg e];simp[e]
   have HON:Hid (opN c n=(x.op != 1)):=by show _=_;unfold opN;rw[hcx]
   clear hg hcx
   by_cases hop:x.op=1
   ·rw[hop] at co1
    have HT2:Hid (rsF c (us.take (k+1))=rsF c (us.take k)):=by
     show _=_
     rw[HTK.out,HON.out,hop];simp
    clear hop;go_wp2
    go_roundw
    case rel=>exact⟨k+1,a5,n5,c5,by omega,by simp,rfl,by rw[HT2.out];exact HL.out⟩
    case measure=>simp[intOf];omega
   ·have hopb:(x.op != 1)=true:=by simpa using hop
    have hopd:decide (x.op=1)=false:=by simpa using hop
    have hope:(x.op==1)=false:=by simpa using hop
    have HT2:Hid (rsF c (us.take (k+1))=rsF c (us.take k)++[n]):=by
     show _=_
     rw[HTK.out,HON.out,hopb];simp
    go_wp2_with (at_builtin;refine wpList_append_any _ (by rfl) _ _ 22 (by rfl) W3.heap.size 3 i0 (.int .i64 0) 1 8 underlying22 HI.out.1 HI.out.2.1 HI.out.2.2.1 HI.out.2.2.2 rfl (by decide) (.slice a5 n5 c5) n5 (intsF (up (rsF c (us.take k)))) (by rfl) (HL.out.2.1.alloc _) (.slice (some ⟨wz.heap.size,0,none⟩) 1 1) 1 [.int .i64 n] (by rfl) (by rfl) ?c1 ?c2 (by unfold maxLen;omega) (by omega) ?c3 _ rfl ?_)
    case c1 =>
     refine .inl ⟨_,_,rfl,fun j u hj=>?_⟩
     match j,hj with
     |0,hj =>
      cases hj
      rw[show (⟨wz.heap.size,0,none⟩:Addr).add 0=⟨wz.heap.size,0+0,none⟩ from Addr.add_mid _ _ _];simp
     |j+1,hj=>simp at hj
    case c2=>first|rfl|(intro u hu;cases List.mem_singleton.1 hu;rfl)
    case c3=>have:=HL.out.2.2.size;first|omega|(rw[World.size_alloc];omega)
    intro a6 c6 W6 ho hg6 hbk
    have HL6:Hid ((rsF c (us.take (k+1))).length=n5+1∧W6.ownsRow W3.heap.size 3 1 (.slice a6 (n5+1) c6) (n5+1) (intsF (up (rsF c (us.take (k+1)))))∧Below W3.heap.size W3 W6):=by
     rw[HT2.out];have hgg:=grown_alloc hg6;have hbl:=HL.out.2.2;refine⟨by rw[List.length_append,HL.out.1];rfl,by rw[up_append,ints_append];exact ho,⟨hgg.os.trans hbl.os,hgg.tape.trans hbl.tape,hgg.output.trans hbl.output,Nat.le_trans hbl.size hgg.size,fun q hq=>(hgg.block q (by have:=hbl.size;omega) (fun e=>by have:=(HL.out.2.1.lt q e.symm).1;omega)).trans (hbl.block q hq)⟩⟩
    clear ho hg6 hbk hop hopb hopd hope;go_wp2
    go_roundw
    case rel=>exact⟨k+1,a6,n5+1,c6,by omega,by simp,rfl,HL6⟩
    case measure=>simp[intOf];omega
  ·obtain rfl:un=k:=by omega
   obtain⟨rs,hrs⟩:∃ rs,rsF c us=rs:=⟨_,rfl⟩
   have HL2:Hid (rs.length=n5∧wz.ownsRow W3.heap.size 3 1 (.slice a5 n5 c5) n5 (intsF (up rs))∧Below W3.heap.size W3 wz):=by
    have h:=HL.out;rw[←HUL.out.1,List.take_length,hrs] at h;exact h
   have HRS:=hidF hrs;clear HL hrs q0;have hbz:=HL2.out.2.2;have x1z:=keep_cell hbz (HO3.out.cell hX x1);have p0z:=keep_cell hbz p0;have p1z:=keep_cell hbz p1;have HMz:Hid (MetAt wz s.MB s.N (setM (fun _=>false) true ws)):=HM3.out.of (hbz.block s.MB hM3)
   have HILz:Hid (IL wz (.slice a5 n5 c5) (up rs)):=IL.ownF (by rw[up_length,HL2.out.1];exact HL2.out.2.1) (by
    rw[up_length];have h2:rs.length≤us.length:=by rw[←HRS.out];exact List.length_filter_le _ _
    have:=HUL.out.1
    omega)
   have hrl:rs.length≤1000000000000:=by
    have h2:rs.length≤us.length:=by rw[←HRS.out];exact List.length_filter_le _ _
    have:=HUL.out.1
    omega
   have HRN:Hid (∀ n∈rs,n<s.N):=fun n hn=>HUN.out n (by rw[←HRS.out] at hn;exact(List.mem_filter.1 hn).1);have HVB:Hid (∀ b o s' k c,Value.slice a5 n5 c5=.slice (some ⟨b,o,s'⟩) k c→W3.heap.size≤b∧b<wz.heap.size):=fun b o s' k c e=>HL2.out.2.1.lt b (by rw[e];rfl);have HBZ:=hidF hbz;have hzs:W3.heap.size≤wz.heap.size:=hbz.size;clear hbz p0 p1 p2 pr
   go_upto_region 11 with (go_at_call 84;refine(open_any s.XB s.MB s.N s.N (.slice a5 n5 c5) rs _ wz hrl x1z hX HILz.out (fun b o s' k c e=>by have:=HVB.out b o s' k c e;omega) HRN.out HMz.out).mono ?_;rintro e W4 ⟨rfl,hm4,ho4⟩)
   have HM4:Hid (MetAt W4 s.MB s.N (clM rs ws)):=hm4;have p04:=ho4.cell hSM p0z;have p14:=ho4.cell hSM p1z;have HO4:=hidF ho4;have HIL4:Hid (IL W4 (.slice a5 n5 c5) (up rs)):=HILz.out.of2 (fun b o s' k c e _=>ho4.block b (by have:=HVB.out b o s' k c e;omega));have hz4:W4.heap.size=wz.heap.size:=ho4.size;have HZ4:=hidF hz4;have hM4:s.MB<W4.heap.size:=by omega
   have hS4:s.SB<W4.heap.size:=by have:=HF.out.lt;have:=HS3.out;omega
   have HB4:Hid (∀ k,k<W.heap.size→k≠s.MB→W4.heap[k]? = W.heap[k]?):=fun k h1 h2=>(HO4.out.block k h2).trans ((HBZ.out.block k (by rw[HS3.out];exact h1)).trans (HO3.out.block k h2));have HOS:Hid (W4.os=W.os∧W4.tape=W.tape∧W4.output=W.output∧W.heap.size≤W4.heap.size):=⟨HO4.out.os.trans (HBZ.out.os.trans HO3.out.os),HO4.out.tape.trans (HBZ.out.tape.trans HO3.out.tape),HO4.out.output.trans (HBZ.out.output.trans HO3.out.output),by rw[hz4,←HS3.out];exact hzs⟩;have HV4:Hid (∀ b o s' k c,Value.slice a5 n5 c5=.slice (some ⟨b,o,s'⟩) k c→W.heap.size≤b∧b<W4.heap.size):=fun b o s' k c e=>by have:=HVB.out b o s' k c e;have:=HS3.out;omega
   clear hm4 ho4 x1z p0z p1z HMz HILz hz4 HVB
   go_wp2_with (go_at_call 85;refine(from_any s.XB _ _ _ _).mono ?_;rintro e w5 ⟨rfl,rfl⟩)
   refine gwp_namedF (X6 W4 s.XB s.N (.slice a5 n5 c5)) (x6_made W4 s.XB s.N a5 n5 c5) ?_;intro W5 hx6;have HX6:=hidF hx6;have hs5:=hx6.size;have HS5:=hidF hs5;have HM5:Hid (MetAt W5 s.MB s.N (clM rs ws)):=HM4.out.of (hx6.bel.block s.MB hM4);have HK5:Hid (∀ k,k<W4.heap.size→W5.heap[k]? = W4.heap[k]?):=hx6.bel.block;clear hx6 p04 p14;refine(wpIn_wide (n:=3)).1 ?_;refine range_outer (F:=Fence.wide) rfl (by omega) (gf:=106) (lb:=#[.pointer (some ⟨W4.heap.size+3,0,none⟩),.pointer (some ⟨W4.heap.size+2,0,none⟩)]) (by simp[Act.eval]) trivial (enters_of func106 (by kernel_rfl) rfl) ?_;intro fn _;refine callsIn_wide.2 ?_
   generalize hrc:loopRec fn _ _ _ _ _=rc
   have HRC:=hidF hrc;have hlw:(loopW W5 rc).heap.size=W5.heap.size+2:=by simp[loopW]
   have hWB:=HF.out.lt;have hos4:=HOS.out.2.2.2;refine(from1_any (W5.heap.size+1) (W4.heap.size+3) (W4.heap.size+2) s.XB s.NP s.MB s.N s.N s.N (W5.heap.size+2) a5 n5 c5 rs (gOf (esG sxF s.c0 s.N)) s.rp (clM rs ws) (loopW W5 rc) (JSl W5 s.MB W4.heap.size s.N rc) (hidF HL2.out.1.symm) (by have:=HL2.out.1;omega) hN6 HGP HRN (hidF (by omega)) (hidF hlw) (JSl.enter HX6.out.mt (by omega)) ?_ ?_ ?_ ?_).mono ?_
   ·refine HM5.out.of ?_
    unfold loopW;rw[Below.heap_alloc _ _ _ (by simp;omega),Below.heap_alloc _ _ _ (by omega)]
   ·intro o W' hJ
    have hk4:∀ k,k<W4.heap.size→k≠s.MB→W'.heap[k]? = W4.heap[k]? := fun k h1 h2=>(hJ.block k (by omega) h2 (by omega)).trans (HK5.out k h1);have hP:∀ k,s.P k→W'.heap[k]? = s.wB.heap[k]? := fun k hp=>(hk4 k (by have:=hp.1;omega) hp.2.2.2.1).trans ((HB4.out k (by have:=hp.1;omega) hp.2.2.2.1).trans (HH.out.ag k hp));have hpr:=HF.out.pr.of (w':=W') hP
    exact {
     c1:=cell_of HX6.out.c3 (fun h=>hJ.block _ h (by omega) (by omega))
     il:=HIL4.out.of2 (fun b o s' n c e h=>hk4 b h (by have:=HV4.out b o s' n c e;omega))
     c2:=cell_of HX6.out.c2 (fun h=>hJ.block _ h (by omega) (by omega))
     x0:=cell_of HF.out.x0 (fun _=>hP _ HF.out.xp)
     x1:=cell_of HF.out.x1 (fun _=>hP _ HF.out.xp)
     rows:=fun j hj=>⟨hpr.c j hj,hpr.il j hj⟩ }
   ·exact fun o W1 W2 h hv=>h.mv hv (by omega) (by omega) (by omega)
   ·intro o y W' hJ hy hyo
    have hlp:=hJ.lp;rw[←HRC.out] at hlp;obtain⟨cy,zy⟩:=hJ.la y hy;have hsz:=hJ.size;refine ls_round (W5.heap.size+1) (W4.heap.size+1) W4.heap.size s.N y _ _ fn _ _ _ _ _ _ _ _ _ _ _ _ _ _ _ _ _ _ _ _ _ _ _ _ _ _ _ _ _ _ _ _ _ _ _ _ _ _ _ _ _ _ _ _ _ _ _ _ _ _ _ _ _ _ _ _ _ _ _ _ _ _ _ _ _ _ _ _ _ _ _ _ _ _ _ W' _ hlp (cell_of HX6.out.c1 (fun h=>hJ.block _ h (by omega) (by omega))) cy zy (by omega) (by omega) ?_;intro W2 h1 h2 h3;have q1:∀ o' k,k≠W5.heap.size+1→((W2.setCell ⟨W4.heap.size,y,none⟩ (.bool true)).putObj (W5.heap.size+1) o').heap[k]? = (W2.setCell ⟨W4.heap.size,y,none⟩ (.bool true)).heap[k]? := fun _ k hk=>put_otherF hk;have q2:∀ k,k≠W4.heap.size→(W2.setCell ⟨W4.heap.size,y,none⟩ (.bool true)).heap[k]? = W2.heap[k]? := fun k hk=>gset_otherF hk;refine⟨rfl,⟨h3.2.1.trans hJ.os,h3.2.2.1.trans hJ.tape,h3.2.2.2.trans hJ.output,by rw[World.putObj_size,gsize_setF,h3.1];exact hJ.size,fun k g1 g2 g3=>(q1 _ k (by omega)).trans ((q2 k g3).trans ((h1 k (by omega)).trans (hJ.block k g1 g2 g3))),(q1 _ _ (by omega)).trans ((q2 _ (by omega)).trans ((h1 _ (by omega)).trans hJ.df)),?_,?_⟩,by rw[World.putObj_size,gsize_setF,h3.1];exact Nat.le_refl _,fun k g1 g2=>?_⟩
    ·rw[←HRC.out]
     exact World.putObj_heap_same (by rw[gsize_setF,h3.1];omega)
    ·have hA:MetAt W2 W4.heap.size s.N (fun n=>o.contains n):=hJ.la.of (h1 _ (by omega))
     have hB:MetAt (W2.setCell ⟨W4.heap.size,y,none⟩ (.bool true)) W4.heap.size s.N (fun n=>(o++[y]).contains n):=hA.setB (fun q=>cons_contains o y q);exact hB.of (q1 _ _ (by omega))
    ·rcases g1 with e|e
     ·exact(q1 _ k (by omega)).trans ((q2 k (by omega)).trans (h1 k (by omega)))
     ·exact(q1 _ k (by omega)).trans ((q2 k (by omega)).trans (h1 k (by omega)))
   ·rintro e W6 ⟨rfl,o,m',hJ,hm',hsr,hsz6⟩
    refine⟨⟨_,rfl⟩,rc,hJ.lp,by rw[←HRC.out];simp[loopRec],.inl ⟨by rw[←HRC.out];rfl,?_⟩⟩;have hls:∀ n,n∈o↔LvX c r n:=fun n=>live_search2 HCUR.out HF.out.len HF.out.inr.1 HF.out.inr.2.1 HF.out.inr.2.2 (r:=r) (rs:=rs) (fun q=>by rw[←HRS.out,HUE.out.1];unfold rsF;rw[List.mem_filter,opN_iff]) (fun i _=>by rw[HUE.out.2];exact clM_iff rs ws i) hsr n;have HLS:=hidF hls;have hsJ:=hJ.size;refine gq_namedF (B6 W5 s.MB W4.heap.size s.N W5.heap.size o) ?_ ?_
    ·have p1:∀ o' k,k≠W5.heap.size+1→(W6.putObj (W5.heap.size+1) o').heap[k]? = W6.heap[k]? := fun _ k hk=>put_otherF hk
     exact⟨hJ.os,hJ.tape,hJ.output,by rw[World.putObj_size];omega,fun k h1 h2 h3=>(p1 _ k (by omega)).trans (hJ.block k h1 h2 h3),(p1 _ _ (by omega)).trans hJ.df,hJ.la.of (p1 _ _ (by omega)),⟨m',hm'.of (p1 _ _ (by omega))⟩⟩
    intro W7 hB;have HB7:=hidF hB;have cL:W7.cell? ⟨W4.heap.size+1,0,none⟩=some (.slice (some ⟨W4.heap.size,0,none⟩) s.N s.N):=cell_of HX6.out.c1 (fun h=>hB.block _ h (by omega) (by omega));clear hB hJ hm' hsr hsz6 hls hsJ;dsimp only;go_wp2;have hb7:=HB7.out;have h57:=hb7.size;refine leaves_marks [W4.heap.size+4] W7 (by simp) (fun d hd=>?_) ?_
    ·have e:d=W4.heap.size+4:=by simpa using hd
     rw[e,←HS5.out];exact hb7.df
    intro W8 h1 h2 h3 h4 h5;have hfr:∀ k,k<W.heap.size→k≠s.MB→W8.heap[k]? = W.heap[k]? := fun k g1 g2=>(h1 k (fun hd=>by have e:=List.mem_singleton.1 hd;omega)).trans ((hb7.block k (by omega) g2 (by omega)).trans ((HK5.out k (by omega)).trans (HB4.out k g1 g2)));have e1:W8.os=W.os:=h2.trans (hb7.os.trans (HX6.out.bel.os.trans HOS.out.1));have e2:W8.tape=W.tape:=h3.trans (hb7.tape.trans (HX6.out.bel.tape.trans HOS.out.2.1));have e3:W8.output=W.output:=h4.trans (hb7.output.trans (HX6.out.bel.output.trans HOS.out.2.2.1))
    have hmt:∃ m,MetAt W8 s.MB s.N m:=by
     obtain⟨m2,hm2⟩:=hb7.mt;exact⟨m2,hm2.of (h1 s.MB (fun hd=>by have e:=List.mem_singleton.1 hd;omega))⟩
    refine⟨_,(by simp[results,results52,go_sem]),W4.heap.size,(fun n=>o.contains n),rfl,hos4,by rw[h5];omega,hb7.la.of (h1 _ (fun hd=>by have e:=List.mem_singleton.1 hd;omega)),fun n _=>by rw[←HLS.out n];simp,HH.out.of HF.out (by rw[h5];omega) e1 e2 e3 (fun k g1 g2=>hfr k g1 (fun e=>?_)) hmt,hfr,by rw[h5];omega,e1,e2,e3⟩;have hd:=HF.out.d1;subst e
    rcases g2 with g|g|g|g|g
    ·exact g.2.2.2.1 rfl
    ·exact hd.2.1 g.symm
    ·exact hd.2.2.2.1 g.symm
    ·exact hd.2.2.2.2.2 g
    ·have:=(HH.out.ow.lt _ g.symm).1
     omega
set_option maxHeartbeats 8000000
noncomputable def asLoop:Code:=(((Tryz.f33.body.map loopsOf).getD [])[0]?).getD .skip
structure LAs (s:SwN) (c:List Ins) (wt ws:List Nat) (l:Nat→Bool) (r LB b wn wc:Nat) (wa:Option Addr) (i:Nat) (ms:List Nat) (W:World):Prop where
 sw:∃ c' wt' vw',SwS s c' wt' vw' W∧AskI s.c0 s.N s.R r l c wt ws i c' wt'∧some LB≠vw'.ownBlock∧some b≠vw'.ownBlock
 lb:W.cell? ⟨LB,0,none⟩=some (.slice (some ⟨b,0,none⟩) s.N s.N)
 la:MetAt W b s.N l
 nd:ms.Nodup
 df:∀ d∈ms,W.heap[d]? = some (.deferred (some []))∧s.wB.heap.size≤d
theorem LAs.keep {s:SwN} {c:List Ins} {wt ws:List Nat} {l:Nat→Bool} {r LB b wn wc i j:Nat} {wa:Option Addr} {ms:List Nat} {W W':World} (h:LAs s c wt ws l r LB b wn wc wa i ms W) (hf:SwF s) (hb:Below W.heap.size W W') (hN:∃ c' wt' vw',SwS s c' wt' vw' W∧AskI s.c0 s.N s.R r l c wt ws j c' wt'∧some LB≠vw'.ownBlock∧some b≠vw'.ownBlock) (hbl:b<W.heap.size):LAs s c wt ws l r LB b wn wc wa j ms W':=by
 obtain⟨c',wt',vw',h1,h2,h3,h4⟩:=hN;exact⟨⟨c',wt',vw',h1.keep hf hb,h2,h3,h4⟩,keep_cell hb h.lb,h.la.of (hb.block b hbl),h.nd,fun d hd=>⟨(hb.block d (zge (h.df d hd).1).1).trans (h.df d hd).1,(h.df d hd).2⟩⟩
def IAs (s:SwN) (c:List Ins) (wt ws:List Nat) (l:Nat→Bool) (r LB b wn wc:Nat) (wa:Option Addr) (z2 z3 z5 z8 z9 z10 z11 z12 z13 z14 z15 z16:Value) (a:Act) (W:World):Prop:=∃ (i:Nat) (ms:List Nat) (z6 z7 z20 z21 z22 z23 z24 z25 z26 z27 z28 z29 z30 z31 z32 z33 z34 z35 z36 z37 z38 z39 z40 z41 z42 z43 z44 z45 z46 z47 z48:Value),i≤wn∧LAs s c wt ws l r LB b wn wc wa i ms W∧a=⟨#[.pointer (some ⟨s.SB,0,none⟩),.int .i64 (r:Int),z2,z3,.pointer (some ⟨LB,0,none⟩),z5,z6,z7,z8,z9,z10,z11,z12,z13,z14,z15,z16,.slice wa wn wc,.int .i64 wn,.int .i64 (i:Int),z20,z21,z22,z23,z24,z25,z26,z27,z28,z29,z30,z31,z32,z33,z34,z35,z36,z37,z38,z39,z40,z41,z42,z43,z44,z45,z46,z47,z48],ms.map mkD⟩
def muAs (n:Nat) (a:Act) (_:World):Nat:=n - (intOf (a.tmps.getD 19 undef)).toNat
theorem ownsRow_not_def {W:World} {B:Nat} {e:TypeId} {v:Value} {k b:Nat} {xs:List Value} {r:Option (List Deferred)} (h:W.ownsRow B e 1 v k xs) (hb:v.ownBlock=some b) (hl:W.heap[b]? = some (.deferred r)):False:=by
 rcases h.2 with ⟨h1,_⟩|⟨g,cap,cur,h1,h2,h3,h4⟩
 ·rw[h1] at hb;cases hb
 ·rw[h1] at hb
  have hg:g=b:=by simpa[Value.ownBlock] using hb
  subst hg;rw[hl] at h3
  cases h3
theorem as_other (s:SwN) (c:List Ins) (wt ws:List Nat) (l:Nat→Bool) (r LB b wn wc:Nat) (wa:Option Addr) (z2 z3 z5 z8 z9 z10 z11 z12 z13 z14 z15 z16:Value) (z6 z7 z20 z21 z22 z23 z24 z25 z26 z27 z28 z29 z30 z31 z32 z33 z34 z35 z36 z37 z38 z39 z40 z41 z42 z43 z44 z45 z46 z47 z48:Value) (i n:Nat) (x:Ins) (ms:List Nat) (Q0:Exit→Act→World→Prop) (W:World) (c':List Ins) (wt':List Nat) (vw':Value) (hwn:wn≤1000000000000) (HF:Hid (SwF s)) (HSH:Hid (∀ V:World,(∀ k,s.P k→V.heap[k]? = s.wB.heap[k]?)→ShTab V)) (hr:r<s.R) (HWS:Hid (gOf (esG wrX s.c0 s.N) r=ws∧ws.length=wn∧s.rw r=.slice wa wn wc)) (HLB:Hid (s.wB.heap.size≤LB∧s.wB.heap.size≤b)) (HL:Hid (LAs s c wt ws l r LB b wn wc wa i ms W)) (HSW:Hid (SwS s c' wt' vw' W∧AskI s.c0 s.N s.R r l c wt ws i c' wt'∧some LB≠vw'.ownBlock∧some b≠vw'.ownBlock)) (hin:i<wn) (HG:Hid (ws[i]? = some n)) (HX:Hid (c'[n]? = some x)) (hp:x.op ∉ pureOps) (wb wo:Nat) (hwa:wa=some ⟨wb,wo,none⟩) (cn:W.cell? ⟨wb,wo+i,none⟩=some (.int .i64 (n:Int))) :
  Code.wp prog asLoop (Exit.then (fun a' w'=>IAs s c wt ws l r LB b wn wc wa z2 z3 z5 z8 z9 z10 z11 z12 z13 z14 z15 z16 a' w'∧muAs wn a' w'<muAs wn ⟨#[.pointer (some ⟨s.SB,0,none⟩),.int .i64 (r:Int),z2,z3,.pointer (some ⟨LB,0,none⟩),z5,z6,z7,z8,z9,z10,z11,z12,z13,z14,z15,z16,.slice wa wn wc,.int .i64 wn,.int .i64 (i:Int),z20,z21,z22,z23,z24,z25,z26,z27,z28,z29,z30,z31,z32,z33,z34,z35,z36,z37,z38,z39,z40,z41,z42,z43,z44,z45,z46,z47,z48],ms.map mkD⟩ W) Q0) ⟨#[.pointer (some ⟨s.SB,0,none⟩),.int .i64 (r:Int),z2,z3,.pointer (some ⟨LB,0,none⟩),z5,z6,z7,z8,z9,z10,z11,z12,z13,z14,z15,z16,.slice wa wn wc,.int .i64 wn,.int .i64 (i:Int),z20,z21,z22,z23,z24,z25,z26,z27,z28,z29,z30,z31,z32,z33,z34,z35,z36,z37,z38,z39,z40,z41,z42,z43,z44,z45,z46,z47,z48],ms.map mkD⟩ W:=by
 subst hwa;have hnN:n<s.N:=by have:=(List.getElem?_eq_some_iff.1 HX.out).1;have:=HSW.out.1.len;omega
 have j0:(0:Int)≤i:=by omega
 have j1:(i:Int)<wn:=by omega
 have n0:(0:Int)≤n:=by omega
 have n1:(n:Int)<s.N:=by omega
 have s0:=HSW.out.1.s0;obtain⟨v,hil,e0,e1,e2,e3,e4,e5,e6,e7,e8⟩:=(HSW.out.1.code n x HX.out).ins;obtain⟨va,vc,rfl,_⟩:=hil.partsF
 generalize x.args.length=vn at *
 have HD:=hidF (fun W=>dne_any x.op x.sub x.a x.b x.d x.k (.slice va vn vc) x.s x.t W rfl);rw[decide_eq_false hp] at HD;have HP:=hidF hp;clear hp hil
 conv=>arg 2;whnf
 go_wp2_with (go_at_call 53;refine(HD.out _).mono ?_;rintro e W3 ⟨rfl,hb3⟩)
 have HFIN:Hid (LAs s c wt ws l r LB b wn wc (some ⟨wb,wo,none⟩) (i+1) ms W3):=HL.out.keep HF.out hb3 ⟨c',wt',vw',HSW.out.1,HSW.out.2.1.other HG.out HX.out HP.out,HSW.out.2.2⟩ (block_lt_of_cell (HL.out.la 0 (by omega)).1);have e1:((i:Int)+1)=((i+1:Nat):Int):=by omega
 rw[e1];refine⟨⟨i+1,ms,_,_,_,_,_,_,_,_,_,_,_,_,_,_,_,_,_,_,_,_,_,_,_,_,_,_,_,_,_,_,_,by omega,HFIN.out,rfl⟩,?_⟩;unfold muAs;simp[intOf]
 omega
set_option maxHeartbeats 16000000
structure JAs (l:Nat→Bool) (W3:World) (rc:Loop) (pre:List Int) (W:World):Prop where
 os:W.os=W3.os
 tape:W.tape=W3.tape
 output:W.output=W3.output
 size:W3.heap.size+2≤W.heap.size
 block:∀ k,k<W3.heap.size→W.heap[k]? = W3.heap[k]?
 df:W.heap[W3.heap.size]? = some (.deferred (some []))
 lp:W.heap[W3.heap.size+1]? = some (.loop rc)
 no:∀ y∈pre,l y.toNat=false
theorem JAs.enter {l:Nat→Bool} {W3:World} {rc:Loop}:JAs l W3 rc [] (loopW W3 rc) where
 os:=rfl
 tape:=rfl
 output:=rfl
 size:=by simp[loopW]
 block:=fun k hk=>by unfold loopW;rw[Below.heap_alloc _ _ k (by simp;omega),Below.heap_alloc _ _ k hk]
 df:=by unfold loopW;rw[Below.heap_alloc _ _ _ (by simp)];show (W3.heap.push _)[W3.heap.size]? = _;simp
 lp:=by
  unfold loopW
  show ((W3.alloc (.deferred (some []))).heap.push _)[W3.heap.size+1]? = _
  have:(W3.alloc (.deferred (some []))).heap.size=W3.heap.size+1:=World.size_alloc _ _;rw[←this];exact Array.getElem?_push_size
 no:=fun y hy=>by cases hy
structure XAs (N:Nat) (l:Nat→Bool) (W3:World) (rc:Loop) (sx:List Int) (W:World):Prop where
 os:W.os=W3.os
 tape:W.tape=W3.tape
 output:W.output=W3.output
 size:W3.heap.size+2≤W.heap.size
 block:∀ k,k<W3.heap.size→W.heap[k]? = W3.heap[k]?
 df:W.heap[W3.heap.size]? = some (.deferred (some []))
 lp:W.heap[W3.heap.size+1]? = some (.loop { rc with state:=.done,pending:=some (.exit 1) })
 yes:∃ t:Nat,(t:Int)∈sx∧t<N∧l t=true
structure MAs (W3:World) (W:World):Prop where
 bel:Below W3.heap.size W3 W
 size:W3.heap.size+2≤W.heap.size
 df:W.heap[W3.heap.size]? = some (.deferred (some []))
theorem as_pure (s:SwN) (c:List Ins) (wt ws:List Nat) (l:Nat→Bool) (r LB b wn wc:Nat) (wa:Option Addr) (z2 z3 z5 z8 z9 z10 z11 z12 z13 z14 z15 z16:Value) (z6 z7 z20 z21 z22 z23 z24 z25 z26 z27 z28 z29 z30 z31 z32 z33 z34 z35 z36 z37 z38 z39 z40 z41 z42 z43 z44 z45 z46 z47 z48:Value) (i n:Nat) (x:Ins) (ms:List Nat) (Q0:Exit→Act→World→Prop) (W:World) (c':List Ins) (wt':List Nat) (vw':Value) (hwn:wn≤1000000000000) (HF:Hid (SwF s)) (HSH:Hid (∀ V:World,(∀ k,s.P k→V.heap[k]? = s.wB.heap[k]?)→ShTab V)) (hr:r<s.R) (HWS:Hid (gOf (esG wrX s.c0 s.N) r=ws∧ws.length=wn∧s.rw r=.slice wa wn wc)) (HLB:Hid (s.wB.heap.size≤LB∧s.wB.heap.size≤b)) (HL:Hid (LAs s c wt ws l r LB b wn wc wa i ms W)) (HSW:Hid (SwS s c' wt' vw' W∧AskI s.c0 s.N s.R r l c wt ws i c' wt'∧some LB≠vw'.ownBlock∧some b≠vw'.ownBlock)) (hin:i<wn) (HG:Hid (ws[i]? = some n)) (HX:Hid (c'[n]? = some x)) (hp:x.op∈pureOps) (HSX:Hid (∀ y∈sxF x,0≤y∧y<(s.N:Int))) (HUS:Hid (∀ y∈usX x,0≤y∧y<(s.R:Int))) (wb wo:Nat) (hwa:wa=some ⟨wb,wo,none⟩) (cn:W.cell? ⟨wb,wo+i,none⟩=some (.int .i64 (n:Int))) :
  Code.wp prog asLoop (Exit.then (fun a' w'=>IAs s c wt ws l r LB b wn wc wa z2 z3 z5 z8 z9 z10 z11 z12 z13 z14 z15 z16 a' w'∧muAs wn a' w'<muAs wn ⟨#[.pointer (some ⟨s.SB,0,none⟩),.int .i64 (r:Int),z2,z3,.pointer (some ⟨LB,0,none⟩),z5,z6,z7,z8,z9,z10,z11,z12,z13,z14,z15,z16,.slice wa wn wc,.int .i64 wn,.int .i64 (i:Int),z20,z21,z22,z23,z24,z25,z26,z27,z28,z29,z30,z31,z32,z33,z34,z35,z36,z37,z38,z39,z40,z41,z42,z43,z44,z45,z46,z47,z48],ms.map mkD⟩ W) Q0) ⟨#[.pointer (some ⟨s.SB,0,none⟩),.int .i64 (r:Int),z2,z3,.pointer (some ⟨LB,0,none⟩),z5,z6,z7,z8,z9,z10,z11,z12,z13,z14,z15,z16,.slice wa wn wc,.int .i64 wn,.int .i64 (i:Int),z20,z21,z22,z23,z24,z25,z26,z27,z28,z29,z30,z31,z32,z33,z34,z35,z36,z37,z38,z39,z40,z41,z42,z43,z44,z45,z46,z47,z48],ms.map mkD⟩ W:=by
 subst hwa;have hnN:n<s.N:=by have:=(List.getElem?_eq_some_iff.1 HX.out).1;have:=HSW.out.1.len;omega
 have j0:(0:Int)≤i:=by omega
 have j1:(i:Int)<wn:=by omega
 have n0:(0:Int)≤n:=by omega
 have n1:(n:Int)<s.N:=by omega
 have s0:=HSW.out.1.s0;obtain⟨v,hil,e0,e1,e2,e3,e4,e5,e6,e7,e8⟩:=(HSW.out.1.code n x HX.out).ins;obtain⟨va,vc,rfl,_⟩:=hil.partsF
 generalize x.args.length=vn at *
 have HD:=hidF (fun W=>dne_any x.op x.sub x.a x.b x.d x.k (.slice va vn vc) x.s x.t W rfl);rw[decide_eq_true hp] at HD;have HP:=hidF hp;have HWR:Hid (wrX x=[(r:Int)]):=writer_pure HSW.out.2.1.cur HF.out.len HF.out.inr.2.1 (by rw[HWS.out.1];exact List.mem_of_getElem? HG.out) HX.out hp;have HC0:Hid (∀ V,Below W.heap.size W V→V.cell? ⟨s.SB,0,none⟩=some (.slice (some ⟨s.CB,s.co,none⟩) s.N s.cap)∧V.cell? ⟨s.CB,s.co+n*9,none⟩=some (.int .i64 x.op)∧V.cell? ⟨s.CB,s.co+n*9+1,none⟩=some (.int .i64 x.sub)∧V.cell? ⟨s.CB,s.co+n*9+2,none⟩=some (.int .i64 x.a)∧V.cell? ⟨s.CB,s.co+n*9+3,none⟩=some (.int .i64 x.b)∧V.cell? ⟨s.CB,s.co+n*9+4,none⟩=some (.int .i64 x.d)∧V.cell? ⟨s.CB,s.co+n*9+5,none⟩=some (.int .i64 x.k)∧V.cell? ⟨s.CB,s.co+n*9+6,none⟩=some (.slice va vn vc)∧V.cell? ⟨s.CB,s.co+n*9+7,none⟩=some (.int .i64 x.s)∧V.cell? ⟨s.CB,s.co+n*9+8,none⟩=some (.int .i64 x.t)):=fun V hb=>⟨keep_cell hb s0,keep_cell hb e0,keep_cell hb e1,keep_cell hb e2,keep_cell hb e3,keep_cell hb e4,keep_cell hb e5,keep_cell hb e6,keep_cell hb e7,keep_cell hb e8⟩;have hbl:b<W.heap.size:=block_lt_of_cell (HL.out.la 0 (by omega)).1;have hLBl:LB<W.heap.size:=block_lt_of_cell HL.out.lb;clear hp hil
 conv=>arg 2;whnf
 go_wp2_with first
  |(go_at_call 53;refine(HD.out _).mono ?_;rintro e W2 ⟨rfl,hb2⟩;obtain⟨t0,d0,d1,d2,d3,d4,d5,d6,d7,d8⟩:=HC0.out _ hb2)
  |(go_at_call 49;refine(succs_made2 _ _ _ _ _ _ _ _ _ _ _ _).mono ?_;rintro e W3 ⟨ib,rfl,hsu,hib,hb3⟩)
 have hbz:Below W.heap.size W W3:=bel_trans hb2 hb3;have hib3:ib<W3.heap.size:=block_lt_of_cell hsu.1;have HBZ:=hidF hbz;have HSU:=hidF hsu;have hs3:W.heap.size≤W3.heap.size:=hbz.size;have hlb3:=keep_cell hbz HL.out.lb;have HLA3:Hid (MetAt W3 b s.N l):=HL.out.la.of (hbz.block b hbl);have HLB3:=hidF hlb3;clear hbz hsu hb2 hb3 hib e0 e1 e2 e3 e4 e5 e6 e7 e8 d0 d1 d2 d3 d4 d5 d6 d7 d8 t0 s0 cn hlb3;refine(wpIn_wide (n:=3)).1 ?_;refine range_outer (F:=Fence.wide) rfl (by omega) (gf:=78) (lb:=#[.pointer (some ⟨ib,0,none⟩)]) (by simp[Act.eval]) trivial (enters_of func78 (by kernel_rfl) rfl) ?_;intro fn _;refine callsIn_wide.2 ?_
 generalize hrc:loopRec fn _ _ _ _ _=rc
 have HRC:=hidF hrc;clear hrc;refine(succs1_any (W3.heap.size+1) ib x.op x.s x.t (loopW W3 rc) (JAs l W3 rc) (XAs s.N l W3 rc (sxF x)) JAs.enter ?_ ?_).mono ?_
 ·intro pre W' hJ
  obtain⟨q0,q1,q2⟩:=HSU.out;exact⟨cell_of q0 (fun _=>hJ.block ib hib3),cell_of q1 (fun _=>hJ.block ib hib3),cell_of q2 (fun _=>hJ.block ib hib3)⟩
 ·intro pre y rest W' hsp hJ
  have hmem:y∈sxF x:=by unfold sxF;rw[hsp];simp
  have hy:=HSX.out y hmem;obtain⟨z,rfl⟩:∃ z:Nat,y=z:=⟨y.toNat,by omega⟩;have hlp:=hJ.lp;rw[←HRC.out] at hlp;have hsz:=hJ.size;have hz:z<s.N:=by omega
  refine as_round (W3.heap.size+1) LB b s.N z _ (l z) fn _ _ _ _ _ _ _ _ _ _ _ _ _ _ _ _ _ _ _ _ _ _ _ _ _ _ _ _ _ _ _ _ _ _ _ _ _ _ _ _ _ _ _ _ _ _ _ _ W' _ hlp (cell_of HLB3.out (fun h=>hJ.block LB h)) (HLA3.out.of (hJ.block b (by omega)) z hz).1 (by omega) (by omega) ?_ ?_
  ·intro hq W2 m1 m2 m3 m4 m5 m6
   replace m2:W2.heap[W3.heap.size+1]? = some (.loop rc):=by rw[←HRC.out];exact m2
   refine⟨true,rfl,fun _=>⟨m4.trans hJ.os,m5.trans hJ.tape,m6.trans hJ.output,by omega,fun k hk=>(m1 k (by omega)).trans (hJ.block k hk),(m1 _ (by omega)).trans hJ.df,m2,fun y hy=>?_⟩,fun h=>by cases h⟩
   rcases List.mem_append.1 hy with q|q
   ·exact hJ.no y q
   ·have e:y=(z:Int):=by simpa using q
    rw[e];exact hq
  ·intro hq W2 m1 m2 m3 m4 m5 m6
   refine⟨false,rfl,fun h=>(by cases h),fun _=>⟨m4.trans hJ.os,m5.trans hJ.tape,m6.trans hJ.output,by omega,fun k hk=>(m1 k (by omega)).trans (hJ.block k hk),(m1 _ (by omega)).trans hJ.df,?_,z,hmem,hz,hq⟩⟩;rw[←HRC.out];exact m2
 ·rintro e W5 ⟨rfl,hJ⟩
  have p1:∀ o' k,k≠W3.heap.size+1→(W5.putObj (W3.heap.size+1) o').heap[k]? = W5.heap[k]? := fun _ k hk=>put_otherF hk
  have HMS:Hid (∀ W7,MAs W3 W7→(W3.heap.size::ms).Nodup∧∀ d∈W3.heap.size::ms,W7.heap[d]? = some (.deferred (some []))∧s.wB.heap.size≤d∧d<W7.heap.size):=fun W7 hM=>by
   have hL:=HL.out;have hold:∀ d∈ms,d<W.heap.size:=fun d hd=>(zge (hL.df d hd).1).1;refine⟨List.nodup_cons.2 ⟨fun hd=>by have:=hold _ hd;omega,hL.nd⟩,fun d hd=>?_⟩
   rcases List.mem_cons.1 hd with rfl|hd
   ·exact⟨hM.df,by have:=HSW.out.1.size;omega,by have:=hM.size;omega⟩
   ·have h1:=hold d hd
    exact⟨(hM.bel.block d (by omega)).trans ((HBZ.out.block d h1).trans (hL.df d hd).1),(hL.df d hd).2,by have:=hM.size;omega⟩
  rcases hJ with hJ|hJ
  ·refine⟨⟨_,rfl⟩,rc,hJ.lp,by rw[←HRC.out];simp[loopRec],.inl ⟨by rw[←HRC.out];rfl,?_⟩⟩
   refine gq_namedF (MAs W3) ⟨⟨hJ.os,hJ.tape,hJ.output,by rw[World.putObj_size];have:=hJ.size;omega,fun k hk=>(p1 _ k (by omega)).trans (hJ.block k hk)⟩,by rw[World.putObj_size];exact hJ.size,(p1 _ _ (by omega)).trans hJ.df⟩ ?_;intro W7 hM;have HNO:Hid (∀ t:Nat,(t:Int)∈sxF x→t<s.N∧l t=false):=fun t ht=>⟨by have:=HSX.out _ ht;omega,by simpa using hJ.no _ ht⟩;have HM7:=hidF hM;have HS7:Hid (SwS s c' wt' vw' W7):=(HSW.out.1.keep HF.out HBZ.out).keep HF.out hM.bel;have HLO:=hidF (leaveOut_any HS7.out HF.out HSH HX.out HUS);clear hM hJ p1;dsimp only
   go_wp2_with (go_at_call 54;refine HLO.out.mono ?_;rintro e W8 ⟨rfl,wt2,vw2,g1,g2,g3,g4,g5⟩)
   have HFIN:Hid (LAs s c wt ws l r LB b wn wc (some ⟨wb,wo,none⟩) (i+1) (W3.heap.size::ms) W8):=by
    have hm:=HMS.out W7 HM7.out;have hlt:=HF.out.lt;have hws:=HSW.out.1.size;have hsz:=HM7.out.size;have hB:=HLB.out;have kk:∀ k,s.wB.heap.size≤k→k<W7.heap.size→some k≠vw'.ownBlock→W8.heap[k]? = W7.heap[k]? := fun k h1 h2 h3=>g4 k h2 (by omega) (by omega) (by omega) h3
    have own:∀ k,k<W7.heap.size→some k≠vw'.ownBlock→some k≠vw2.ownBlock:=fun k h1 h2 e=>by
     rcases g5 with q|⟨k2,q,hq⟩
     ·exact h2 (by rw[e,q])
     ·rw[q] at e
      injection e with e
      omega
    refine⟨⟨leave c' n x,wt2,vw2,g1,HSW.out.2.1.left HG.out HX.out HP.out HWR.out HNO.out g2,own LB (by omega) HSW.out.2.2.1,own b (by omega) HSW.out.2.2.2⟩,?_,?_,hm.1,fun d hd=>?_⟩
    ·exact cell_of HLB3.out (fun h=>(kk LB hB.1 (by omega) HSW.out.2.2.1).trans (HM7.out.bel.block LB h))
    ·exact HLA3.out.of ((kk b hB.2 (by omega) HSW.out.2.2.2).trans (HM7.out.bel.block b (by omega)))
    ·obtain⟨q1,q2,q3⟩:=hm.2 d hd
     exact⟨(kk d q2 q3 (fun e=>ownsRow_not_def HS7.out.ow e.symm q1)).trans q1,q2⟩
   have e1:((i:Int)+1)=((i+1:Nat):Int):=by omega
   rw[e1];refine⟨⟨i+1,W3.heap.size::ms,_,_,_,_,_,_,_,_,_,_,_,_,_,_,_,_,_,_,_,_,_,_,_,_,_,_,_,_,_,_,_,by omega,HFIN.out,rfl⟩,?_⟩;unfold muAs;simp[intOf]
   omega
  ·refine⟨⟨_,rfl⟩,_,hJ.lp,by simp,.inr ⟨_,rfl,?_⟩⟩
   refine wpIn_wide.2 ?_;refine gwp_namedF (MAs W3) ⟨⟨hJ.os,hJ.tape,hJ.output,by rw[World.putObj_size];have:=hJ.size;omega,fun k hk=>(p1 _ k (by omega)).trans (hJ.block k hk)⟩,by rw[World.putObj_size];exact hJ.size,(p1 _ _ (by omega)).trans hJ.df⟩ ?_;intro W7 hM;obtain⟨t,ht,hN,hlt⟩:=hJ.yes
   have HFIN:Hid (LAs s c wt ws l r LB b wn wc (some ⟨wb,wo,none⟩) (i+1) (W3.heap.size::ms) W7):=by
    have hm:=HMS.out W7 hM;have hS:=(HSW.out.1.keep HF.out HBZ.out).keep HF.out hM.bel;exact⟨⟨c',wt',vw',hS,HSW.out.2.1.live HG.out HX.out ht hN hlt,HSW.out.2.2⟩,keep_cell hM.bel HLB3.out,HLA3.out.of (hM.bel.block b (by omega)),hm.1,fun d hd=>⟨(hm.2 d hd).1,(hm.2 d hd).2.1⟩⟩
   clear hM hJ p1 ht hN hlt;dsimp only;go_wp2;have e1:((i:Int)+1)=((i+1:Nat):Int):=by omega
   rw[e1];refine⟨⟨i+1,W3.heap.size::ms,_,_,_,_,_,_,_,_,_,_,_,_,_,_,_,_,_,_,_,_,_,_,_,_,_,_,_,_,_,_,_,by omega,HFIN.out,rfl⟩,?_⟩;unfold muAs;simp[intOf]
   omega
set_option maxHeartbeats 8000000
theorem as_out (s:SwN) (c:List Ins) (wt ws:List Nat) (l:Nat→Bool) (r LB b wn wc:Nat) (wa:Option Addr) (z2 z3 z5 z8 z9 z10 z11 z12 z13 z14 z15 z16:Value) (z6 z7 z20 z21 z22 z23 z24 z25 z26 z27 z28 z29 z30 z31 z32 z33 z34 z35 z36 z37 z38 z39 z40 z41 z42 z43 z44 z45 z46 z47 z48:Value) (ms:List Nat) (Q0:Exit→Act→World→Prop) (W:World) (HX:Hid (Q0 (.exit 0) ⟨#[.pointer (some ⟨s.SB,0,none⟩),.int .i64 (r:Int),z2,z3,.pointer (some ⟨LB,0,none⟩),z5,z6,z7,z8,z9,z10,z11,z12,z13,z14,z15,z16,.slice wa wn wc,.int .i64 wn,.int .i64 (wn:Int),.bool false,z21,z22,z23,z24,z25,z26,z27,z28,z29,z30,z31,z32,z33,z34,z35,z36,z37,z38,z39,z40,z41,z42,z43,z44,z45,z46,z47,z48],ms.map mkD⟩ W)) (K:Act→World→Prop) :
  Code.wp prog asLoop (Exit.then K Q0) ⟨#[.pointer (some ⟨s.SB,0,none⟩),.int .i64 (r:Int),z2,z3,.pointer (some ⟨LB,0,none⟩),z5,z6,z7,z8,z9,z10,z11,z12,z13,z14,z15,z16,.slice wa wn wc,.int .i64 wn,.int .i64 (wn:Int),z20,z21,z22,z23,z24,z25,z26,z27,z28,z29,z30,z31,z32,z33,z34,z35,z36,z37,z38,z39,z40,z41,z42,z43,z44,z45,z46,z47,z48],ms.map mkD⟩ W:=by
 conv=>arg 2;whnf
 go_wp2;exact HX.out
theorem as_step (s:SwN) (c:List Ins) (wt ws:List Nat) (l:Nat→Bool) (r LB b wn wc:Nat) (wa:Option Addr) (z2 z3 z5 z8 z9 z10 z11 z12 z13 z14 z15 z16:Value) (z6 z7 z20 z21 z22 z23 z24 z25 z26 z27 z28 z29 z30 z31 z32 z33 z34 z35 z36 z37 z38 z39 z40 z41 z42 z43 z44 z45 z46 z47 z48:Value) (i:Nat) (ms:List Nat) (Q0:Exit→Act→World→Prop) (W:World) (hwn:wn≤1000000000000) (HF:Hid (SwF s)) (HSH:Hid (∀ V:World,(∀ k,s.P k→V.heap[k]? = s.wB.heap[k]?)→ShTab V)) (hr:r<s.R) (HWS:Hid (gOf (esG wrX s.c0 s.N) r=ws∧ws.length=wn∧s.rw r=.slice wa wn wc)) (HLB:Hid (s.wB.heap.size≤LB∧s.wB.heap.size≤b)) (HL:Hid (LAs s c wt ws l r LB b wn wc wa i ms W)) (hin:i<wn) :
  Code.wp prog asLoop (Exit.then (fun a' w'=>IAs s c wt ws l r LB b wn wc wa z2 z3 z5 z8 z9 z10 z11 z12 z13 z14 z15 z16 a' w'∧muAs wn a' w'<muAs wn ⟨#[.pointer (some ⟨s.SB,0,none⟩),.int .i64 (r:Int),z2,z3,.pointer (some ⟨LB,0,none⟩),z5,z6,z7,z8,z9,z10,z11,z12,z13,z14,z15,z16,.slice wa wn wc,.int .i64 wn,.int .i64 (i:Int),z20,z21,z22,z23,z24,z25,z26,z27,z28,z29,z30,z31,z32,z33,z34,z35,z36,z37,z38,z39,z40,z41,z42,z43,z44,z45,z46,z47,z48],ms.map mkD⟩ W) Q0) ⟨#[.pointer (some ⟨s.SB,0,none⟩),.int .i64 (r:Int),z2,z3,.pointer (some ⟨LB,0,none⟩),z5,z6,z7,z8,z9,z10,z11,z12,z13,z14,z15,z16,.slice wa wn wc,.int .i64 wn,.int .i64 (i:Int),z20,z21,z22,z23,z24,z25,z26,z27,z28,z29,z30,z31,z32,z33,z34,z35,z36,z37,z38,z39,z40,z41,z42,z43,z44,z45,z46,z47,z48],ms.map mkD⟩ W:=by
 obtain⟨c',wt',vw',hsw,hask,hx1,hx2⟩:=HL.out.sw;have hget:=List.getElem?_eq_getElem (l:=ws) (show i<ws.length by rw[HWS.out.2.1];exact hin)
 generalize ws[i]'(by rw[HWS.out.2.1];exact hin)=n at hget
 have hmem:n∈gOf (esG wrX s.c0 s.N) r:=by rw[HWS.out.1];exact List.mem_of_getElem? hget
 obtain⟨x0,h0,hw0⟩:=(mem_rows HF.out.len HF.out.inr.2.1).1 hmem;have hn:n<s.N:=by have:=(List.getElem?_eq_some_iff.1 h0).1;have:=HF.out.len;omega
 have hxe:=List.getElem?_eq_getElem (l:=c') (show n<c'.length by rw[hsw.len];exact hn)
 generalize c'[n]'(by rw[hsw.len];exact hn)=x at hxe
 have hsx:∀ y∈sxF x,0≤y∧y<(s.N:Int):=fun y hy=>by
  rw[hask.cur.sx h0 hxe] at hy;exact HF.out.sx x0 (List.mem_of_getElem? h0) y hy
 have hus:∀ y∈usX x,0≤y∧y<(s.R:Int):=fun y hy=>by
  rcases hask.cur.ev n x0 h0 with q|⟨q,_⟩
  ·rw[hxe] at q;cases q;exact HF.out.us _ (List.mem_of_getElem? h0) y hy
  ·rw[hxe] at q;cases q;rw[us_nop] at hy;cases hy
 have hil:=(hsw.wr HF.out).il r hr;rw[HWS.out.1,HWS.out.2.2] at hil;obtain⟨a,cap,e,_,_,hcc⟩:=hil
 injection e with e1 e2 e3
 obtain⟨wb,wo,e4,hcell⟩:=hcc (fun h=>by have:=congrArg List.length h;rw[up_length,HWS.out.2.1] at this;simp at this;omega);have hwa:wa=some ⟨wb,wo,none⟩:=by rw[e1];exact e4
 have hcn:=hcell i (n:Int) (by rw[up_get,hget];rfl)
 by_cases hp:x.op∈pureOps
 ·exact as_pure s c wt ws l r LB b wn wc wa z2 z3 z5 z8 z9 z10 z11 z12 z13 z14 z15 z16 z6 z7 z20 z21 z22 z23 z24 z25 z26 z27 z28 z29 z30 z31 z32 z33 z34 z35 z36 z37 z38 z39 z40 z41 z42 z43 z44 z45 z46 z47 z48 i n x ms Q0 W c' wt' vw' hwn HF HSH hr HWS HLB HL ⟨hsw,hask,hx1,hx2⟩ hin hget hxe hp hsx hus wb wo hwa hcn
 ·exact as_other s c wt ws l r LB b wn wc wa z2 z3 z5 z8 z9 z10 z11 z12 z13 z14 z15 z16 z6 z7 z20 z21 z22 z23 z24 z25 z26 z27 z28 z29 z30 z31 z32 z33 z34 z35 z36 z37 z38 z39 z40 z41 z42 z43 z44 z45 z46 z47 z48 i n x ms Q0 W c' wt' vw' hwn HF HSH hr HWS HLB HL ⟨hsw,hask,hx1,hx2⟩ hin hget hxe hp wb wo hwa hcn
theorem as_loop (s:SwN) (c:List Ins) (wt ws:List Nat) (l:Nat→Bool) (r LB b wn wc:Nat) (wa:Option Addr) (z2 z3 z5 z8 z9 z10 z11 z12 z13 z14 z15 z16:Value) (z6 z7 z20 z21 z22 z23 z24 z25 z26 z27 z28 z29 z30 z31 z32 z33 z34 z35 z36 z37 z38 z39 z40 z41 z42 z43 z44 z45 z46 z47 z48:Value) (Q0:Exit→Act→World→Prop) (W:World) (hwn:wn≤1000000000000) (HF:Hid (SwF s)) (HSH:Hid (∀ V:World,(∀ k,s.P k→V.heap[k]? = s.wB.heap[k]?)→ShTab V)) (hr:r<s.R) (HWS:Hid (gOf (esG wrX s.c0 s.N) r=ws∧ws.length=wn∧s.rw r=.slice wa wn wc)) (HLB:Hid (s.wB.heap.size≤LB∧s.wB.heap.size≤b)) (HL:Hid (LAs s c wt ws l r LB b wn wc wa 0 [] W))
  (HX:Hid (∀ (ms:List Nat) (z6 z7 z20 z21 z22 z23 z24 z25 z26 z27 z28 z29 z30 z31 z32 z33 z34 z35 z36 z37 z38 z39 z40 z41 z42 z43 z44 z45 z46 z47 z48:Value) (W':World),LAs s c wt ws l r LB b wn wc wa wn ms W'→Q0 (.exit 0) ⟨#[.pointer (some ⟨s.SB,0,none⟩),.int .i64 (r:Int),z2,z3,.pointer (some ⟨LB,0,none⟩),z5,z6,z7,z8,z9,z10,z11,z12,z13,z14,z15,z16,.slice wa wn wc,.int .i64 wn,.int .i64 (wn:Int),z20,z21,z22,z23,z24,z25,z26,z27,z28,z29,z30,z31,z32,z33,z34,z35,z36,z37,z38,z39,z40,z41,z42,z43,z44,z45,z46,z47,z48],ms.map mkD⟩ W')) :
  Code.wp prog (Code.loop asLoop) Q0 ⟨#[.pointer (some ⟨s.SB,0,none⟩),.int .i64 (r:Int),z2,z3,.pointer (some ⟨LB,0,none⟩),z5,z6,z7,z8,z9,z10,z11,z12,z13,z14,z15,z16,.slice wa wn wc,.int .i64 wn,.int .i64 0,z20,z21,z22,z23,z24,z25,z26,z27,z28,z29,z30,z31,z32,z33,z34,z35,z36,z37,z38,z39,z40,z41,z42,z43,z44,z45,z46,z47,z48],[]⟩ W:=by
 refine wp_loop (IAs s c wt ws l r LB b wn wc wa z2 z3 z5 z8 z9 z10 z11 z12 z13 z14 z15 z16) (muAs wn) ⟨0,[],z6,z7,z20,z21,z22,z23,z24,z25,z26,z27,z28,z29,z30,z31,z32,z33,z34,z35,z36,z37,z38,z39,z40,z41,z42,z43,z44,z45,z46,z47,z48,by omega,HL.out,rfl⟩ ?_;rintro a W2 ⟨i,ms,u6,u7,u20,u21,u22,u23,u24,u25,u26,u27,u28,u29,u30,u31,u32,u33,u34,u35,u36,u37,u38,u39,u40,u41,u42,u43,u44,u45,u46,u47,u48,hi,hL,rfl⟩
 by_cases hin:i<wn
 ·exact as_step s c wt ws l r LB b wn wc wa z2 z3 z5 z8 z9 z10 z11 z12 z13 z14 z15 z16 u6 u7 u20 u21 u22 u23 u24 u25 u26 u27 u28 u29 u30 u31 u32 u33 u34 u35 u36 u37 u38 u39 u40 u41 u42 u43 u44 u45 u46 u47 u48 i ms Q0 W2 hwn HF HSH hr HWS HLB hL hin
 ·obtain rfl:i=wn:=by omega
  exact as_out s c wt ws l r LB b i wc wa z2 z3 z5 z8 z9 z10 z11 z12 z13 z14 z15 z16 u6 u7 u20 u21 u22 u23 u24 u25 u26 u27 u28 u29 u30 u31 u32 u33 u34 u35 u36 u37 u38 u39 u40 u41 u42 u43 u44 u45 u46 u47 u48 ms Q0 W2 (HX.out ms u6 u7 (.bool false) u21 u22 u23 u24 u25 u26 u27 u28 u29 u30 u31 u32 u33 u34 u35 u36 u37 u38 u39 u40 u41 u42 u43 u44 u45 u46 u47 u48 W2 hL) _
def retAk (s:SwN) (c:List Ins) (wt:List Nat) (r:Nat):Ending→World→Prop:=fun e W'=>e=.returned (.tuple #[])∧∃ c' wt' vw',SwS s c' wt' vw' W'∧Cur s.c0 c'∧Calm s.R (fun q=>q∈wt') (fun _=>False) c'∧((c'=c∧wt'=wt)∨(busy c'<busy c∧∃ n,DeadAt c r n))
theorem ask_any {s:SwN} {c:List Ins} {wt:List Nat} {vw:Value} {W:World} {r:Nat} (h:SwS s c wt vw W) (hf:SwF s) (HSH:Hid (∀ V:World,(∀ k,s.P k→V.heap[k]? = s.wB.heap[k]?)→ShTab V)) (hc:Cur s.c0 c) (hm:Calm s.R (fun q=>q∈wt) (fun q=>q=r) c) (hr:r<s.R):Calls prog 33 #[.pointer (some ⟨s.SB,0,none⟩),.int .i64 (r:Int)] W (retAk s c wt r):=by
 have HF:=hidF hf;have HCUR:=hidF hc;have HCM:=hidF hm;have HH:=hidF h;have HLVC:=hidF (slive_any h hf hc hr);have j0:(0:Int)≤r:=by omega
 have j1:(r:Int)<s.R:=by omega
 clear hc hm hf;refine callsIn_wide.1 (callsIn_of_wp_marks (n:=3) func33 rfl trivial ?_);simp only[ntmps33,List.size_toArray,List.length_cons,List.length_nil,Nat.reduceAdd,Nat.reduceSub,Array.replicate_succ,Array.replicate_zero,List.push_toArray,List.append_toArray,List.nil_append,List.cons_append];refine wpIn_wide.2 ?_;obtain⟨wa,wc,erw,_⟩:=(HF.out.wr.il r hr).partsF;rw[up_length] at erw;obtain⟨wn,hwn⟩:∃ n,n=(gOf (esG wrX s.c0 s.N) r).length:=⟨_,rfl⟩;have HWS:Hid (gOf (esG wrX s.c0 s.N) r=gOf (esG wrX s.c0 s.N) r∧(gOf (esG wrX s.c0 s.N) r).length=wn∧s.rw r=.slice wa wn wc):=⟨rfl,hwn.symm,by rw[erw,hwn]⟩;have hwb:wn≤1000000000000:=by rw[hwn];exact HF.out.lw r
 clear h erw hwn;refine wp_scope_straight ?_
 go_wp2_with (go_at_call 52;refine HLVC.out.mono ?_;rintro e W1 ⟨b,l,rfl,hb1,hb2,hla,hlv,hsw,_,hsz,_,_,_⟩;have HB:=hidF (And.intro hb1 hb2);have HLA:=hidF hla;have HLV:=hidF hlv;have HSW:=hidF hsw;have HSZ:=hidF hsz;have s3:=hsw.s3;have hwr:=(hsw.wr HF.out).c r hr;rw[HWS.out.2.2] at hwr;have hNWl:s.NW<W1.heap.size:=block_lt_of_cell hwr;have hSBl:s.SB<W1.heap.size:=block_lt_of_cell s3;clear hb1 hb2 hla hlv hsw hsz)
 have HLB:Hid (s.wB.heap.size≤W1.heap.size∧s.wB.heap.size≤b):=⟨HSW.out.size,by have:=HB.out.1;have:=HH.out.size;omega⟩
 have HL0:Hid (LAs s c wt (gOf (esG wrX s.c0 s.N) r) l r W1.heap.size b wn wc wa 0 [] (W1.alloc (.cells #[.slice (some ⟨b,0,none⟩) s.N s.N] 37))):=by
  have hlt:∀ k,some k=vw.ownBlock→k<W.heap.size:=fun k e=>(HH.out.ow.lt k e.symm).2;refine⟨⟨c,wt,vw,HSW.out.keep HF.out (bel_alloc (Below.refl _ _) _),AskI.start HCUR.out HCM.out HLV.out,fun e=>?_,fun e=>?_⟩,by simp,HLA.out.of (by rw[Below.heap_alloc _ _ _ HB.out.2]),List.nodup_nil,fun d hd=>by cases hd⟩
  ·have:=hlt _ e;have:=HSZ.out;omega
  ·have:=hlt _ e;have:=HB.out.1;omega
 clear HCM HLA HLV HSW;refine wp_label ?_;go_wp2;refine as_loop s c wt (gOf (esG wrX s.c0 s.N) r) l r W1.heap.size b wn wc wa _ _ _ _ _ _ _ _ _ _ _ _ _ _ _ _ _ _ _ _ _ _ _ _ _ _ _ _ _ _ _ _ _ _ _ _ _ _ _ _ _ _ _  _ _ hwb HF HSH hr ⟨rfl,HWS.out.2⟩ HLB HL0 ?_;intro ms v6 v7 v20 v21 v22 v23 v24 v25 v26 v27 v28 v29 v30 v31 v32 v33 v34 v35 v36 v37 v38 v39 v40 v41 v42 v43 v44 v45 v46 v47 v48 W' hL;have HL:=hidF hL;clear hL HL0;go_wp2;refine leaves_marks ms W' HL.out.nd (fun d hd=>(HL.out.df d hd).1) ?_;intro W6 h1 h2 h3 h4 h5;obtain⟨c',wt',vw',hsw,hask,hx1,hx2⟩:=HL.out.sw;refine⟨_,(by simp[results,results33,go_sem]),rfl,c',wt',vw',?_,hask.cur,?_,hask.mo⟩
 ·have hnd:∀ k,k∈ms→(s.P k∨k=s.SB∨k=s.CB∨k=s.WB∨k=s.MB∨some k=vw'.ownBlock)→False:=fun k hk g=>by
   obtain⟨q1,q2⟩:=HL.out.df k hk;have hl:=HF.out.lt
   rcases g with g|g|g|g|g|g
   ·have:=g.1;omega
   ·omega
   ·omega
   ·omega
   ·omega
   ·exact ownsRow_not_def hsw.ow g.symm q1
  refine hsw.of HF.out (by rw[h5];exact Nat.le_refl _) h2 h3 h4 (fun k g1 g2=>h1 k (fun hd=>hnd k hd ?_)) ?_
  ·rcases g2 with g|g|g|g|g
   ·exact .inl g
   ·exact .inr (.inl g)
   ·exact .inr (.inr (.inl g))
   ·exact .inr (.inr (.inr (.inl g)))
   ·exact .inr (.inr (.inr (.inr (.inr g))))
  ·obtain⟨m,hm⟩:=hsw.mt
   exact⟨m,hm.of (h1 _ (fun hd=>hnd _ hd (.inr (.inr (.inr (.inr (.inl rfl)))))))⟩
 ·have hq:AskI s.c0 s.N s.R r l c wt (gOf (esG wrX s.c0 s.N) r) (gOf (esG wrX s.c0 s.N) r).length c' wt':=by rw[HWS.out.2.1];exact hask
  exact hq.done HF.out.len HF.out.inr.2.1
end Go.Proofs.YtaimifnppackgaaGreatDoor
