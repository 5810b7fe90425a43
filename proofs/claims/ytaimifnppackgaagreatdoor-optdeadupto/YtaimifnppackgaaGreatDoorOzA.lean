import Derived.Test.YtaimifnppackgaaGreatDoorRows
import Derived.Deep.RegionHeld3
import Derived.Deep.DeepCutAuto
import Derived.Deep.Light
import Derived.Deep.Draws
import Derived.WalkKit
import Derived.ProofKit
import Derived.OpenShut
import Derived.WalkSpells
import Derived.Maps.AppendAt
import Derived.Deep.AppendLies
import Derived.RangeFuncNested
import Derived.RangeFuncCalls
import Derived.RangeFuncLeaves
import Derived.RangeFuncBox
import Derived.Shelf.Abstract
import Derived.OwnWalkIn
import Derived.TacticsInMore
import Derived.LoopNIn
import Derived.LoopIn
import Derived.WalkMore
namespace Go.Proofs.YtaimifnppackgaaGreatDoor
open Go.ChangeShapes Go.WideShapes Go.ChangeAt Go.RowKit
set_option linter.unusedSimpArgs false
set_option linter.unusedVariables false
def retP (v:Value) (w:World):Ending→World→Prop:=fun e w'=>e=.returned v∧Below w.heap.size w w'
theorem keep_cell {W w1:World} (hb:Below W.heap.size W w1) {p:Addr} {v:Value} (h:W.cell? p=some v):w1.cell? p=some v:=by
  rw[hb.cell (p:=p) (block_lt_of_cell h)];exact h
theorem keep_frozen {W w1:World} (hb:Below W.heap.size W w1) {p:Addr} {v:Value} (h:W.cell? p=some v) (hf:W.frozen? p=false):w1.frozen? p=false:=by
  rw[hb.frozen (p:=p) (block_lt_of_cell h)];exact hf
theorem keep_alloc {w:World} {p:Addr} {v:Value} (h:w.cell? p=some v) (o:Obj):(w.alloc o).cell? p=some v:=by
  rw[World.cell?_alloc_lt w o p (block_lt_of_cell h)];exact h
theorem keep_set {w:World} {p q:Addr} {v u:Value} (h:w.cell? q=some v) (hne:q.block≠p.block):(w.setCell p u).cell? q=some v:=by
  rw[World.cell?_of_block (w:=w) (Below.heap_setCell w p u q.block hne)];exact h
theorem bel_alloc {w w':World} (h:Below w.heap.size w w') (o:Obj):Below w.heap.size w (w'.alloc o):=h.alloc h.size o
theorem bel_trans {w a b:World} (h:Below w.heap.size w a) (k:Below a.heap.size a b):Below w.heap.size w b:=h.trans (k.mono h.size)
theorem bel_set {w w':World} (h:Below w.heap.size w w') {p:Addr} (hp:w.heap.size≤p.block) (u:Value):Below w.heap.size w (w'.setCell p u):=h.setCell hp u
structure Ins where
  op:Int
  sub:Int
  a:Int
  b:Int
  d:Int
  k:Int
  args:List Int
  s:Int
  t:Int
structure Fn where
  name:ByteArray
  params:List Int
  regs:Int
  frame:Int
  entry:Int
  code:List Ins
structure Pg where
  globals:List Int
  funcs:List Fn
  main:Int
def insV (op sub a b d k:Int) (v:Value) (s t:Int):Value:=.agg #[.int .i64 op,.int .i64 sub,.int .i64 a,.int .i64 b,.int .i64 d,.int .i64 k,v,.int .i64 s,.int .i64 t]
def IL (w:World) (v:Value) (l:List Int):Prop:=∃ (a:Option Addr) (cap:Nat),v=.slice a l.length cap∧l.length * 8≤140737488355328∧(a=none→l=[]∧cap=0)∧(l≠[]→∃ b off:Nat,a=some ⟨b,off,none⟩∧∀ (i:Nat) (x:Int),l[i]? = some x→w.cell? ⟨b,off+i,none⟩=some (.int .i64 x))
theorem IL.keep {w w':World} {v:Value} {l:List Int} (h:IL w v l) (hb:Below w.heap.size w w'):IL w' v l:=by
  obtain⟨a,cap,hv,h1,h0,h2⟩:=h
  refine⟨a,cap,hv,h1,h0,fun hl=>?_⟩
  obtain⟨b,off,e,hc⟩:=h2 hl
  exact⟨b,off,e,fun i x hx=>keep_cell hb (hc i x hx)⟩
def Srow (w:World) (xv:Value) (m:Nat) (news:List Value):Prop:=(∃ ad c,xv=.slice (some ad) m c∧∀ j u,news[j]? = some u→w.cell? (ad.add j)=some u)∨(xv=.slice none 0 0∧m=0)
theorem run_append_any {P:Program} (w:World) (base:Nat) (t ty e:TypeId) (i:TypeInfo) (z:Value) (size bytes:Nat) (ht:P.underlying t=some (.slice e)) (hi:P.info? e=some i) (hz:i.zero=some z)
    (hsize:i.size=size) (hby:i.bytes=bytes) (hzs:z.cells.size=size) (hsz:0<size)
    (v:Value) (n:Nat) (xs:List Value) (hown:w.ownsRow base e size v n xs)
    (xv:Value) (m:Nat) (news:List Value) (hl:news.length=m * size) (hx:Srow w xv m news) (h1:∀ u∈news,u.oneCell'=true)
    (h63:n+m≤maxLen) (hbytes:(n+m) * bytes≤140737488355328) (hbase:base≤w.heap.size) :
    ∃ a' cap w',(Builtin.append_ #[t,t] ty #[v,xv]).run P w=.ok (.slice a' (n+m) cap) w'∧w'.ownsRow base e size (.slice a' (n+m) cap) (n+m) (xs++news)∧w.grownBy w' v.ownBlock ∧
      ((Value.slice a' (n+m) cap).ownBlock=v.ownBlock∨(Value.slice a' (n+m) cap).ownBlock=some w.heap.size):=by
  rcases hx with ⟨ad,c,rfl,hnews⟩|⟨rfl,rfl⟩
  · obtain⟨v',w',hr,h2,h3,_,h5⟩:=run_append_own_at (P:=P) w base t ty e i z size bytes ht hi hz hsize hby hzs hsz v n xs hown ad m c news hl hnews h1 h63 hbytes hbase
    rcases h2.2 with ⟨e1,e2⟩|⟨g,cap,cur,e1,_⟩
    · rw[e1] at hr h2 h5
      refine⟨none,0,w',?_,?_,h3,?_⟩
      · rw[hr,e2]
      · rw[e2] at h2 ⊢;exact h2
      · rw[e2];exact h5
    · rw[e1] at hr h2 h5
      exact⟨_,cap,w',hr,h2,h3,h5⟩
  · have hn:news=[]:=List.eq_nil_of_length_eq_zero (by simpa using hl)
    subst hn
    rw[List.append_nil,Nat.add_zero]
    have hg:w.grownBy w v.ownBlock:=⟨rfl,rfl,rfl,Nat.le_refl _,fun _ _ _=>rfl⟩
    rcases hown.2 with ⟨rfl,rfl⟩|⟨g,cap,cur,rfl,hbg,hg',hnc,hcm,hcs,htake⟩
    · refine⟨none,0,w,?_,hown,hg,.inl rfl⟩
      simp[Builtin.append_,run_underlying ht,sizeOf,typeInfo,hi,Builtin.lenOf,Builtin.firstCells,loadCells,loadCellsFrom]
    · refine⟨some ⟨g,0,none⟩,cap,w,?_,hown,hg,.inl rfl⟩
      simp[Builtin.append_,run_underlying ht,sizeOf,typeInfo,hi,Builtin.lenOf,Builtin.firstCells,loadCells,loadCellsFrom,hnc,storeCells]
theorem wp_append_any {P:Program} (w:World) {o:Oper} {a:Act} {K:Act→World→Prop} {Q:Exit→Act→World→Prop} (s x:Operand) (t:TypeId)
    (ho:o.op=.call { callee:=.builtin .append,args:=#[s,x],argTypes:=#[t,t] })
    (base:Nat) (e:TypeId) (i:TypeInfo) (z:Value) (size bytes:Nat) (ht:P.underlying t=some (.slice e)) (hi:P.info? e=some i) (hz:i.zero=some z)
    (hsize:i.size=size) (hby:i.bytes=bytes) (hzs:z.cells.size=size) (hsz:0<size)
    (v:Value) (n:Nat) (xs:List Value) (hs:a.eval s=v) (hown:w.ownsRow base e size v n xs)
    (xv:Value) (m:Nat) (news:List Value) (hx:a.eval x=xv) (hl:news.length=m * size) (hnews:Srow w xv m news) (h1:∀ u∈news,u.oneCell'=true)
    (h63:n+m≤maxLen) (hbytes:(n+m) * bytes≤140737488355328) (hbase:base≤w.heap.size) (H:Nat) (hH:w.heap.size=H)
    (h:∀ a' cap w',w'.ownsRow base e size (.slice a' (n+m) cap) (n+m) (xs++news)→w.grownBy w' v.ownBlock→((Value.slice a' (n+m) cap).ownBlock=v.ownBlock∨(Value.slice a' (n+m) cap).ownBlock=some H)→K (a.put o.dst (.slice a' (n+m) cap)) w'):o.wp P a w K Q:=by
  subst hH
  obtain⟨g,cap,w',hr,h2,h3,h4⟩:=run_append_any (P:=P) w base t o.type e i z size bytes ht hi hz hsize hby hzs hsz v n xs hown xv m news hl hnews h1 h63 hbytes hbase
  unfold Oper.wp execOp
  simp only[ho,resolve,invoke,builtin,Sem.run_bind,Sem.run_pure,Result.andThen_ok,List.map_toArray,List.map_cons,List.map_nil,hs,hx,hr]
  exact h g cap w' h2 h3 h4
theorem wpList_append_any {P:Program} (w:World) {ops:Array Oper} {rest:List Oper} {o:Oper} {a:Act} {Q:Exit→Act→World→Prop} (hgd:o.guard=none) (s x:Operand) (t:TypeId)
    (ho:o.op=.call { callee:=.builtin .append,args:=#[s,x],argTypes:=#[t,t] })
    (base:Nat) (e:TypeId) (i:TypeInfo) (z:Value) (size bytes:Nat) (ht:P.underlying t=some (.slice e)) (hi:P.info? e=some i) (hz:i.zero=some z)
    (hsize:i.size=size) (hby:i.bytes=bytes) (hzs:z.cells.size=size) (hsz:0<size)
    (v:Value) (n:Nat) (xs:List Value) (hs:a.eval s=v) (hown:w.ownsRow base e size v n xs)
    (xv:Value) (m:Nat) (news:List Value) (hx:a.eval x=xv) (hl:news.length=m * size) (hnews:Srow w xv m news) (h1:∀ u∈news,u.oneCell'=true)
    (h63:n+m≤maxLen) (hbytes:(n+m) * bytes≤140737488355328) (hbase:base≤w.heap.size) (H:Nat) (hH:w.heap.size=H)
    (h:∀ a' cap w',w'.ownsRow base e size (.slice a' (n+m) cap) (n+m) (xs++news)→w.grownBy w' v.ownBlock→((Value.slice a' (n+m) cap).ownBlock=v.ownBlock∨(Value.slice a' (n+m) cap).ownBlock=some H)→wpList P ops Q rest (a.put o.dst (.slice a' (n+m) cap)) w'):wpList P ops Q (o :: rest) a w :=
  wpList_plain hgd fun _ hK=>wp_append_any w s x t ho base e i z size bytes ht hi hz hsize hby hzs hsz v n xs hs hown xv m news hx hl hnews h1 h63 hbytes hbase H hH fun g cap w' h2 h3 h4=>hK _ _ (h g cap w' h2 h3 h4)
theorem step_append_any {P:Program} (w:World) {ops:Array Oper} {o:Oper} {a:Act} {K:Act→World→Prop} {Q:Exit→Act→World→Prop} {E:Prop} (hgd:o.guard=none) (s x:Operand) (t:TypeId)
    (ho:o.op=.call { callee:=.builtin .append,args:=#[s,x],argTypes:=#[t,t] })
    (base:Nat) (e:TypeId) (i:TypeInfo) (z:Value) (size bytes:Nat) (ht:P.underlying t=some (.slice e)) (hi:P.info? e=some i) (hz:i.zero=some z)
    (hsize:i.size=size) (hby:i.bytes=bytes) (hzs:z.cells.size=size) (hsz:0<size)
    (v:Value) (n:Nat) (xs:List Value) (hs:a.eval s=v) (hown:w.ownsRow base e size v n xs)
    (xv:Value) (m:Nat) (news:List Value) (hx:a.eval x=xv) (hl:news.length=m * size) (hnews:Srow w xv m news) (h1:∀ u∈news,u.oneCell'=true)
    (h63:n+m≤maxLen) (hbytes:(n+m) * bytes≤140737488355328) (hbase:base≤w.heap.size) (H:Nat) (hH:w.heap.size=H)
    (h:∀ a' cap w',w'.ownsRow base e size (.slice a' (n+m) cap) (n+m) (xs++news)→w.grownBy w' v.ownBlock→((Value.slice a' (n+m) cap).ownBlock=v.ownBlock∨(Value.slice a' (n+m) cap).ownBlock=some H)→K (a.put o.dst (.slice a' (n+m) cap)) w') :
    if Region.wanted o (yielded ops a.tmps)=true then Oper.wp P o a w K Q else E:=by
  have hw:Region.wanted o (yielded ops a.tmps)=true:=by simp[Region.wanted,hgd]
  rw[if_pos hw]
  exact wp_append_any w s x t ho base e i z size bytes ht hi hz hsize hby hzs hsz v n xs hs hown xv m news hx hl hnews h1 h63 hbytes hbase H hH h
def loopRec (fn:FuncId) (tmps:Array Value) (ps:Array Tmp) (assign body:Code) (d:Nat):Loop:={ state:=.ready,pending:=none,fn,tmps,params:=ps,assign,body,defers:=d }
def loopW (w:World) (r:Loop):World:=(w.alloc (.deferred (some []))).alloc (.loop r)
def rangeEnd (F:Fence) (n:Nat) (P:Program) (l:Nat) (Q:Exit→Act→World→Prop) (a:Act):Ending→World→Prop:=fun e W2 =>
  (∃ v,e=.returned v)∧∃ r:Loop,W2.heap[l]? = some (.loop r)∧r.state≠.busy ∧
    ((r.pending=none∧Q .normal a (W2.putObj l (.loop { r with state:=.exhausted })))∨∃ c,r.pending=some c∧c.wpIn F n P Q a (W2.putObj l (.loop { r with state:=.exhausted })))
theorem range_of {F:Fence} {n:Nat} {P:Program} {l:Nat} {Q:Exit→Act→World→Prop} {a:Act}:∀ e W2,rangeEnd F n P l Q a e W2→rangePost F n P l Q a e W2:=by
  rintro e W2 ⟨⟨v,rfl⟩,r,hl,hb,h⟩
  refine⟨r.pending,_,run_endLoop hl hb,?_⟩
  obtain⟨st,pe,fn,tm,ps,asg,bd,df⟩:=r
  rcases h with ⟨e,h⟩|⟨c,e,h⟩
  · obtain rfl:pe=none:=e
    exact h
  · obtain rfl:pe=some c:=e
    exact h
theorem range_outer {F:Fence} {n:Nat} {P:Program} {g:Operand} {ps:Array Tmp} {assign body:Code} {Q:Exit→Act→World→Prop} {a:Act} {w:World}
    (hro:F.round=none) (h1:1≤n) {gf:Nat} {lb:Array Value} (hg:a.eval g=.func (.func gf) #[] lb) (hFg:F.fn gf) (eg:∀ args w,(callFunc gf args).run P w=.ok (.enter gf args) w)
    (h:∀ fn,F.fn fn→CallsIn F (n - 1) P gf (#[.func (.yield (w.heap.size+1)) #[] #[]]++lb) (loopW w (loopRec fn a.tmps ps assign body w.heap.size))
      (rangeEnd F n P (w.heap.size+1) Q { a with defers:={ target:=.collected w.heap.size,args:=#[] } :: a.defers })) :
    (Code.rangeFunc g ps assign body).wpIn F n P Q a w:=by
  refine wpIn_rangeFunc fun fn hfn=>?_
  rw[hro]
  have he:=run_enterLoop_outer (P:=P) (w:=w) fn a.tmps ps assign body
  have hc:=h fn hfn
  have eW:(w.alloc (.deferred (some []))).alloc (.loop { state:=.ready,pending:=none,fn,tmps:=a.tmps,params:=ps,assign,body,defers:=w.heap.size })=loopW w (loopRec fn a.tmps ps assign body w.heap.size):=rfl
  rw[eW] at he
  generalize loopW w (loopRec fn a.tmps ps assign body w.heap.size)=W1 at he hc
  have hd:(resolve a.eval (rangeCall g (w.heap.size+1)) 0).run P W1=.ok { target:=.fn (.func gf) lb,args:=#[.func (.yield (w.heap.size+1)) #[] #[]] } W1:=by
    simp only[resolve,hg]
    simp[go_sem]
  have hi:(invoke (.fn (.func gf) lb) #[.func (.yield (w.heap.size+1)) #[] #[]]).run P W1=.ok (.enter gf (#[.func (.yield (w.heap.size+1)) #[] #[]]++lb)) W1:=by
    simp[invoke,go_sem,eg]
  refine⟨_,_,W1,_,W1,gf,_,W1,he,hd,?_,hi,fun _=>h1,hc.mono range_of⟩
  intro f' hf'
  simp[Target.leads] at hf'
  subst hf'
  exact hFg
def roundEnd (l:Nat) (r:Loop) (R:Ending→World→Prop):Exit→Act→World→Prop
  | .normal,_,W=>W.heap[l]? = some (.loop { r with state:=.busy })∧R (.returned (.bool true)) (W.putObj l (.loop { r with state:=.ready,pending:=none }))
  | .ret,_,W=>W.heap[l]? = some (.loop { r with state:=.busy })∧R (.returned (.bool false)) (W.putObj l (.loop { r with state:=.done,pending:=some .ret }))
  | .exit id,_,W=>W.heap[l]? = some (.loop { r with state:=.busy })∧R (.returned (.bool false)) (W.putObj l (.loop { r with state:=.done,pending:=some (.exit id) }))
  | .goto t,_,W=>W.heap[l]? = some (.loop { r with state:=.busy })∧R (.returned (.bool false)) (W.putObj l (.loop { r with state:=.done,pending:=some (.goto t) }))
  | .panic _,_,_=>False
  | .outgrown,_,_=>False
theorem round_of {P:Program} {l:Nat} {r:Loop} {R:Ending→World→Prop}:∀ e a W,roundEnd l r R e a W→roundPost P l R e a W:=by
  intro e a W h
  cases e with
  | normal=>exact⟨_,_,run_endRound none h.1,h.2⟩
  | ret=>exact⟨_,_,run_endRound (some .ret) h.1,h.2⟩
  | exit id=>exact⟨_,_,run_endRound (some (.exit id)) h.1,h.2⟩
  | goto t=>exact⟨_,_,run_endRound (some (.goto t)) h.1,h.2⟩
  | panic c=>exact h.elim
  | outgrown=>exact h.elim
theorem yield_round {F:Fence} {m:Nat} {P:Program} {l:Nat} {r:Loop} {args:Array Value} {W:World} {R:Ending→World→Prop}
    (hl:W.heap[l]? = some (.loop r)) (hs:args.size=r.params.size) (hr:r.state=.ready) (hF:F.fn r.fn)
    (h:r.assign.wpIn (F.inRound l) m P (Exit.then (fun a1 W1=>W1.heap[l]? = some (.loop r)∧r.body.wpIn (F.inRound l) m P (roundEnd l r R) a1 (W1.putObj l (.loop { r with state:=.busy }))) (fun _ _ _=>False))
      { tmps:=(r.params.zip args).foldl (fun tmps (t,a)=>tmps.setIfInBounds t a) r.tmps,defers:=[] } W) :
    YieldAt F m P l args W R:=by
  refine⟨r.fn,_,r.assign,r.body,run_yield hl hs,roundIn_of_wpIn hF (wpIn_mono h ?_)⟩
  intro e a W1 hq
  cases e with
  | normal=>exact⟨_,run_beginRound hq.1 hr,wpIn_mono hq.2 round_of⟩
  | ret=>exact hq
  | exit id=>exact hq
  | goto t=>exact hq
  | panic c=>exact hq
  | outgrown=>exact hq
theorem zga {α:Type} {l:List α} {i:Nat}:l.toArray[i]? = l[i]? := List.getElem?_toArray
theorem zgs {α:Type} {a:α} {l:List α} {i:Nat}:(a :: l)[i+1]? = l[i]? := rfl
theorem zgz {α:Type} {a:α} {l:List α}:(a :: l)[0]? = some a:=rfl
theorem zsa {α:Type} {l:List α} {i:Nat} {a:α}:l.toArray.setIfInBounds i a=(l.set i a).toArray:=List.setIfInBounds_toArray ..
theorem zsz {α:Type} {a x:α} {l:List α}:(x :: l).set 0 a=a :: l:=rfl
theorem zss {α:Type} {a x:α} {l:List α} {i:Nat}:(x :: l).set (i+1) a=x :: l.set i a:=rfl
theorem zge {α:Type} {xs:Array α} {i:Nat} {a:α} (h:xs[i]? = some a):∃ h:i<xs.size,xs[i]=a:=Array.getElem?_eq_some_iff.1 h
theorem zr {P:Program} {ops:Array Oper} {Q:Exit→Act→World→Prop} {md:Region.Mode} {S:World→Prop} {r fuel:Nat} {listed:Array Bool} {a:Act} {w:World} {o:Oper} (hr:Region.ready md ops listed=[r]) (ho:ops[r]? = some o)
  (h:∀ K':Act→World→Prop,Shut (∀ a w,S w→(S w→wpAnyH P md ops Q S fuel (listed.setIfInBounds r true) a w)→K' a w)→if Region.wanted o (yielded ops a.tmps)=true then Oper.wp P o a w K' Q else K' (a.put o.dst undef) w):wpAnyH P md ops Q S (fuel+1) listed a w :=
  wpAnyH_ready hr (by simp) (AllReadyH.cons ho h AllReadyH.nil)
theorem hidF {p:Prop} (h:p):Hid p:=h
def regionNF (n:Nat):Code→Option Code
 | .region k o b=>if k=n then some (.region k o b) else none
 | .seq a b=>match regionNF n a with
  | some c=>some c
  | none=>regionNF n b
 | .block _ c=>regionNF n c
 | .scope c=>regionNF n c
 | .loop c=>regionNF n c
 | .cond _ a b=>match regionNF n a with
  | some c=>some c
  | none=>regionNF n b
 | _=>none
def intsF (l:List Int):List Value:=l.map fun n=>.int .i64 n
theorem ints_lengthF (l:List Int):(intsF l).length=l.length:=List.length_map _
def up (l:List Nat):List Int:=l.map fun (x:Nat)=>(x:Int)
theorem up_length (l:List Nat):(up l).length=l.length:=List.length_map _
theorem up_get (l:List Nat) (i:Nat):(up l)[i]? = (l[i]?).map fun (x:Nat)=>(x:Int):=List.getElem?_map
theorem up_append (a b:List Nat):up (a++b)=up a++up b:=List.map_append
theorem ints_append (a b:List Int):intsF (a++b)=intsF a++intsF b:=List.map_append
theorem IL.nilF (w:World):IL w (.slice none 0 0) []:=⟨none,0,rfl,by simp,fun _=>⟨rfl,rfl⟩,fun h=>absurd rfl h⟩
theorem IL.ownF {w:World} {B:Nat} {v:Value} {l:List Int} (h:w.ownsRow B 3 1 v l.length (intsF l)) (hb:l.length * 8≤140737488355328):IL w v l:=by
 rcases h.2 with ⟨h1,h2⟩|⟨g,cap,cur,h1,h2,h3,h4,h5,h6,h7⟩
 ·have e:l=[]:=List.length_eq_zero_iff.1 h2
  subst e;exact⟨none,0,by rw[h1];rfl,hb,fun _=>⟨rfl,rfl⟩,fun h=>absurd rfl h⟩
 ·refine⟨_,cap,h1,hb,(fun h=>by cases h),fun _=>⟨g,0,rfl,fun i x hx=>?_⟩⟩
  have:=h.cells (g:=g) (by rw[h1];rfl) i (.int .i64 x) (by simp only[intsF,List.getElem?_map,hx,Option.map_some]);rw[show (⟨g,0,none⟩:Addr).add i=⟨g,0+i,none⟩ from Addr.add_mid _ _ _] at this;exact this
theorem IL.partsF {w:World} {v:Value} {l:List Int} (h:IL w v l):∃ (a:Option Addr) (cap:Nat),v=.slice a l.length cap∧l.length * 8≤140737488355328:=by
 obtain⟨a,cap,hv,h1,_⟩:=h;exact⟨a,cap,hv,h1⟩
theorem IL.of {w w':World} {v:Value} {l:List Int} (h:IL w v l) (hk:∀ b o s n c,v=.slice (some ⟨b,o,s⟩) n c→w'.heap[b]? = w.heap[b]?):IL w' v l:=by
 obtain⟨a,cap,hv,h1,h0,h2⟩:=h;refine⟨a,cap,hv,h1,h0,fun hl=>?_⟩;obtain⟨b,off,rfl,hc⟩:=h2 hl;exact⟨b,off,rfl,fun i x hx=>by rw[World.cell?_of_block (w:=w) (hk b off none _ _ hv)];exact hc i x hx⟩
theorem ownsRow_pop {w:World} {B:Nat} {e:TypeId} {a:Option Addr} {n cap:Nat} {xs:List Value} {x:Value} (h:w.ownsRow B e 1 (.slice a (n+1) cap) (n+1) (xs++[x])):w.ownsRow B e 1 (.slice a n cap) n xs:=by
 have hl:xs.length=n:=by have:=h.1;simp at this;omega
 refine⟨by omega,?_⟩
 rcases h.2 with ⟨h1,h2⟩|⟨g,cap',cur,h1,h2,h3,h4,h5,h6,h7⟩
 ·omega
 ·cases h1
  refine .inr ⟨g,cap,cur,rfl,h2,h3,by omega,h5,h6,?_⟩;rw[Nat.mul_one] at h7 ⊢;have:=congrArg (List.take n) h7;rw[List.take_take,Nat.min_eq_left (by omega),List.take_left' hl] at this;exact this
structure Mv (H mb:Nat) (w w':World):Prop where
 os:w'.os=w.os
 tape:w'.tape=w.tape
 output:w'.output=w.output
 size:w.heap.size≤w'.heap.size
 block:∀ k,k<H→k≠mb→w'.heap[k]? = w.heap[k]?
theorem Mv.refl (H mb:Nat) (w:World):Mv H mb w w:=⟨rfl,rfl,rfl,Nat.le_refl _,fun _ _ _=>rfl⟩
theorem Mv.trans {H mb:Nat} {a b c:World} (h:Mv H mb a b) (k:Mv H mb b c):Mv H mb a c :=
 ⟨k.os.trans h.os,k.tape.trans h.tape,k.output.trans h.output,Nat.le_trans h.size k.size,fun q h1 h2=>(k.block q h1 h2).trans (h.block q h1 h2)⟩
theorem Mv.alloc {H mb:Nat} {a b:World} (h:Mv H mb a b) (hH:H≤b.heap.size) (o:Obj):Mv H mb a (b.alloc o) :=
 h.trans ⟨rfl,rfl,rfl,by show _≤(b.heap.push o).size;simp,fun q h1 _=>Below.heap_alloc b o q (by omega)⟩
theorem Mv.set {H mb:Nat} {a b:World} (h:Mv H mb a b) {p:Addr} (hp:p.block=mb∨H≤p.block) (v:Value):Mv H mb a (b.setCell p v) :=
 h.trans ⟨rfl,rfl,rfl,by simp[World.setCell],fun q h1 h2=>Below.heap_setCell b p v q (by rcases hp with e|e <;> omega)⟩
theorem Mv.grown {H mb:Nat} {a b c:World} {row:Option Nat} (h:Mv H mb a b) (hg:b.grownBy c row) (hH:H≤b.heap.size) (hr:∀ k,row=some k→H≤k):Mv H mb a c :=
 h.trans ⟨hg.os,hg.tape,hg.output,hg.size,fun q h1 _=>hg.block q (by omega) (fun e=>by have:=hr q e.symm;omega)⟩
theorem Mv.below {H mb n:Nat} {a b c:World} (h:Mv H mb a b) (hb:Below n b c) (hn:H≤n):Mv H mb a c :=
 h.trans ⟨hb.os,hb.tape,hb.output,hb.size,fun q h1 _=>hb.block q (by omega)⟩
def updB (m:Nat→Bool) (x:Nat):Nat→Bool:=fun i=>if i=x then true else m i
def unm (m:Nat→Bool):Nat→Nat
 | 0=>0
 | n+1=>unm m n+(if m n=true then 0 else 1)
theorem unm_same {m m':Nat→Bool}:∀ {n:Nat},(∀ i,i<n→m i=m' i)→unm m n=unm m' n
 | 0,_=>rfl
 | n+1,h=>by
  simp only[unm];rw[unm_same (fun i hi=>h i (by omega)),h n (by omega)]
theorem unm_upd {m:Nat→Bool} {x:Nat}:∀ {n:Nat},x<n→m x=false→unm (updB m x) n+1=unm m n
 | n+1,hx,hm=>by
  simp only[unm]
  by_cases e:x=n
  ·subst e
   have h1:unm (updB m x) x=unm m x:=unm_same (fun i hi=>by unfold updB;rw[if_neg (by omega)]);rw[h1,hm];simp[updB]
  ·have h1:=unm_upd (n:=n) (by omega) hm
   have h2:updB m x n=m n:=by unfold updB;rw[if_neg (by omega)]
   rw[h2]
   omega
theorem unm_le (m:Nat→Bool):∀ n,unm m n≤n
 | 0=>Nat.le_refl _
 | n+1=>by
  simp only[unm];have:=unm_le m n
  split <;> omega
structure SI (n:Nat) (g:Nat→List Nat) (m0:Nat→Bool) (ss:List Nat) (m:Nat→Bool) (o wt:List Nat):Prop where
 mem:∀ i,m i=true↔m0 i=true∨i∈o∨i∈wt
 nd:(o++wt).Nodup
 un:∀ i,i∈o∨i∈wt→m0 i=false∧i<n
 re:∀ S:Nat→Prop,(∀ s∈ss,S s)→(∀ i,S i→m0 i=false→∀ t∈g i,S t)→∀ i,i∈o∨i∈wt→S i
theorem SI.start (n:Nat) (g:Nat→List Nat) (m0:Nat→Bool) (ss:List Nat):SI n g m0 ss m0 [] [] :=
 ⟨fun i=>by simp,by simp,fun i h=>by simp at h,fun S _ _ i h=>by simp at h⟩
section
variable {n:Nat} {g:Nat→List Nat} {m0 m:Nat→Bool} {ss o wt:List Nat} {x y:Nat}
theorem SI.push (h:SI n g m0 ss m o wt) (hx:m x=false) (hn:x<n) (hw:x∈ss∨∃ y∈o,x∈g y):SI n g m0 ss (updB m x) o (wt++[x]):=by
 have hno:¬ (m0 x=true∨x∈o∨x∈wt):=fun z=>by rw[(h.mem x).2 z] at hx;cases hx
 refine⟨fun i=>?_,?_,fun i hi=>?_,fun S h1 h2 i hi=>?_⟩
 ·unfold updB
  by_cases e:i=x
  ·subst e;simp
  ·rw[if_neg e,h.mem i];simp[e]
 ·rw[← List.append_assoc,List.nodup_append]
  refine⟨h.nd,by simp,fun a ha b hb=>?_⟩;have hb':b=x:=by simpa using hb
  subst hb';intro e;subst e;exact hno (.inr (List.mem_append.1 ha))
 ·simp only[List.mem_append,List.mem_singleton] at hi
  rcases hi with hi|hi|rfl
  ·exact h.un i (.inl hi)
  ·exact h.un i (.inr hi)
  ·exact⟨by cases hm:m0 i with|false=>rfl|true=>exact absurd (.inl hm) hno,hn⟩
 ·simp only[List.mem_append,List.mem_singleton] at hi
  rcases hi with hi|hi|rfl
  ·exact h.re S h1 h2 i (.inl hi)
  ·exact h.re S h1 h2 i (.inr hi)
  ·rcases hw with hw|⟨y,hy,hg⟩
   ·exact h1 i hw
   ·exact h2 y (h.re S h1 h2 y (.inl hy)) (h.un y (.inl hy)).1 i hg
theorem SI.pop (h:SI n g m0 ss m o (wt++[x])):SI n g m0 ss m (o++[x]) wt:=by
 have hm:∀ i,(i∈o++[x]∨i∈wt)↔(i∈o∨i∈wt++[x]):=fun i=>by
  simp only[List.mem_append,List.mem_singleton]
  constructor
  ·rintro ((h|h)|h)
   ·exact .inl h
   ·exact .inr (.inr h)
   ·exact .inr (.inl h)
  ·rintro (h|h|h)
   ·exact .inl (.inl h)
   ·exact .inr h
   ·exact .inl (.inr h)
 refine⟨fun i=>?_,?_,fun i hi=>h.un i ((hm i).1 hi),fun S h1 h2 i hi=>h.re S h1 h2 i ((hm i).1 hi)⟩
 ·rw[h.mem i,hm i]
 ·have hp:(o++[x]++wt).Perm (o++(wt++[x])):=by
   rw[List.append_assoc];exact(List.Perm.refl o).append List.perm_append_comm
  exact(hp.nodup_iff).2 h.nd
theorem SI.met (h:SI n g m0 ss m o wt) {i:Nat} (hi:i∈o∨i∈wt):m i=true:=(h.mem i).2 (.inr hi)
end
structure SR (n:Nat) (g:Nat→List Nat) (m0:Nat→Bool) (ss:List Nat) (m:Nat→Bool) (o:List Nat):Prop where
 si:SI n g m0 ss m o []
 st:∀ s∈ss,m s=true
 cl:∀ y∈o,∀ t∈g y,m t=true
theorem updB_mono {m:Nat→Bool} {x i:Nat} (h:m i=true):updB m x i=true:=by unfold updB;split <;> simp_all
theorem updB_self (m:Nat→Bool) (x:Nat):updB m x x=true:=by simp[updB]
end Go.Proofs.YtaimifnppackgaaGreatDoor
/- Package flow: the search's regions that append,that yield. -/
namespace Go.Proofs.YtaimifnppackgaaGreatDoor
open Go.ChangeShapes Go.WideShapes Go.ChangeAt Go.RowKit Go.Proofs.Tryz
set_option linter.unusedSimpArgs false
set_option linter.unusedVariables false
set_option maxRecDepth 100000
set_option maxHeartbeats 4000000
noncomputable def frR6:Code:=((Tryz.f106.body.bind (regionNF 6)).getD .skip)
noncomputable def frR16:Code:=((Tryz.f106.body.bind (regionNF 16)).getD .skip)
noncomputable def frR10:Code:=((Tryz.f106.body.bind (regionNF 10)).getD .skip)
/-- A round that goes on. -/
def yT (J:World→Prop):Ending→World→Prop:=fun e W=>e=.returned (.bool true)∧J W
theorem grown_alloc {w W:World} {o:Obj} {row:Option Nat} (h:(w.alloc o).grownBy W row):w.grownBy W row :=
 ⟨h.os,h.tape,h.output,by have:=h.size;rw[World.size_alloc] at this;omega,fun k hk hn=>by
  rw[h.block k (by rw[World.size_alloc];omega) hn];exact Below.heap_alloc w o k hk⟩
theorem fr_r6 (H:Nat) (a4:Option Addr) (n4 c4:Nat) (x:Int) (l:List Value) (w1:World) (z0 z1 z2 z3 z5 z7 z8 z9 z10 z11 z12 z13 z14 z15 z16 z17 z18 z19 z20 z21 z22 z23 z24 z25 z26 z27 z28 z29 z30 z31 z32 z33 z34 z35 z36 z37 z38 z39 z40 z41 z42 z43 z44 z45 z46 z47 z48 z49 z50 z51 z52 z53 z54 z55 z56 z57 z58 z59 z60 z61 z62 z63 z64 z65 z66 z67 z68 z69 z70 z71 z72 z73 z74 z75 z76 z77 z78 z79 z80 z81 z82:Value) (K:Act→World→Prop) (QQ:Exit→Act→World→Prop)
  (hn:n4≤1000000) (HO:Hid (w1.ownsRow H 3 1 (.slice a4 n4 c4) n4 l)) (HH:Hid (H≤w1.heap.size))
  (HK:Hid (∀ a5 c5 W y29 y30 y31 y32,W.ownsRow H 3 1 (.slice a5 (n4+1) c5) (n4+1) (l++[.int .i64 x])→w1.grownBy W (Value.slice a4 n4 c4).ownBlock→((Value.slice a5 (n4+1) c5).ownBlock=(Value.slice a4 n4 c4).ownBlock∨∃ k,(Value.slice a5 (n4+1) c5).ownBlock=some k∧w1.heap.size≤k)→K ⟨#[z0,z1,z2,z3,.slice a5 (n4+1) c5,z5,.int .i64 x,z7,z8,z9,z10,z11,z12,z13,z14,z15,z16,z17,z18,z19,z20,z21,z22,z23,z24,z25,z26,z27,z28,y29,y30,y31,y32,z33,z34,z35,z36,z37,z38,z39,z40,z41,z42,z43,z44,z45,z46,z47,z48,z49,z50,z51,z52,z53,z54,z55,z56,z57,z58,z59,z60,z61,z62,z63,z64,z65,z66,z67,z68,z69,z70,z71,z72,z73,z74,z75,z76,z77,z78,z79,z80,z81,z82],[]⟩ W)) :
  Code.wp prog frR6 (Exit.then K QQ) ⟨#[z0,z1,z2,z3,.slice a4 n4 c4,z5,.int .i64 x,z7,z8,z9,z10,z11,z12,z13,z14,z15,z16,z17,z18,z19,z20,z21,z22,z23,z24,z25,z26,z27,z28,z29,z30,z31,z32,z33,z34,z35,z36,z37,z38,z39,z40,z41,z42,z43,z44,z45,z46,z47,z48,z49,z50,z51,z52,z53,z54,z55,z56,z57,z58,z59,z60,z61,z62,z63,z64,z65,z66,z67,z68,z69,z70,z71,z72,z73,z74,z75,z76,z77,z78,z79,z80,z81,z82],[]⟩ w1:=by
 obtain⟨i0,hi,hz0,hz1,hz2⟩:∃ i0,prog.info? 3=some i0∧i0.zero=some (.int .i64 0)∧i0.size=1∧i0.bytes=8:=info_parts (by kernel_rfl);have HI:=hidF (And.intro hi (And.intro hz0 (And.intro hz1 hz2)));clear hi hz0 hz1 hz2
 conv=>arg 2;whnf
 go_wp2_with (at_builtin;refine wpList_append_any _ (by rfl) _ _ 22 (by rfl) H 3 i0 (.int .i64 0) 1 8 underlying22 HI.out.1 HI.out.2.1 HI.out.2.2.1 HI.out.2.2.2 rfl (by decide) (.slice a4 n4 c4) n4 l (by rfl) (HO.out.alloc _) (.slice (some ⟨w1.heap.size,0,none⟩) 1 1) 1 [.int .i64 x] (by rfl) (by rfl) ?c1 ?c2 (by unfold maxLen;omega) (by omega) ?c3 _ rfl ?_)
 case c1 =>
  refine .inl ⟨_,_,rfl,fun j u hj=>?_⟩
  match j,hj with
  | 0,hj =>
   cases hj
   rw[show (⟨w1.heap.size,0,none⟩:Addr).add 0=⟨w1.heap.size,0+0,none⟩ from Addr.add_mid _ _ _];simp
  | j+1,hj=>simp at hj
 case c2=>first|rfl|(intro u hu;cases List.mem_singleton.1 hu;rfl)
 case c3=>have:=HH.out;first|omega|(rw[World.size_alloc];omega)
 intro a5 c5 W ho hg hb;have HX:=hidF (And.intro ho hg);have HB:Hid ((Value.slice a5 (n4+1) c5).ownBlock=(Value.slice a4 n4 c4).ownBlock∨∃ k,(Value.slice a5 (n4+1) c5).ownBlock=some k∧w1.heap.size≤k):=hb.imp id (fun e=>⟨_,e,by simp⟩);clear ho hg hb;go_wp2;exact HK.out a5 c5 W _ _ _ _ HX.out.1 (grown_alloc HX.out.2) HB.out
theorem fr_r16 (H:Nat) (a4:Option Addr) (n4 c4:Nat) (x:Int) (l:List Value) (w1:World) (z0 z1 z2 z3 z5 z6 z7 z8 z10 z11 z12 z13 z14 z15 z16 z17 z18 z19 z20 z21 z22 z23 z24 z25 z26 z27 z28 z29 z30 z31 z32 z33 z34 z35 z36 z37 z38 z39 z40 z41 z42 z43 z44 z45 z46 z47 z48 z49 z50 z51 z52 z53 z54 z55 z56 z57 z58 z59 z60 z61 z62 z63 z64 z65 z66 z67 z68 z69 z70 z71 z72 z73 z74 z75 z76 z77 z78 z79 z80 z81 z82:Value) (Q:Exit→Act→World→Prop)
  (hn:n4≤1000000) (HO:Hid (w1.ownsRow H 3 1 (.slice a4 n4 c4) n4 l)) (HH:Hid (H≤w1.heap.size))
  (HK:Hid (∀ a5 c5 W y77 y78 y79 y80,W.ownsRow H 3 1 (.slice a5 (n4+1) c5) (n4+1) (l++[.int .i64 x])→w1.grownBy W (Value.slice a4 n4 c4).ownBlock→((Value.slice a5 (n4+1) c5).ownBlock=(Value.slice a4 n4 c4).ownBlock∨∃ k,(Value.slice a5 (n4+1) c5).ownBlock=some k∧w1.heap.size≤k)→Q .normal ⟨#[z0,z1,z2,z3,.slice a5 (n4+1) c5,z5,z6,z7,z8,.int .i64 x,z10,z11,z12,z13,z14,z15,z16,z17,z18,z19,z20,z21,z22,z23,z24,z25,z26,z27,z28,z29,z30,z31,z32,z33,z34,z35,z36,z37,z38,z39,z40,z41,z42,z43,z44,z45,z46,z47,z48,z49,z50,z51,z52,z53,z54,z55,z56,z57,z58,z59,z60,z61,z62,z63,z64,z65,z66,z67,z68,z69,z70,z71,z72,z73,z74,z75,z76,y77,y78,y79,y80,z81,z82],[]⟩ W)) :
  Code.wp prog frR16 Q ⟨#[z0,z1,z2,z3,.slice a4 n4 c4,z5,z6,z7,z8,.int .i64 x,z10,z11,z12,z13,z14,z15,z16,z17,z18,z19,z20,z21,z22,z23,z24,z25,z26,z27,z28,z29,z30,z31,z32,z33,z34,z35,z36,z37,z38,z39,z40,z41,z42,z43,z44,z45,z46,z47,z48,z49,z50,z51,z52,z53,z54,z55,z56,z57,z58,z59,z60,z61,z62,z63,z64,z65,z66,z67,z68,z69,z70,z71,z72,z73,z74,z75,z76,z77,z78,z79,z80,z81,z82],[]⟩ w1:=by
 obtain⟨i0,hi,hz0,hz1,hz2⟩:∃ i0,prog.info? 3=some i0∧i0.zero=some (.int .i64 0)∧i0.size=1∧i0.bytes=8:=info_parts (by kernel_rfl);have HI:=hidF (And.intro hi (And.intro hz0 (And.intro hz1 hz2)));clear hi hz0 hz1 hz2
 conv=>arg 2;whnf
 go_wp2_with (at_builtin;refine wpList_append_any _ (by rfl) _ _ 22 (by rfl) H 3 i0 (.int .i64 0) 1 8 underlying22 HI.out.1 HI.out.2.1 HI.out.2.2.1 HI.out.2.2.2 rfl (by decide) (.slice a4 n4 c4) n4 l (by rfl) (HO.out.alloc _) (.slice (some ⟨w1.heap.size,0,none⟩) 1 1) 1 [.int .i64 x] (by rfl) (by rfl) ?c1 ?c2 (by unfold maxLen;omega) (by omega) ?c3 _ rfl ?_)
 case c1 =>
  refine .inl ⟨_,_,rfl,fun j u hj=>?_⟩
  match j,hj with
  | 0,hj =>
   cases hj
   rw[show (⟨w1.heap.size,0,none⟩:Addr).add 0=⟨w1.heap.size,0+0,none⟩ from Addr.add_mid _ _ _];simp
  | j+1,hj=>simp at hj
 case c2=>first|rfl|(intro u hu;cases List.mem_singleton.1 hu;rfl)
 case c3=>have:=HH.out;first|omega|(rw[World.size_alloc];omega)
 intro a5 c5 W ho hg hb;have HX:=hidF (And.intro ho hg);have HB:Hid ((Value.slice a5 (n4+1) c5).ownBlock=(Value.slice a4 n4 c4).ownBlock∨∃ k,(Value.slice a5 (n4+1) c5).ownBlock=some k∧w1.heap.size≤k):=hb.imp id (fun e=>⟨_,e,by simp⟩);clear ho hg hb;go_wp2;exact HK.out a5 c5 W _ _ _ _ HX.out.1 (grown_alloc HX.out.2) HB.out
theorem fr_r10 (l0:Nat) (x:Int) (w1:World) (z1 z2 z3 z4 z5 z6 z8 z9 z10 z11 z12 z13 z14 z15 z16 z17 z18 z19 z20 z21 z22 z23 z24 z25 z26 z27 z28 z29 z30 z31 z32 z33 z34 z35 z36 z37 z38 z39 z40 z41 z42 z43 z44 z45 z46 z47 z48 z49 z50 z51 z52 z53 z54 z55 z56 z57 z58 z59 z60 z61 z62 z63 z64 z65 z66 z67 z68 z69 z70 z71 z72 z73 z74 z75 z76 z77 z78 z79 z80 z81 z82:Value) (K:Act→World→Prop) (QQ:Exit→Act→World→Prop) (J:World→Prop)
  (hY:YieldAt Fence.wide 0 prog l0 #[.int .i64 x] w1 (yT J))
  (HK:Hid (∀ W y47 y48 y49,J W→K ⟨#[.func (.yield l0) #[] #[],z1,z2,z3,z4,z5,z6,.int .i64 x,z8,z9,z10,z11,z12,z13,z14,z15,z16,z17,z18,z19,z20,z21,z22,z23,z24,z25,z26,z27,z28,z29,z30,z31,z32,z33,z34,z35,z36,z37,z38,z39,z40,z41,z42,z43,z44,z45,z46,y47,y48,y49,.bool false,z51,z52,z53,z54,z55,z56,z57,z58,z59,z60,z61,z62,z63,z64,z65,z66,z67,z68,z69,z70,z71,z72,z73,z74,z75,z76,z77,z78,z79,z80,z81,z82],[]⟩ W)) :
  Code.wp prog frR10 (Exit.then K QQ) ⟨#[.func (.yield l0) #[] #[],z1,z2,z3,z4,z5,z6,.int .i64 x,z8,z9,z10,z11,z12,z13,z14,z15,z16,z17,z18,z19,z20,z21,z22,z23,z24,z25,z26,z27,z28,z29,z30,z31,z32,z33,z34,z35,z36,z37,z38,z39,z40,z41,z42,z43,z44,z45,z46,z47,z48,z49,z50,z51,z52,z53,z54,z55,z56,z57,z58,z59,z60,z61,z62,z63,z64,z65,z66,z67,z68,z69,z70,z71,z72,z73,z74,z75,z76,z77,z78,z79,z80,z81,z82],[]⟩ w1:=by
 refine(wpIn_wide (n:=1)).1 ?_
 conv=>arg 4;whnf
 obtain⟨fn1,tmps1,assign1,body1,hy1,hR1⟩:=hY
 gi_wp2
 refine hR1.mono ?_;rintro e W1 ⟨rfl,hJ⟩;have hx:=hidF hJ;clear hJ hR1
 gi_wp2
 exact HK.out _ _ _ _ hx.out
set_option maxRecDepth 100000
set_option maxHeartbeats 16000000
structure Dt (sbx pbx XB nb mb n cn cm:Nat) (sv:Value) (ss:List Nat) (g:Nat→List Nat) (rv:Nat→Value) (W:World):Prop where
 c1:W.cell? ⟨sbx,0,none⟩=some sv
 il:IL W sv (up ss)
 c2:W.cell? ⟨pbx,0,none⟩=some (.pointer (some ⟨XB,0,none⟩))
 x0:W.cell? ⟨XB,0,none⟩=some (.slice (some ⟨nb,0,none⟩) n cn)
 x1:W.cell? ⟨XB,1,none⟩=some (.slice (some ⟨mb,0,none⟩) n cm)
 rows:∀ i,i<n→W.cell? ⟨nb,i,none⟩=some (rv i)∧IL W (rv i) (up (g i))
def MetAt (W:World) (mb n:Nat) (m:Nat→Bool):Prop:=∀ i,i<n→W.cell? ⟨mb,i,none⟩=some (.bool (m i))∧W.frozen? ⟨mb,i,none⟩=false
theorem MetAt.of {w w':World} {mb n:Nat} {m:Nat→Bool} (h:MetAt w mb n m) (hk:w'.heap[mb]? = w.heap[mb]?):MetAt w' mb n m:=fun i hi =>
 ⟨by rw[World.cell?_of_block (w:=w) hk];exact(h i hi).1,by rw[World.frozen?_of_block (w:=w) hk];exact(h i hi).2⟩
theorem MetAt.lt {w:World} {mb n:Nat} {m:Nat→Bool} (h:MetAt w mb n m) (hn:0<n):mb<w.heap.size:=block_lt_of_cell (h 0 hn).1
theorem MetAt.set {w:World} {mb n x:Nat} {m:Nat→Bool} (h:MetAt w mb n m) (hx:x<n):MetAt (w.setCell ⟨mb,x,none⟩ (.bool true)) mb n (updB m x):=fun i hi=>by
 refine⟨?_,by rw[World.frozen?_setCell];exact(h i hi).2⟩
 by_cases e:i=x
 ·subst e
  rw[updB_self];exact World.cell?_setCell_same _ _ _ (h i hi).1
 ·rw[World.cell?_setCell_other _ _ _ _ (fun e2=>e (by cases e2;rfl))]
  rw[show updB m x i=m i by unfold updB;rw[if_neg e]];exact(h i hi).1
def isF:Option Value→Bool
 | some (.bool b)=>b
 | _=>true
def cntW (mb n:Nat) (W:World):Nat:=unm (fun i=>isF (W.cell? ⟨mb,i,none⟩)) n
theorem cntW_eq {W:World} {mb n:Nat} {m:Nat→Bool} (h:MetAt W mb n m):cntW mb n W=unm m n:=unm_same (fun i hi=>by rw[(h i hi).1];rfl)
def slen:Value→Nat
 | .slice _ n _=>n
 | _=>0
structure Mo (mb:Nat) (ob:Option Nat) (w w':World):Prop where
 os:w'.os=w.os
 tape:w'.tape=w.tape
 output:w'.output=w.output
 size:w.heap.size≤w'.heap.size
 block:∀ k,k<w.heap.size→k≠mb→some k≠ob→w'.heap[k]? = w.heap[k]?
structure Sg (H mb n:Nat) (g:Nat→List Nat) (m0:Nat→Bool) (ss:List Nat) (J:List Nat→Option Nat→World→Prop) (W:World) (v:Value) (o wt:List Nat) (m:Nat→Bool):Prop where
 j:J o v.ownBlock W
 met:MetAt W mb n m
 own:W.ownsRow H 3 1 v wt.length (intsF (up wt))
 hs:H≤W.heap.size
 si:SI n g m0 ss m o wt
 bd:unm m n+o.length+wt.length≤n
section
variable {H mb n:Nat} {g:Nat→List Nat} {m0:Nat→Bool} {ss:List Nat} {J:List Nat→Option Nat→World→Prop} {W W':World} {v:Value} {o wt:List Nat} {m:Nat→Bool}
theorem ownsRow_of {W W':World} {H:Nat} {v:Value} {k:Nat} {xs:List Value} (h:W.ownsRow H 3 1 v k xs) (hk:∀ q,H≤q→q<W.heap.size→W'.heap[q]? = W.heap[q]?):W'.ownsRow H 3 1 v k xs:=by
 refine⟨h.1,?_⟩
 rcases h.2 with z|⟨b,cap,cur,h1,h2,h3,h4⟩
 ·exact .inl z
 ·exact .inr ⟨b,cap,cur,h1,h2,by rw[hk b h2 (zge h3).1];exact h3,h4⟩
theorem Sg.push (h:Sg H mb n g m0 ss J W v o wt m) (HA:∀ o ob ob' W W',J o ob W→Mo mb ob W W'→(ob'=ob∨∃ k,ob'=some k∧W.heap.size≤k∧k<W'.heap.size)→J o ob' W') (hmb:mb<H) {x:Nat} (hx:m x=false) (hn:x<n) (hw:x∈ss∨∃ y∈o,x∈g y) {v':Value}
  (ho:W'.ownsRow H 3 1 v' (wt.length+1) (intsF (up wt)++[.int .i64 x])) (hg:(W.setCell ⟨mb,x,none⟩ (.bool true)).grownBy W' v.ownBlock) (hbk:v'.ownBlock=v.ownBlock∨∃ k,v'.ownBlock=some k∧(W.setCell ⟨mb,x,none⟩ (.bool true)).heap.size≤k):Sg H mb n g m0 ss J W' v' o (wt++[x]) (updB m x):=by
 have hob:∀ k,v.ownBlock=some k→H≤k:=fun k hk=>(h.own.lt k hk).1;have hs1:(W.setCell ⟨mb,x,none⟩ (.bool true)).heap.size=W.heap.size:=by simp[World.setCell]
 rw[hs1] at hbk;refine⟨HA _ _ _ _ _ h.j ⟨hg.os,hg.tape,hg.output,by have:=hg.size;omega,fun k h1 h2 h3=>(hg.block k (by omega) h3).trans (Below.heap_setCell _ _ _ _ h2)⟩ (hbk.imp id (fun⟨k,e,h2⟩=>⟨k,e,h2,(ho.lt k e).2⟩)),(h.met.set hn).of (hg.block mb (by rw[hs1];exact h.met.lt (by omega)) (fun e=>by have:=hob mb e.symm;omega)),?_,by have:=hg.size;rw[hs1] at this;have:=h.hs;omega,h.si.push hx hn hw,by have:=h.bd;have:=unm_upd hn hx;rw[List.length_append,List.length_singleton];omega⟩;rw[List.length_append,up_append,ints_append];exact ho
theorem ownsRow_blk0 {W W':World} {B:Nat} {e:TypeId} {v:Value} {k:Nat} {xs:List Value} (h:W.ownsRow B e 1 v k xs) (hk:∀ b,v.ownBlock=some b→W'.heap[b]? = W.heap[b]?):W'.ownsRow B e 1 v k xs:=by
 refine⟨h.1,?_⟩
 rcases h.2 with z|⟨b,cap,cur,h1,h2,h3,h4⟩
 ·exact .inl z
 ·exact .inr ⟨b,cap,cur,h1,h2,by rw[hk b (by rw[h1];rfl)];exact h3,h4⟩
theorem Sg.pop {a:Addr} {cap x:Nat} (h:Sg H mb n g m0 ss J W (.slice (some a) (wt.length+1) cap) o (wt++[x]) m) (hJ:J (o++[x]) (Value.slice (some a) (wt.length+1) cap).ownBlock W') (hs:W.heap.size≤W'.heap.size) (hk:∀ k,(k=mb∨some k=(Value.slice (some a) (wt.length+1) cap).ownBlock)→k<W.heap.size→W'.heap[k]? = W.heap[k]?) (hn:0<n):Sg H mb n g m0 ss J W' (.slice (some a) wt.length cap) (o++[x]) wt m:=by
 refine⟨hJ,h.met.of (hk mb (.inl rfl) (h.met.lt hn)),?_,by have:=h.hs;omega,h.si.pop,by have:=h.bd;rw[List.length_append,List.length_singleton] at this ⊢;omega⟩;have h1:=h.own;rw[List.length_append,up_append,ints_append] at h1;have h2:=ownsRow_pop h1;exact ownsRow_blk0 h2 (fun b hb=>hk b (.inr hb.symm) ((h2.lt b hb).2))
end
theorem from1_own (l0 sbx pbx XB nb mb n cn cm H:Nat) (sa:Option Addr) (ns sc:Nat) (ss:List Nat) (g:Nat→List Nat) (rv:Nat→Value) (m0:Nat→Bool) (w:World) (J:List Nat→Option Nat→World→Prop)
  (HN:Hid (ns=ss.length)) (hns:ns≤1000000000000) (hnn:n≤1000000) (HG:Hid (∀ i,i<n→(g i).length≤1000000∧∀ t∈g i,t<n)) (HS:Hid (∀ s∈ss,s<n)) (HB:Hid (mb<H)) (HH:Hid (w.heap.size=H))
  (H0:Hid (J [] none w)) (HM:Hid (MetAt w mb n m0)) (HD:Hid (∀ o ob W,J o ob W→Dt sbx pbx XB nb mb n cn cm (.slice sa ns sc) ss g rv W)) (HA:Hid (∀ o ob ob' W W',J o ob W→Mo mb ob W W'→(ob'=ob∨∃ k,ob'=some k∧W.heap.size≤k∧k<W'.heap.size)→J o ob' W'))
  (HY:Hid (∀ o (y:Nat) ob W,J o ob W→y<n→y ∉ o→YieldAt Fence.wide 0 prog l0 #[.int .i64 y] W (yT fun W'=>J (o++[y]) ob W'∧W.heap.size≤W'.heap.size∧∀ k,(k=mb∨some k=ob)→k<W.heap.size→W'.heap[k]? = W.heap[k]?))) :
  Calls prog 106 #[.func (.yield l0) #[] #[],.pointer (some ⟨sbx,0,none⟩),.pointer (some ⟨pbx,0,none⟩)] w fun e W=>e=.returned (.tuple #[])∧∃ o m ob,J o ob W∧MetAt W mb n m∧SR n g m0 ss m o∧H≤W.heap.size:=by
 have hc1:=(HD.out _ _ _ H0.out).c1
 go_enter func106,ntmps106
 go_wp2
 go_step3
 go_wp2
 go_step3
 go_wp2
 go_loopw [4,12] (fun v4 v12 wz=>∃ (i:Nat) (a4:Option Addr) (c4:Nat),i≤ns∧v12=.int .i64 i∧v4=.slice a4 0 c4∧Hid (∃ o m,Sg H mb n g m0 ss J wz (.slice a4 0 c4) o [] m∧(∀ y∈o,∀ t∈g y,m t=true)∧∀ s∈ss.take i,m s=true)) (fun _ v12 _=>ns - (intOf v12).toNat)
 case atStart =>
  refine⟨0,none,0,by omega,rfl,rfl,[],m0,⟨H0.out,HM.out,World.ownsRow_nil _ _ _ _,by rw[HH.out];exact Nat.le_refl _,SI.start n g m0 ss,by simpa using unm_le m0 n⟩,(fun y hy=>by cases hy),fun s hs=>by simp at hs⟩
 case round =>
  obtain⟨i,a4,c4,hi,rfl,rfl,HR⟩:=hrel
  rename World=>wz
  obtain⟨o,m,hsg,hcl,hst⟩:=HR.out;have hdt:=HD.out _ _ _ hsg.j;have c1:=hdt.c1;have c2:=hdt.c2;have x0:=hdt.x0;have x1:=hdt.x1;have HL:=hidF hdt.il;have HROW:=hidF hdt.rows;have HSG:=hidF hsg;have HCL:=hidF hcl;have HST:=hidF hst;clear hdt hsg hcl hst HR hc1
  by_cases hin:i<ns
  ·have j0:(0:Int)≤i:=by omega
   have j1:(i:Int)<ns:=by omega
   have hget:=List.getElem?_eq_getElem (l:=ss) (show i<ss.length by rw[← HN.out];exact hin)
   generalize ss[i]'(by rw[← HN.out];exact hin)=s at hget
   have hsn:s<n:=HS.out s (List.mem_of_getElem? hget);obtain⟨va2,vc2,hv2,_,_,h2⟩:=HL.out
   cases hv2
   obtain⟨vb,vo,rfl,hc⟩:=h2 (fun e=>by have:=congrArg List.length e;rw[up_length] at this;simp at this;rw[this] at hget;simp at hget);have cx:=hc i s (by rw[up_get,hget];rfl);have HGET:=hidF hget;clear hget hc h2;obtain⟨hm1,hf1⟩:=HSG.out.met s hsn;have k0:(0:Int)≤s:=by omega
   have k1:(s:Int)<n:=by omega
   cases hms:m s with
   | true =>
    rw[hms] at hm1
    have HST2:Hid (∀ s'∈ss.take (i+1),m s'=true):=by
     intro s' hs';rw[List.take_add_one,HGET.out] at hs'
     rcases List.mem_append.1 hs' with h|h
     ·exact HST.out s' h
     ·have e:s'=s:=by simpa using h
      rw[e];exact hms
    go_wp2
    go_roundw
    case rel=>exact⟨i+1,a4,c4,by omega,by simp,rfl,o,m,HSG.out,HCL.out,HST2.out⟩
    case measure=>simp[intOf];omega
   | false =>
    rw[hms] at hm1;have HMS:=hidF hms;clear hms
    go_upto_region 6 with fail
    refine fr_r6 H a4 0 c4 s [] (wz.setCell ⟨mb,s,none⟩ (.bool true)) _ _ _ _ _ _ _ _ _ _ _ _ _ _ _ _ _ _ _ _ _ _ _ _ _ _ _ _ _ _ _ _ _ _ _ _ _ _ _ _ _ _ _ _ _ _ _ _ _ _ _ _ _ _ _ _ _ _ _ _ _ _ _ _ _ _ _ _ _ _ _ _ _ _ _ _ _ _ _ _ _  _ _ (by omega) ?_ ?_ ?_
    ·exact ownsRow_of HSG.out.own (fun q h1 _=>Below.heap_setCell _ _ _ _ (by have:=HB.out;simp;omega))
    ·exact hidF (by have:=HSG.out.hs;simpa[World.setCell] using this)
    intro a5 c5 W y29 y30 y31 y32 ho hg hbk;have HSG2:Hid (Sg H mb n g m0 ss J W (.slice a5 (0+1) c5) o ([]++[s]) (updB m s)):=HSG.out.push HA.out HB.out HMS.out hsn (.inl (List.mem_of_getElem? HGET.out)) ho hg hbk
    have HST2:Hid (∀ s'∈ss.take (i+1),updB m s s'=true):=by
     intro s' hs';rw[List.take_add_one,HGET.out] at hs'
     rcases List.mem_append.1 hs' with h|h
     ·exact updB_mono (HST.out s' h)
     ·have e:s'=s:=by simpa using h
      rw[e];exact updB_self m s
    have HCL2:Hid (∀ y∈o,∀ t∈g y,updB m s t=true):=fun y hy t ht=>updB_mono (HCL.out y hy t ht);clear ho hg hbk cx hm1 hf1 c1 c2 x0 x1 HL HROW HSG HST HCL HMS;go_wp2
    go_loopw [4] (fun v4 wr=>∃ (a:Option Addr) (k c:Nat) (wt:List Nat),v4=.slice a k c∧Hid (wt.length=k∧∃ o m,Sg H mb n g m0 ss J wr (.slice a k c) o wt m∧(∀ y∈o,∀ t∈g y,m t=true)∧∀ s∈ss.take (i+1),m s=true)) (fun v4 wr=>2 * cntW mb n wr+slen v4)
    case atStart=>exact⟨a5,_,c5,[s],rfl,rfl,o,_,HSG2.out,HCL2.out,HST2.out⟩
    case round =>
     clear HSG2 HCL2 HST2;obtain⟨a,k,c,wt,rfl,HR⟩:=hrel
     rename World=>wr
     rcases List.eq_nil_or_concat wt with rfl|⟨wt2,x,hcc⟩
     ·obtain⟨hk,o,m,h1,h2,h3⟩:=HR.out
      obtain rfl:k=0:=by simpa using hk.symm
      have HF:=hidF (And.intro h1 (And.intro h2 h3));clear HR h1 h2 h3;go_wp2
      go_roundw
      case rel=>exact⟨i+1,a,c,by omega,by simp,rfl,o,m,HF.out⟩
      case measure=>simp[intOf];omega
     ·rw[List.concat_eq_append] at hcc
      subst hcc;obtain⟨wt,hwt⟩:∃ wt,wt=wt2:=⟨_,rfl⟩;subst hwt;obtain⟨hk,o,m,h1,h2,h3⟩:=HR.out;obtain rfl:k=wt.length+1:=by simpa using hk.symm
      obtain⟨k,hk2⟩:∃ k,wt.length=k:=⟨_,rfl⟩;have HKL:=hidF hk2;have h4:=h1.own;rw[List.length_append,up_append,ints_append] at h4;rw[hk2] at h1;have HSG:=hidF h1;have HCL:=hidF h2;have HST:=hidF h3;have hkn:k+1≤1000000:=by have:=h1.bd;rw[List.length_append,List.length_singleton] at this;omega
      have hxn:x<n:=(h1.si.un x (.inr (by simp))).2;have hxo:Hid (x ∉ o):=fun hx=>(List.nodup_append.1 h1.si.nd).2.2 x hx x (by simp) rfl
      obtain⟨gb,rfl,hkc,cx⟩:∃ gb,a=some ⟨gb,0,none⟩∧(k:Int)≤c∧wr.cell? ⟨gb,k,none⟩=some (.int .i64 x):=by
       rcases h4.2 with ⟨_,z⟩|⟨gb,cap,cur,z,_,_,hcap,_⟩
       ·simp at z
       ·cases z
        refine⟨gb,rfl,by simp at hcap;omega,?_⟩;have:=h4.cells (g:=gb) rfl k (.int .i64 x) (by rw[List.getElem?_append_right (by rw[ints_lengthF,up_length];omega),ints_lengthF,up_length,hk2];simp[up,intsF]);rw[show (⟨gb,0,none⟩:Addr).add k=⟨gb,0+k,none⟩ from Addr.add_mid _ _ _,Nat.zero_add] at this;exact this
      rw[hk2];clear HR h1 h2 h3 h4 hk hk2
      go_upto_region 10 with fail
      refine fr_r10 l0 x wr _ _ _ _ _ _ _ _ _ _ _ _ _ _ _ _ _ _ _ _ _ _ _ _ _ _ _ _ _ _ _ _ _ _ _ _ _ _ _ _ _ _ _ _ _ _ _ _ _ _ _ _ _ _ _ _ _ _ _ _ _ _ _ _ _ _ _ _ _ _ _ _ _ _ _ _ _ _ _ _ _  _ _ _ (HY.out o x _ wr HSG.out.j hxn hxo.out) ?_;intro W y47 y48 y49 hJ
      have HSG3:Hid (Sg H mb n g m0 ss J W (.slice (some ⟨gb,0,none⟩) wt.length c) (o++[x]) wt m):=by
       have h:=HSG.out;rw[← HKL.out] at h;exact h.pop hJ.1 hJ.2.1 hJ.2.2 (by omega)
      rw[HKL.out] at HSG3;obtain⟨k0,hk0⟩:∃ k0,k0=k:=⟨_,rfl⟩;obtain⟨MM,hMM⟩:∃ MM,MM=2 * cntW mb n wr+(k0+1):=⟨_,rfl⟩;have HMM:Hid (2 * unm m n+k<MM):=hidF (by rw[hMM,cntW_eq HSG.out.met,hk0];omega);have HME:=hidF hMM;have HK0:=hidF hk0;clear hk0;have hdt:=HD.out _ _ _ HSG3.out.j;have d2:=hdt.c2;have e0:=hdt.x0;have e1:=hdt.x1;obtain⟨r0,hil⟩:=hdt.rows x hxn;obtain⟨ra,rc,hrv,_⟩:=hil.partsF;have hgl:(up (g x)).length=(g x).length:=up_length _;obtain⟨ng,hng⟩:∃ ng,(up (g x)).length=ng:=⟨_,rfl⟩;rw[hng] at hrv;rw[hrv] at r0;have HRV:=hidF hrv;have HNG:Hid ((g x).length=ng):=hidF (by omega);have hng8:ng≤1000000:=by have:=(HG.out x hxn).1;omega
      have q0:(0:Int)≤x:=by omega
      have q1:(x:Int)<n:=by omega
      clear hJ hMM hdt hil hgl hng cx hrv;go_wp2
      go_loopw [4,59] (fun v4 v59 wq=>∃ (j:Nat) (a:Option Addr) (k c:Nat),j≤ng∧v59=.int .i64 j∧v4=.slice a k c∧Hid (∃ wt m,wt.length=k∧Sg H mb n g m0 ss J wq (.slice a k c) (o++[x]) wt m∧(∀ y∈o,∀ t∈g y,m t=true)∧(∀ t∈(g x).take j,m t=true)∧(∀ s∈ss.take (i+1),m s=true)∧2 * unm m n+k<MM)) (fun _ v59 _=>ng - (intOf v59).toNat)
      case atStart=>exact⟨0,_,_,_,by omega,rfl,rfl,wt,m,HKL.out,HSG3.out,HCL.out,(fun t ht=>by simp at ht),HST.out,HMM.out⟩
      case round =>
       clear d2 e0 e1 r0 HSG3 HCL HST HMM HSG;obtain⟨j,a,k,c,hj,rfl,rfl,HR⟩:=hrel
       rename World=>wq
       obtain⟨wt,m,hk,h1,h2,h3,h4,h5⟩:=HR.out;have HSG:=hidF h1;have HF:=hidF (And.intro hk (And.intro h2 (And.intro h3 (And.intro h4 h5))));have hdt:=HD.out _ _ _ h1.j;have d2:=hdt.c2;have e1:=hdt.x1;have hkn:k≤1000000:=by have:=h1.bd;omega
       obtain⟨_,hil⟩:=hdt.rows x hxn;rw[HRV.out] at hil;clear HR h1 h2 h3 h4 h5 hk
       by_cases hjn:j<ng
       ·have j0:(0:Int)≤j:=by omega
        have j1:(j:Int)<ng:=by omega
        have hget:=List.getElem?_eq_getElem (l:=g x) (show j<(g x).length by rw[HNG.out];exact hjn)
        generalize (g x)[j]'(by rw[HNG.out];exact hjn)=t at hget
        have htn:t<n:=(HG.out x hxn).2 t (List.mem_of_getElem? hget);have t0:(0:Int)≤t:=by omega
        have t1:(t:Int)<n:=by omega
        have HGET:=hidF hget;obtain⟨va3,vc3,hv3,_,_,h6⟩:=hil;obtain⟨vb3,vo3,he3,hc3⟩:=h6 (fun e=>by have:=congrArg List.length e;rw[up_length] at this;simp at this;rw[this] at hget;simp at hget)
        injection hv3 with hq1 hq2 hq3
        have cx:=hc3 j t (by rw[up_get,hget];rfl);rw[he3] at hq1;subst hq1;clear hget hc3 h6 hq2 hq3 he3 hdt;obtain⟨hm1,hf1⟩:=HSG.out.met t htn
        cases hms:m t with
        | true =>
         rw[hms] at hm1
         have HT2:Hid (∀ t'∈(g x).take (j+1),m t'=true):=by
          intro t' ht';rw[List.take_add_one,HGET.out] at ht'
          rcases List.mem_append.1 ht' with h|h
          ·exact HF.out.2.2.1 t' h
          ·have e:t'=t:=by simpa using h
           rw[e];exact hms
         clear hms;go_wp2
         go_roundw
         case rel=>exact⟨j+1,a,k,c,by omega,by simp,rfl,wt,m,HF.out.1,HSG.out,HF.out.2.1,HT2.out,HF.out.2.2.2⟩
         case measure=>simp[intOf];omega
        | false =>
         rw[hms] at hm1;have HMS:=hidF hms;clear hms
         go_upto_region 16 with fail
         refine fr_r16 H a k c t (intsF (up wt)) (wq.setCell ⟨mb,t,none⟩ (.bool true)) _ _ _ _ _ _ _ _ _ _ _ _ _ _ _ _ _ _ _ _ _ _ _ _ _ _ _ _ _ _ _ _ _ _ _ _ _ _ _ _ _ _ _ _ _ _ _ _ _ _ _ _ _ _ _ _ _ _ _ _ _ _ _ _ _ _ _ _ _ _ _ _ _ _ _ _ _ _ _ _ _ _ hkn ?_ ?_ ?_
         ·refine ownsRow_of ?_ (fun q h1 _=>Below.heap_setCell _ _ _ _ (by have:=HB.out;simp;omega))
          have h:=HSG.out.own;rw[HF.out.1] at h;exact h
         ·exact hidF (by have:=HSG.out.hs;simpa[World.setCell] using this)
         intro a6 c6 W6 y77 y78 y79 y80 ho hg hbk;have HSG6:Hid (Sg H mb n g m0 ss J W6 (.slice a6 (k+1) c6) (o++[x]) (wt++[t]) (updB m t)):=HSG.out.push HA.out HB.out HMS.out htn (.inr ⟨x,by simp,List.mem_of_getElem? HGET.out⟩) (by rw[HF.out.1];exact ho) hg hbk
         have HF6:Hid ((wt++[t]).length=k+1∧(∀ y∈o,∀ t'∈g y,updB m t t'=true)∧(∀ t'∈(g x).take (j+1),updB m t t'=true)∧(∀ s∈ss.take (i+1),updB m t s=true)∧2 * unm (updB m t) n+(k+1)<MM):=by
          refine⟨by rw[List.length_append,HF.out.1];rfl,fun y hy t' ht'=>updB_mono (HF.out.2.1 y hy t' ht'),fun t' ht'=>?_,fun s hs=>updB_mono (HF.out.2.2.2.1 s hs),?_⟩
          ·rw[List.take_add_one,HGET.out] at ht'
           rcases List.mem_append.1 ht' with h|h
           ·exact updB_mono (HF.out.2.2.1 t' h)
           ·have e:t'=t:=by simpa using h
            rw[e];exact updB_self m t
          ·have:=HF.out.2.2.2.2
           have:=unm_upd htn HMS.out
           omega
         clear ho hg hbk cx hm1 hf1 d2 e1 HF HMS;go_wp2
         go_roundw
         case rel=>exact⟨j+1,a6,k+1,c6,by omega,by simp,rfl,wt++[t],updB m t,HF6.out.1,HSG6.out,HF6.out.2⟩
         case measure=>simp[intOf];omega
       ·obtain rfl:ng=j:=by omega
        have HF7:Hid (∀ y∈o++[x],∀ t∈g y,m t=true):=by
         intro y hy t ht
         rcases List.mem_append.1 hy with h|h
         ·exact HF.out.2.1 y h t ht
         ·have e:y=x:=by simpa using h
          subst e;refine HF.out.2.2.1 t ?_;rw[← HNG.out,List.take_length];exact ht
        have HM7:Hid (2 * cntW mb n wq+k<2 * cntW mb n wr+(k0+1)):=by
         show _<_
         rw[cntW_eq HSG.out.met,← HME.out];exact HF.out.2.2.2.2
        clear d2 e1 hil hdt;go_wp2
        go_roundw
        case rel=>exact⟨a,k,c,wt,rfl,HF.out.1,o++[x],m,HSG.out,HF7.out,HF.out.2.2.2.1⟩
        case measure =>
         have hM:=HM7.out;rw[HK0.out] at hM;simpa[slen] using hM
  ·obtain rfl:ns=i:=by omega
   have HF:Hid (∃ o m ob,J o ob wz∧MetAt wz mb n m∧SR n g m0 ss m o∧H≤wz.heap.size):=by
    refine⟨o,m,_,HSG.out.j,HSG.out.met,⟨HSG.out.si,?_,HCL.out⟩,HSG.out.hs⟩;have:=HST.out;rw[HN.out,List.take_length] at this;exact this
   clear c1 c2 x0 x1;go_wp2;dsimp only[Exit.noGoto];go_end0;exact⟨rfl,HF.out⟩
theorem yield_monoF {m:Nat} {P:Program} {l:Nat} {args:Array Value} {W:World} {R R':Ending→World→Prop} (h:YieldAt Fence.wide m P l args W R) (hr:∀ e w,R e w→R' e w):YieldAt Fence.wide m P l args W R':=by
 obtain⟨fn,tmps,assign,body,hy,hR⟩:=h;exact⟨fn,tmps,assign,body,hy,hR.mono hr⟩
theorem from1_any (l0 sbx pbx XB nb mb n cn cm H:Nat) (sa:Option Addr) (ns sc:Nat) (ss:List Nat) (g:Nat→List Nat) (rv:Nat→Value) (m0:Nat→Bool) (w:World) (J:List Nat→World→Prop)
  (HN:Hid (ns=ss.length)) (hns:ns≤1000000000000) (hnn:n≤1000000) (HG:Hid (∀ i,i<n→(g i).length≤1000000∧∀ t∈g i,t<n)) (HS:Hid (∀ s∈ss,s<n)) (HB:Hid (mb<H)) (HH:Hid (w.heap.size=H))
  (H0:Hid (J [] w)) (HM:Hid (MetAt w mb n m0)) (HD:Hid (∀ o W,J o W→Dt sbx pbx XB nb mb n cn cm (.slice sa ns sc) ss g rv W)) (HA:Hid (∀ o W W',J o W→Mv H mb W W'→J o W'))
  (HY:Hid (∀ o (y:Nat) W,J o W→y<n→y ∉ o→YieldAt Fence.wide 0 prog l0 #[.int .i64 y] W (yT fun W'=>J (o++[y]) W'∧W.heap.size≤W'.heap.size∧∀ k,(k=mb∨H≤k)→k<W.heap.size→W'.heap[k]? = W.heap[k]?))) :
  Calls prog 106 #[.func (.yield l0) #[] #[],.pointer (some ⟨sbx,0,none⟩),.pointer (some ⟨pbx,0,none⟩)] w fun e W=>e=.returned (.tuple #[])∧∃ o m,J o W∧MetAt W mb n m∧SR n g m0 ss m o∧H≤W.heap.size:=by
 refine(from1_own l0 sbx pbx XB nb mb n cn cm H sa ns sc ss g rv m0 w (fun o ob W=>J o W∧H≤W.heap.size∧∀ k,ob=some k→H≤k) HN hns hnn HG HS HB HH ⟨H0.out,by rw[HH.out];exact Nat.le_refl _,(fun k e=>by cases e)⟩ HM (fun o ob W h=>HD.out o W h.1) (fun o ob ob' W W' h hm hb=>?_) (fun o y ob W h hy ho=>?_)).mono ?_
 ·refine⟨HA.out o W W' h.1 ⟨hm.os,hm.tape,hm.output,hm.size,fun k h1 h2=>hm.block k (by have:=h.2.1;omega) h2 (fun e=>by have:=h.2.2 k e.symm;omega)⟩,Nat.le_trans h.2.1 hm.size,fun k e=>?_⟩
  rcases hb with e2|⟨k2,e2,h2,_⟩
  ·exact h.2.2 k (by rw[← e2];exact e)
  ·rw[e2] at e
   injection e with e
   have:=h.2.1
   omega
 ·refine yield_monoF (HY.out o y W h.1 hy ho) (fun e W' hJ=>⟨hJ.1,⟨hJ.2.1,Nat.le_trans h.2.1 hJ.2.2.1,h.2.2⟩,hJ.2.2.1,fun k hk=>hJ.2.2.2 k (hk.imp id (fun e=>h.2.2 k e.symm))⟩)
 ·rintro e W ⟨rfl,o,m,ob,hJ,h1,h2,h3⟩
  exact⟨rfl,o,m,hJ.1,h1,h2,h3⟩
set_option maxHeartbeats 2000000
theorem made_get (x:Value) (n j:Nat) (h:j<n):(madeCells #[x] n)[j]? = some x:=by
 rw[Array.getElem?_eq_getElem (by rw[size_madeCells];simpa using h)];simp[madeCells,Nat.mod_one]
theorem made_at (w:World) (x:Value) (n:Nat) (e:TypeId) (j:Nat) (h:j<n):(w.alloc (.cells (madeCells #[x] n) e (0,0))).cell? ⟨w.heap.size,j,none⟩=some x∧(w.alloc (.cells (madeCells #[x] n) e (0,0))).frozen? ⟨w.heap.size,j,none⟩=false:=by
 have hh:(w.alloc (.cells (madeCells #[x] n) e (0,0))).heap[w.heap.size]? = some (.cells (madeCells #[x] n) e (0,0)):=by
  show (w.heap.push _)[w.heap.size]? = _
  simp
 constructor
 ·unfold World.cell?
  rw[hh];simpa using made_get x n j h
 ·unfold World.frozen?
  rw[hh];simp
theorem infoBoolF:(prog.info? 4).map (fun i=>(i.zero,i.size,i.bytes))=some (some (.bool false),1,1):=by kernel_rfl
theorem infoRow:(prog.info? 22).map (fun i=>(i.zero,i.size,i.bytes))=some (some (.slice none 0 0),1,24):=by kernel_rfl
theorem mk_bools (n:Nat) (hn:n≤1000000) (w:World):(Instr.makeSlice 37 (.int .i64 n) (.int .i64 n)).run prog w=.ok (.slice (some ⟨w.heap.size,0,none⟩) n n) (w.alloc (.cells (madeCells #[.bool false] n) 4)):=by
 obtain⟨i0,hi,hz0,hz1,hz2⟩:=info_parts infoBoolF;have:=run_make (P:=prog) w 37 4 i0 (.bool false) underlying37 hi hz0 .i64 .i64 n n (by omega) (by omega) (by rw[hz2];omega) (by omega);rw[this,hz1];simp[Value.cells]
theorem mk_rows (n:Nat) (hn:n≤1000000) (w:World):(Instr.makeSlice 58 (.int .i64 n) (.int .i64 n)).run prog w=.ok (.slice (some ⟨w.heap.size,0,none⟩) n n) (w.alloc (.cells (madeCells #[.slice none 0 0] n) 22)):=by
 obtain⟨i0,hi,hz0,hz1,hz2⟩:=info_parts infoRow;have:=run_make (P:=prog) w 58 22 i0 (.slice none 0 0) underlying58 hi hz0 .i64 .i64 n n (by omega) (by omega) (by rw[hz2];omega) (by omega);rw[this,hz1];simp[Value.cells]
theorem newSearch_any (NB n cn:Nat) (hn:n≤1000000) (w:World):Calls prog 29 #[.slice (some ⟨NB,0,none⟩) n cn] w fun e w'=>e=.returned (.pointer (some ⟨w.heap.size+1,0,none⟩)) ∧
  w'=(w.alloc (.cells (madeCells #[.bool false] n) 4)).alloc (.cells #[.slice (some ⟨NB,0,none⟩) n cn,.slice (some ⟨w.heap.size,0,none⟩) n n] 85):=by
 have mk:=mk_bools n hn
 go_enter func29,ntmps29
 go_wp2;go_ret;exact⟨by simp,rfl⟩
theorem from_any (XB:Nat) (sa:Option Addr) (sn sc:Nat) (w:World):Calls prog 85 #[.pointer (some ⟨XB,0,none⟩),.slice sa sn sc] w fun e w'=>e=.returned (.func (.func 106) #[] #[.pointer (some ⟨w.heap.size+1,0,none⟩),.pointer (some ⟨w.heap.size,0,none⟩)]) ∧
  w'=(w.alloc (.cells #[.pointer (some ⟨XB,0,none⟩)] 56)).alloc (.cells #[.slice sa sn sc] 22):=by
 have hmf:∀ (fn:Go.Fn) (first cap:Array Value) (w:World),(Instr.makeFunc fn first cap).run prog w=.ok (.func fn first cap) w:=fun _ _ _ _=>rfl
 go_enter func85,ntmps85
 go_wp2;go_ret;exact⟨by simp,rfl⟩
theorem grown_drew {w W:World} {row:Option Nat} (h:w.drew.grownBy W row):w.grownBy W row:=⟨h.os,h.tape,h.output,h.size,h.block⟩
theorem cell_new (w:World) (x:Value) (e:TypeId) (h:x.oneCell'=true):(w.alloc (.cells #[x] e)).cell? ⟨w.heap.size,0,none⟩=some x:=by simp
theorem upon_round {P:Program} {o:Oper} {a:Act} {next:Act→World→Prop} {Q:Exit→Act→World→Prop} {l n:Nat}:∀ {r:Result Next},o.upon P a next Q r→o.uponIn (Fence.wide.inRound l) n P a next Q r:=by
 intro r h;have hdp:∀ {m:Nat},((Fence.wide.inRound l).depth.isSome=true→1≤m):=fun e=>absurd (show (none:Option Nat).isSome=true from e) (by simp)
 cases r with
 | ok nx w' =>
  cases nx with
  | enter f args=>exact⟨hdp,CallsIn.inRound l (callsIn_wide.2 h)⟩
  | row row args =>
   refine⟨hdp,fun c cs _=>?_⟩;obtain⟨v,w2,r,s⟩:=h c cs;exact⟨v,w2,r,stepsIn_wide.2 s⟩
  | _=>first|exact h|exact h.elim
 | _=>first|exact h|(rename_i x w';cases x <;> first|exact h|exact h.elim)
def noDefer (l:List Oper):Bool:=l.all fun o=>match o.op with
 | .defer _=>false
 | _=>true
theorem noDefer_at {l:List Oper} (h:noDefer l=true):∀ (i:Nat) (o:Oper),l.toArray[i]? = some o→∀ c,o.op≠Op.defer c:=by
 intro i o ho c hc;have hm:o∈l:=List.mem_of_getElem? (by simpa using ho);have:=List.all_eq_true.1 h o hm;rw[hc] at this
 cases this
theorem wpOp_round {n:Nat} {P:Program} {ops:Array Oper} {Q:Exit→Act→World→Prop} {i l:Nat} {K:Act→World→Prop} {a:Act} {w:World} (hd:∀ (i:Nat) (o:Oper),ops[i]? = some o→∀ c,o.op≠Op.defer c) (hout:¬ LetsOut Q)
  (h:wpOp P ops Q i K a w):wpOpIn (Fence.wide.inRound l) n P ops Q i K a w:=by
 unfold wpOp at h;unfold wpOpIn
 cases ho:ops[i]? with
 | none=>rw[ho] at h;exact h
 | some o =>
  rw[ho] at h;dsimp only at h ⊢
  split
  ·rename_i hw
   rw[if_pos hw] at h
   rcases h with h|⟨_,h⟩
   ·refine⟨fun f _=>trivial,?_⟩
    rw[Fence.inRound_round,Oper.semAt_some l _ o (hd i o ho)];exact upon_round h
   ·exact absurd h hout
  ·rename_i hw
   rw[if_neg hw] at h;exact⟨fun f _=>trivial,h⟩
theorem wpAny_round {n:Nat} {P:Program} {md:Region.Mode} {ops:Array Oper} {Q:Exit→Act→World→Prop} {l:Nat} (hd:∀ (i:Nat) (o:Oper),ops[i]? = some o→∀ c,o.op≠Op.defer c) (hout:¬ LetsOut Q) :
  ∀ (fuel:Nat) (listed:Array Bool) (a:Act) (w:World),wpAny P md ops Q fuel listed a w→wpAnyIn (Fence.wide.inRound l) n P md ops Q fuel listed a w
 | 0,_,_,_,h=>h
 | fuel+1,listed,a,w,h=>⟨h.1,fun i hi=>wpOpIn_mono (fun a w=>wpAny_round hd hout fuel _ a w) (wpOp_round hd hout (h.2 i hi))⟩
theorem wpIn_held_round {n:Nat} {P:Program} {id l:Nat} {Q:Exit→Act→World→Prop} {S:World→Prop} {a:Act} {w:World} {ol:List Oper} (hout:¬ LetsOut Q) (hn:noDefer ol=true) (hm:P.follows .mixedOrders=true) (hS:S w.drew)
  (h:S w.drew→wpAnyH P .any ol.toArray Q S ol.toArray.size (Array.replicate ol.toArray.size false) a w.drew):(Code.region id ol.toArray true).wpIn (Fence.wide.inRound l) n P Q a w :=
 wpIn_region_any hm (wpAny_round (noDefer_at hn) hout _ _ _ _ (wpAny_of_held _ _ _ _ (h hS)))
def rangesOfF:Code→List (Array Tmp × Code × Code)
 | .rangeFunc _ ps a b=>[(ps,a,b)]
 | .seq a b=>rangesOfF a++rangesOfF b
 | .block _ c=>rangesOfF c
 | .scope c=>rangesOfF c
 | .loop c=>rangesOfF c
 | .cond _ a b=>rangesOfF a++rangesOfF b
 | _=>[]
def loopsOf:Code→List Code
 | .loop c=>[c]
 | .seq a b=>loopsOf a++loopsOf b
 | .block _ c=>loopsOf c
 | .scope c=>loopsOf c
 | .cond _ a b=>loopsOf a++loopsOf b
 | _=>[]
theorem put_otherF {W:World} {l k:Nat} {o:Obj} (h:k≠l):(W.putObj l o).heap[k]? = W.heap[k]? := World.putObj_heap_other h
theorem cell_not_loopF {W:World} {b o l:Nat} {r:Loop} {v:Value} (hl:W.heap[l]? = some (.loop r)) (hc:W.cell? ⟨b,o,none⟩=some v):b≠l:=by
 rintro rfl;simp[World.cell?,hl] at hc
theorem gset_otherF {w:World} {b b' o:Nat} {v:Value} (h:b≠b'):(w.setCell ⟨b',o,none⟩ v).heap[b]? = w.heap[b]? := Below.heap_setCell w ⟨b',o,none⟩ v b h
theorem gsize_setF (w:World) (p:Addr) (u:Value):(w.setCell p u).heap.size=w.heap.size:=by simp[World.setCell]
theorem gwp_namedF {P:Program} {c:Code} {Q:Exit→Act→World→Prop} {a:Act} {w0:World} (Fct:World→Prop) (h:Fct w0) (k:∀ W,Fct W→Code.wp P c Q a W):Code.wp P c Q a w0:=k w0 h
theorem gq_namedF {Q:Exit→Act→World→Prop} {a:Act} {w0:World} (Fct:World→Prop) (h:Fct w0) (k:∀ W,Fct W→Q .normal a W):Q .normal a w0:=k w0 h
def mkD (d:Nat):Deferred:={ target:=.collected d,args:=#[] }
theorem leaves_marks {F:Fence} {n:Nat} {P:Program} {fn:Func} {tmps:Array Value} {R:Ending→World→Prop}:∀ (ms:List Nat) (w:World),ms.Nodup→(∀ d∈ms,w.heap[d]? = some (.deferred (some []))) →
  (∀ W:World,(∀ k,k ∉ ms→W.heap[k]? = w.heap[k]?)→W.os=w.os→W.tape=w.tape→W.output=w.output→W.heap.size=w.heap.size→LeavesIn F n P fn tmps R [] .returning W)→LeavesInM F n P fn tmps R (ms.map mkD) .returning w
 | [],w,_,_,h=>h w (fun _ _=>rfl) rfl rfl rfl rfl
 | d :: ms,w,hn,hm,h=>by
  refine⟨by simp,.inl ⟨d,_,rfl,run_takeDeferred (hm d (by simp)),?_⟩⟩;have hn':=List.nodup_cons.1 hn;refine leaves_marks ms _ hn'.2 (fun d' hd'=>?_) (fun W h1 h2 h3 h4 h5=>h W (fun k hk=>?_) h2 h3 h4 (by rw[h5,World.putObj_size]))
  ·have hne:d'≠d:=fun e=>hn'.1 (by rw[← e];exact hd')
   rw[put_otherF hne];exact hm d' (by simp[hd'])
  ·have hne:k≠d:=fun e=>hk (by rw[e];simp)
   rw[h1 k (fun hh=>hk (by simp[hh])),put_otherF hne]
theorem cell_of {W W':World} {b o:Nat} {v:Value} (h:W.cell? ⟨b,o,none⟩=some v) (hk:b<W.heap.size→W'.heap[b]? = W.heap[b]?):W'.cell? ⟨b,o,none⟩=some v:=by
 rw[World.cell?_of_block (w:=W) (hk (block_lt_of_cell h))];exact h
theorem IL.of2 {w w':World} {v:Value} {l:List Int} (h:IL w v l) (hk:∀ b o s n c,v=.slice (some ⟨b,o,s⟩) n c→b<w.heap.size→w'.heap[b]? = w.heap[b]?):IL w' v l:=by
 obtain⟨a,cap,hv,h1,h0,h2⟩:=h;refine⟨a,cap,hv,h1,h0,fun hl=>?_⟩;obtain⟨b,off,rfl,hc⟩:=h2 hl;exact⟨b,off,rfl,fun i x hx=>cell_of (hc i x hx) (hk b off none _ _ hv)⟩
theorem cell_new2 (w:World) (x:Value) (e:TypeId) (k:Nat) (hk:w.heap.size=k) (h:x.oneCell'=true:=by rfl):(w.alloc (.cells #[x] e)).cell? ⟨k,0,none⟩=some x:=by subst hk;exact cell_new w x e h
theorem wp_calm {P:Program} {c:Code} {Q:Exit→Act→World→Prop} {a:Act} {w:World} (h:Code.wp P c (fun e a w=>e=.normal∧Q .normal a w) a w):Code.wp P c Q a w :=
 Go.wp_mono h (fun e a w hq=>by obtain⟨rfl,h⟩:=hq;exact h)
theorem ownsRow_blk {W W':World} {B:Nat} {e:TypeId} {v:Value} {k:Nat} {xs:List Value} (h:W.ownsRow B e 1 v k xs) (hk:∀ b,v.ownBlock=some b→W'.heap[b]? = W.heap[b]?):W'.ownsRow B e 1 v k xs:=by
 refine⟨h.1,?_⟩
 rcases h.2 with z|⟨b,cap,cur,h1,h2,h3,h4⟩
 ·exact .inl z
 ·exact .inr ⟨b,cap,cur,h1,h2,by rw[hk b (by rw[h1];rfl)];exact h3,h4⟩
structure NI (B NB n:Nat) (rv:Nat→Value) (g:Nat→List Nat) (W:World):Prop where
 cell:∀ i,i<n→W.cell? ⟨NB,i,none⟩=some (rv i)∧W.frozen? ⟨NB,i,none⟩=false
 own:∀ i,i<n→W.ownsRow B 3 1 (rv i) (g i).length (intsF (up (g i)))
 ne:∀ i,i<n→some NB≠(rv i).ownBlock
 dis:∀ i j,i<n→j<n→i≠j→(rv i).ownBlock=none∨(rv i).ownBlock≠(rv j).ownBlock
theorem NI.of {B NB n:Nat} {rv:Nat→Value} {g:Nat→List Nat} {W W':World} (h:NI B NB n rv g W) (hb:Below W.heap.size W W'):NI B NB n rv g W' where
 cell:=fun i hi=>⟨keep_cell hb (h.cell i hi).1,keep_frozen hb (h.cell i hi).1 (h.cell i hi).2⟩
 own:=fun i hi=>ownsRow_blk (h.own i hi) (fun b hbk=>hb.block b ((h.own i hi).lt b hbk).2)
 ne:=h.ne
 dis:=h.dis
theorem NI.start (W:World) (B NB n:Nat) (hc:∀ i,i<n→W.cell? ⟨NB,i,none⟩=some (.slice none 0 0)∧W.frozen? ⟨NB,i,none⟩=false):NI B NB n (fun _=>.slice none 0 0) (fun _=>[]) W where
 cell:=hc
 own:=fun _ _=>World.ownsRow_nil _ _ _ _
 ne:=fun _ _=>by simp[Value.ownBlock]
 dis:=fun _ _ _ _ _=>.inl rfl
def setR (rv:Nat→Value) (x:Nat) (v:Value):Nat→Value:=fun i=>if i=x then v else rv i
def addG (g:Nat→List Nat) (x t:Nat):Nat→List Nat:=fun i=>if i=x then g i++[t] else g i
theorem NI.push {B NB n x t:Nat} {rv:Nat→Value} {g:Nat→List Nat} {W w3:World} {v:Value} {N:Nat} (h:NI B NB n rv g W) (hx:x<n) (ho:w3.ownsRow B 3 1 v ((g x).length+1) (intsF (up (g x))++[.int .i64 t])) (hg:W.grownBy w3 (rv x).ownBlock) (hb:v.ownBlock=(rv x).ownBlock∨v.ownBlock=some N) (hN:W.heap.size≤N) :
  NI B NB n (setR rv x v) (addG g x t) (w3.setCell ⟨NB,x,none⟩ v):=by
 have hNB:NB<W.heap.size:=block_lt_of_cell (h.cell x hx).1
 have hvn:some NB≠v.ownBlock:=by
  rcases hb with e|e
  ·rw[e];exact h.ne x hx
  ·rw[e];intro e2;injection e2 with e2;omega
 have hcell:∀ i,i<n→w3.cell? ⟨NB,i,none⟩=some (rv i)∧w3.frozen? ⟨NB,i,none⟩=false:=fun i hi=>by
  have hk:=hg.block NB hNB (h.ne x hx);exact⟨by rw[World.cell?_of_block (w:=W) hk];exact(h.cell i hi).1,by rw[World.frozen?_of_block (w:=W) hk];exact(h.cell i hi).2⟩
 have hset:∀ b,b≠NB→(w3.setCell ⟨NB,x,none⟩ v).heap[b]? = w3.heap[b]? := fun b hbn=>gset_otherF hbn;refine⟨fun i hi=>?_,fun i hi=>?_,fun i hi=>?_,fun i j hi hj hij=>?_⟩
 ·refine⟨?_,by rw[World.frozen?_setCell];exact(hcell i hi).2⟩
  unfold setR
  by_cases e:i=x
  ·subst e
   rw[if_pos rfl];exact World.cell?_setCell_same _ _ _ (hcell i hi).1
  ·rw[if_neg e,World.cell?_setCell_other _ _ _ _ (fun e2=>e (by cases e2;rfl))]
   exact(hcell i hi).1
 ·unfold setR addG
  by_cases e:i=x
  ·subst e
   rw[if_pos rfl,if_pos rfl];rw[List.length_append,up_append,ints_append];exact ownsRow_blk ho (fun b hbk=>hset b (fun e=>hvn (by rw[hbk,e])))
  ·rw[if_neg e,if_neg e]
   refine ownsRow_blk (W:=W) (h.own i hi) (fun b hbk=>?_);rw[hset b (fun e2=>h.ne i hi (by rw[hbk,e2]))];refine hg.block b ((h.own i hi).lt b hbk).2 (fun e2=>?_)
   rcases h.dis i x hi hx e with z|z
   ·rw[z] at hbk;cases hbk
   ·exact z (by rw[hbk,e2])
 ·unfold setR
  by_cases e:i=x
  ·rw[if_pos e];exact hvn
  ·rw[if_neg e];exact h.ne i hi
 ·unfold setR
  have hlt:∀ j,j<n→∀ b,(rv j).ownBlock=some b→b<W.heap.size:=fun j hj b hbk=>((h.own j hj).lt b hbk).2
  by_cases e:i=x
  ·subst e
   rw[if_pos rfl,if_neg (Ne.symm hij)]
   rcases hb with z|z
   ·rw[z];exact h.dis i j hi hj hij
   ·rw[z]
    exact .inr (fun e2=>by have:=hlt j hj N e2.symm;omega)
  ·rw[if_neg e]
   by_cases e2:j=x
   ·subst e2
    rw[if_pos rfl]
    rcases hb with z|z
    ·rw[z];exact h.dis i j hi hj hij
    ·rw[z]
     cases hbk:(rv i).ownBlock with
     | none=>exact .inl rfl
     | some b=>exact .inr (fun e3=>by injection e3 with e3;have:=hlt i hi b hbk;omega)
   ·rw[if_neg e2];exact h.dis i j hi hj hij
theorem NI.ext {B NB n:Nat} {rv:Nat→Value} {g g':Nat→List Nat} {W:World} (h:NI B NB n rv g W) (e:∀ i,g i=g' i):NI B NB n rv g' W:=by
 have:g=g':=funext e;rw[← this];exact h
theorem NI.blk {B NB n:Nat} {rv:Nat→Value} {g:Nat→List Nat} {W W':World} (h:NI B NB n rv g W) (hk:∀ k,(0<n∧k=NB)∨(∃ i,i<n∧(rv i).ownBlock=some k)→W'.heap[k]? = W.heap[k]?):NI B NB n rv g W' where
 cell:=fun i hi=>by
  have e:=hk NB (.inl ⟨by omega,rfl⟩);exact⟨by rw[World.cell?_of_block (w:=W) e];exact(h.cell i hi).1,by rw[World.frozen?_of_block (w:=W) e];exact(h.cell i hi).2⟩
 own:=fun i hi=>ownsRow_blk (h.own i hi) (fun b hbk=>hk b (.inr ⟨i,hi,hbk⟩))
 ne:=h.ne
 dis:=h.dis
theorem ownsRow_not_loop {W:World} {B:Nat} {e:TypeId} {v:Value} {k b:Nat} {xs:List Value} {r:Loop} (h:W.ownsRow B e 1 v k xs) (hb:v.ownBlock=some b) (hl:W.heap[b]? = some (.loop r)):False:=by
 rcases h.2 with ⟨h1,_⟩|⟨g,cap,cur,h1,h2,h3,h4⟩
 ·rw[h1] at hb;cases hb
 ·rw[h1] at hb
  have hg:g=b:=by simpa[Value.ownBlock] using hb
  subst hg;rw[hl] at h3
  cases h3
theorem NI.loop {B NB n l:Nat} {rv:Nat→Value} {g:Nat→List Nat} {W W':World} {r:Loop} (h:NI B NB n rv g W) (hl:W.heap[l]? = some (.loop r)) (hk:∀ k,k≠l→W'.heap[k]? = W.heap[k]?):NI B NB n rv g W' :=
 h.blk (fun k hkk=>hk k (fun e=>by
  subst e
  rcases hkk with ⟨h0,rfl⟩|⟨i,hi,hb⟩
  ·exact cell_not_loopF hl (h.cell 0 h0).1 rfl
  ·exact ownsRow_not_loop (h.own i hi) hb hl))
end Go.Proofs.YtaimifnppackgaaGreatDoor
