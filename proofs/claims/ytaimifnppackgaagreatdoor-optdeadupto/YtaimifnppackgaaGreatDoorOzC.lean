import Derived.Test.YtaimifnppackgaaGreatDoorRUses
namespace Go.Proofs.YtaimifnppackgaaGreatDoor
open Go.ChangeShapes Go.WideShapes Go.ChangeAt Go.RowKit Go.Proofs.Tryz
set_option linter.unusedSimpArgs false
set_option linter.unusedVariables false
set_option maxHeartbeats 4000000
theorem uses10n (sub a b d k:Int) (s t:Int) (w:World):Calls prog 21 #[insV 10 sub a b d k (.slice none 0 0) s t] w (retO [] w):=by
 obtain⟨i0,hi,hz0,hz1,hz2⟩:∃ i0,prog.info? 3=some i0∧i0.zero=some (.int .i64 0)∧i0.size=1∧i0.bytes=8:=info_parts (by kernel_rfl);unfold insV
 go_enter func21,ntmps21
 go_wp2;go_ret;exact⟨_,rfl,World.ownsRow_nil _ _ _ _,by simp,(by repeat(first|with_reducible exact Below.refl _ _|with_reducible refine bel_alloc ?_ _|with_reducible refine bel_set ?_ (by first|exact Nat.le_refl _|(simp;done)|(simp;omega)) _|with_reducible refine Below.drew ?_|refine bel_trans ?_ (by assumption)))⟩
theorem uses10s (sub a b d k:Int) (ad:Addr) (n cap:Nat) (l:List Int) (s t:Int) (w:World) (HN:Hid (l.length=n)) (hn:n * 8≤140737488355328) (HC:Hid (∀ i x,l[i]? = some x→w.cell? (ad.add i)=some (.int .i64 x))):Calls prog 21 #[insV 10 sub a b d k (.slice (some ad) n cap) s t] w (retO l w):=by
 obtain⟨i0,hi,hz0,hz1,hz2⟩:∃ i0,prog.info? 3=some i0∧i0.zero=some (.int .i64 0)∧i0.size=1∧i0.bytes=8:=info_parts (by kernel_rfl);unfold insV
 go_enter func21,ntmps21
 go_wp2_with (at_builtin;refine wpList_append_own _ rfl _ _ 22 rfl (w.heap.size+1) 3 i0 (.int .i64 0) 1 8 underlying22 hi hz0 hz1 hz2 rfl (by decide) _ 0 (ints []) rfl (World.ownsRow_nil _ _ _ _) ad n cap (ints l) rfl (by rw[ints_length,Nat.mul_one];exact HN.out) ?c1 ?c2 ?c3 ?c4 ?c5 ?_)
 case c1 =>
  intro j u hj;simp only[ints,List.getElem?_map,Option.map_eq_some_iff] at hj;obtain⟨x,hx,rfl⟩:=hj;exact keep_alloc (HC.out j x hx) _
 case c2=>intro u hu;simp only[ints,List.mem_map] at hu;obtain⟨x,_,rfl⟩:=hu;rfl
 case c3=>unfold maxLen;omega
 case c4=>omega
 case c5=>simp
 intro v1 w1 hown1 hgrow1 _
 have HO1:Hid (w1.ownsRow (w.heap.size+1) 3 1 v1 l.length (ints l)):=by
  show World.ownsRow _ _ _ _ _ _ _
  rw[HN.out];simpa[ints] using hown1
 have HB1:Hid (Below w.heap.size w w1):=by
  show Below _ _ _
  exact((Below.refl w.heap.size w).alloc (Nat.le_refl _) _).grown hgrow1 (by simp) (fun k hk=>by simp[Value.ownBlock] at hk)
 clear hown1 hgrow1;go_wp2;go_ret;exact⟨_,rfl,HO1.out,(by rw[HN.out];exact hn),HB1.out⟩
theorem usesX (op sub a b d k:Int) (v:Value) (s t:Int) (w:World) (ho:op<1∨14<op):Calls prog 21 #[insV op sub a b d k v s t] w (retO [] w):=by
 unfold insV;have e1:(op == 1)=false:=by simp;omega
 have e2:(op == 2)=false:=by simp;omega
 have e3:(op == 3)=false:=by simp;omega
 have e4:(op == 4)=false:=by simp;omega
 have e5:(op == 5)=false:=by simp;omega
 have e6:(op == 6)=false:=by simp;omega
 have e7:(op == 7)=false:=by simp;omega
 have e8:(op == 8)=false:=by simp;omega
 have e9:(op == 9)=false:=by simp;omega
 have e10:(op == 10)=false:=by simp;omega
 have e11:(op == 11)=false:=by simp;omega
 have e12:(op == 12)=false:=by simp;omega
 have e13:(op == 13)=false:=by simp;omega
 have e14:(op == 14)=false:=by simp;omega
 clear ho
 go_enter func21,ntmps21
 go_wp2;go_ret;exact⟨_,rfl,World.ownsRow_nil _ _ _ _,by simp,(by repeat(first|with_reducible exact Below.refl _ _|with_reducible refine bel_alloc ?_ _|with_reducible refine bel_set ?_ (by first|exact Nat.le_refl _|(simp;done)|(simp;omega)) _|with_reducible refine Below.drew ?_|refine bel_trans ?_ (by assumption)))⟩
theorem rUsesO_any (op sub a b d k:Int) (v:Value) (args:List Int) (s t:Int) (w:World) (h:IL w v args):Calls prog 21 #[insV op sub a b d k v s t] w (retO (usesF op a b args) w):=by
 rcases op_cases op with rfl|rfl|rfl|rfl|rfl|rfl|rfl|rfl|rfl|rfl|rfl|rfl|rfl|rfl|ho
 ·have hu:usesF 1 a b args=[]:=by simp[usesF,useA,useB]
  rw[hu];exact uses1 sub a b d k v s t w
 ·have hu:usesF 2 a b args=[]:=by simp[usesF,useA,useB]
  rw[hu];exact uses2 sub a b d k v s t w
 ·by_cases ha:a = -1
  ·subst ha
   have hu:usesF 3 (-1) b args=[]:=by simp[usesF,useA,useB]
   rw[hu];exact uses3 sub b d k v s t w
  ·have hu:usesF 3 a b args=[a]:=by simp[usesF,useA,useB,ha]
   rw[hu];exact uses3a sub a b d k v s t w (by simpa using ha) (by simpa using ha)
 ·by_cases ha:a = -1
  ·subst ha
   have hu:usesF 4 (-1) b args=[]:=by simp[usesF,useA,useB]
   rw[hu];exact uses4 sub b d k v s t w
  ·have hu:usesF 4 a b args=[a]:=by simp[usesF,useA,useB,ha]
   rw[hu];exact uses4a sub a b d k v s t w (by simpa using ha) (by simpa using ha)
 ·by_cases ha:a = -1
  ·subst ha
   by_cases hb:b = -1
   ·subst hb
    have hu:usesF 5 (-1) (-1) args=[]:=by simp[usesF,useA,useB]
    rw[hu];exact uses5 sub d k v s t w
   ·have hu:usesF 5 (-1) b args=[b]:=by simp[usesF,useA,useB,hb]
    rw[hu];exact uses5b sub b d k v s t w (by simpa using hb) (by simpa using hb)
  ·by_cases hb:b = -1
   ·subst hb
    have hu:usesF 5 a (-1) args=[a]:=by simp[usesF,useA,useB,ha]
    rw[hu];exact uses5a sub a d k v s t w (by simpa using ha) (by simpa using ha)
   ·have hu:usesF 5 a b args=[a,b]:=by simp[usesF,useA,useB,ha,hb]
    rw[hu];exact uses5ab sub a b d k v s t w (by simpa using ha) (by simpa using ha) (by simpa using hb) (by simpa using hb)
 ·by_cases ha:a = -1
  ·subst ha
   have hu:usesF 6 (-1) b args=[]:=by simp[usesF,useA,useB]
   rw[hu];exact uses6 sub b d k v s t w
  ·have hu:usesF 6 a b args=[a]:=by simp[usesF,useA,useB,ha]
   rw[hu];exact uses6a sub a b d k v s t w (by simpa using ha) (by simpa using ha)
 ·by_cases ha:a = -1
  ·subst ha
   by_cases hb:b = -1
   ·subst hb
    have hu:usesF 7 (-1) (-1) args=[]:=by simp[usesF,useA,useB]
    rw[hu];exact uses7 sub d k v s t w
   ·have hu:usesF 7 (-1) b args=[b]:=by simp[usesF,useA,useB,hb]
    rw[hu];exact uses7b sub b d k v s t w (by simpa using hb) (by simpa using hb)
  ·by_cases hb:b = -1
   ·subst hb
    have hu:usesF 7 a (-1) args=[a]:=by simp[usesF,useA,useB,ha]
    rw[hu];exact uses7a sub a d k v s t w (by simpa using ha) (by simpa using ha)
   ·have hu:usesF 7 a b args=[a,b]:=by simp[usesF,useA,useB,ha,hb]
    rw[hu];exact uses7ab sub a b d k v s t w (by simpa using ha) (by simpa using ha) (by simpa using hb) (by simpa using hb)
 ·have hu:usesF 8 a b args=[]:=by simp[usesF,useA,useB]
  rw[hu];exact uses8 sub a b d k v s t w
 ·have hu:usesF 9 a b args=[]:=by simp[usesF,useA,useB]
  rw[hu];exact uses9 sub a b d k v s t w
 ·have hu:usesF 10 a b args=args:=by simp[usesF,useA,useB]
  rw[hu];obtain⟨ad,cap,rfl,h1,h0,h2⟩:=h
  cases ad with
  | none =>
   obtain⟨rfl,rfl⟩:=h0 rfl;exact uses10n sub a b d k s t w
  | some ad =>
   refine uses10s sub a b d k ad _ cap args s t w rfl h1 (fun i x hx=>?_);obtain⟨b',off,e,hc⟩:=h2 (fun e=>by rw[e] at hx;simp at hx)
   cases e
   rw[Addr.add_mid];exact hc i x hx
 ·by_cases ha:a = -1
  ·subst ha
   by_cases hb:b = -1
   ·subst hb
    have hu:usesF 11 (-1) (-1) args=[]:=by simp[usesF,useA,useB]
    rw[hu];exact uses11 sub d k v s t w
   ·have hu:usesF 11 (-1) b args=[b]:=by simp[usesF,useA,useB,hb]
    rw[hu];exact uses11b sub b d k v s t w (by simpa using hb) (by simpa using hb)
  ·by_cases hb:b = -1
   ·subst hb
    have hu:usesF 11 a (-1) args=[a]:=by simp[usesF,useA,useB,ha]
    rw[hu];exact uses11a sub a d k v s t w (by simpa using ha) (by simpa using ha)
   ·have hu:usesF 11 a b args=[a,b]:=by simp[usesF,useA,useB,ha,hb]
    rw[hu];exact uses11ab sub a b d k v s t w (by simpa using ha) (by simpa using ha) (by simpa using hb) (by simpa using hb)
 ·by_cases ha:a = -1
  ·subst ha
   have hu:usesF 12 (-1) b args=[]:=by simp[usesF,useA,useB]
   rw[hu];exact uses12 sub b d k v s t w
  ·have hu:usesF 12 a b args=[a]:=by simp[usesF,useA,useB,ha]
   rw[hu];exact uses12a sub a b d k v s t w (by simpa using ha) (by simpa using ha)
 ·have hu:usesF 13 a b args=[]:=by simp[usesF,useA,useB]
  rw[hu];exact uses13 sub a b d k v s t w
 ·by_cases ha:a = -1
  ·subst ha
   have hu:usesF 14 (-1) b args=[]:=by simp[usesF,useA,useB]
   rw[hu];exact uses14 sub b d k v s t w
  ·have hu:usesF 14 a b args=[a]:=by simp[usesF,useA,useB,ha]
   rw[hu];exact uses14a sub a b d k v s t w (by simpa using ha) (by simpa using ha)
 ·have hu:usesF op a b args=[]:=by
   have h1:useA op=false:=by unfold useA;rw[decide_eq_false_iff_not];simp;omega
   have h2:useB op=false:=by unfold useB;rw[decide_eq_false_iff_not];simp;omega
   have h3:¬ op=10:=by omega
   simp[usesF,h1,h2,h3]
  rw[hu];exact usesX op sub a b d k v s t w ho
theorem rUses_any (op sub a b d k:Int) (v:Value) (args:List Int) (s t:Int) (w:World) (h:IL w v args):Calls prog 21 #[insV op sub a b d k v s t] w (retI (usesF op a b args) w):=(rUsesO_any op sub a b d k v args s t w h).mono fun _ _ h=>h.list
def InsAt (w:World) (b off:Nat) (i:Ins):Prop:=∃ v,IL w v i.args∧w.cell? ⟨b,off,none⟩=some (.int .i64 i.op)∧w.cell? ⟨b,off+1,none⟩=some (.int .i64 i.sub)∧w.cell? ⟨b,off+2,none⟩=some (.int .i64 i.a)∧w.cell? ⟨b,off+3,none⟩=some (.int .i64 i.b) ∧
 w.cell? ⟨b,off+4,none⟩=some (.int .i64 i.d)∧w.cell? ⟨b,off+5,none⟩=some (.int .i64 i.k)∧w.cell? ⟨b,off+6,none⟩=some v∧w.cell? ⟨b,off+7,none⟩=some (.int .i64 i.s)∧w.cell? ⟨b,off+8,none⟩=some (.int .i64 i.t)
def CodeAt (w:World) (v:Value) (l:List Ins):Prop:=∃ (a:Option Addr) (cap:Nat),v=.slice a l.length cap∧l.length * 88≤140737488355328∧(a=none→l=[]∧cap=0)∧(l≠[]→∃ b off:Nat,a=some ⟨b,off,none⟩∧∀ (i:Nat) (x:Ins),l[i]? = some x→InsAt w b (off+i * 9) x)
def FnAt (w:World) (b off:Nat) (f:Fn):Prop:=∃ pv cv,IL w pv f.params∧CodeAt w cv f.code∧f.name.size≤140737488355328∧w.cell? ⟨b,off,none⟩=some (.string f.name)∧w.cell? ⟨b,off+1,none⟩=some pv∧w.cell? ⟨b,off+2,none⟩=some (.int .i64 f.regs)∧w.cell? ⟨b,off+3,none⟩=some (.int .i64 f.frame) ∧
 w.cell? ⟨b,off+4,none⟩=some (.int .i64 f.entry)∧w.cell? ⟨b,off+5,none⟩=some cv
def FnsAt (w:World) (v:Value) (l:List Fn):Prop:=∃ (a:Option Addr) (cap:Nat),v=.slice a l.length cap∧l.length * 88≤140737488355328∧(a=none→l=[]∧cap=0)∧(l≠[]→∃ b off:Nat,a=some ⟨b,off,none⟩∧∀ (i:Nat) (x:Fn),l[i]? = some x→FnAt w b (off+i * 6) x)
def FnV (w:World) (v:Value) (f:Fn):Prop:=∃ pv cv,v=.agg #[.string f.name,pv,.int .i64 f.regs,.int .i64 f.frame,.int .i64 f.entry,cv]∧IL w pv f.params∧CodeAt w cv f.code∧f.name.size≤140737488355328
def PgV (w:World) (v:Value) (p:Pg):Prop:=∃ gv fv,v=.agg #[gv,fv,.int .i64 p.main]∧IL w gv p.globals∧FnsAt w fv p.funcs
theorem InsAt.keep {w w':World} {b off:Nat} {i:Ins} (h:InsAt w b off i) (hb:Below w.heap.size w w'):InsAt w' b off i:=by
 obtain⟨v,h0,h1,h2,h3,h4,h5,h6,h7,h8,h9⟩:=h;exact⟨v,h0.keep hb,keep_cell hb h1,keep_cell hb h2,keep_cell hb h3,keep_cell hb h4,keep_cell hb h5,keep_cell hb h6,keep_cell hb h7,keep_cell hb h8,keep_cell hb h9⟩
theorem CodeAt.keep {w w':World} {v:Value} {l:List Ins} (h:CodeAt w v l) (hb:Below w.heap.size w w'):CodeAt w' v l:=by
 obtain⟨a,cap,hv,h1,h0,h2⟩:=h;refine⟨a,cap,hv,h1,h0,fun hl=>?_⟩;obtain⟨b,off,e,hc⟩:=h2 hl;exact⟨b,off,e,fun i x hx=>(hc i x hx).keep hb⟩
theorem FnAt.keep {w w':World} {b off:Nat} {f:Fn} (h:FnAt w b off f) (hb:Below w.heap.size w w'):FnAt w' b off f:=by
 obtain⟨pv,cv,h0,h1,h2,h3,h4,h5,h6,h7,h8⟩:=h;exact⟨pv,cv,h0.keep hb,h1.keep hb,h2,keep_cell hb h3,keep_cell hb h4,keep_cell hb h5,keep_cell hb h6,keep_cell hb h7,keep_cell hb h8⟩
theorem FnsAt.keep {w w':World} {v:Value} {l:List Fn} (h:FnsAt w v l) (hb:Below w.heap.size w w'):FnsAt w' v l:=by
 obtain⟨a,cap,hv,h1,h0,h2⟩:=h;refine⟨a,cap,hv,h1,h0,fun hl=>?_⟩;obtain⟨b,off,e,hc⟩:=h2 hl;exact⟨b,off,e,fun i x hx=>(hc i x hx).keep hb⟩
theorem FnV.keep {w w':World} {v:Value} {f:Fn} (h:FnV w v f) (hb:Below w.heap.size w w'):FnV w' v f:=by
 obtain⟨pv,cv,hv,h0,h1,h2⟩:=h;exact⟨pv,cv,hv,h0.keep hb,h1.keep hb,h2⟩
theorem PgV.keep {w w':World} {v:Value} {p:Pg} (h:PgV w v p) (hb:Below w.heap.size w w'):PgV w' v p:=by
 obtain⟨gv,fv,hv,h0,h1⟩:=h;exact⟨gv,fv,hv,h0.keep hb,h1.keep hb⟩
end Go.Proofs.YtaimifnppackgaaGreatDoor
