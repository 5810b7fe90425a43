import Derived.Test.YtaimifnppackgaaGreatDoorOzA
namespace Go.Proofs.YtaimifnppackgaaGreatDoor
open Go.ChangeShapes Go.WideShapes Go.ChangeAt Go.RowKit Go.Proofs.Tryz
set_option linter.unusedSimpArgs false
set_option linter.unusedVariables false
set_option maxHeartbeats 4000000
def wrOps:List Int:=[2,3,4,5,6,8,9,10,13]
def writesF (op d:Int):Int:=if op∈wrOps then d else -1
theorem op_cases (op:Int):op=1∨op=2∨op=3∨op=4∨op=5∨op=6∨op=7∨op=8∨op=9∨op=10∨op=11∨op=12∨op=13∨op=14∨(op<1∨14<op):=by omega
theorem rWrites_any (op sub a b d k:Int) (v:Value) (s t:Int) (w:World):Calls prog 9 #[insV op sub a b d k v s t] w (retP (.int .i64 (writesF op d)) w):=by
 unfold insV
 rcases op_cases op with rfl|rfl|rfl|rfl|rfl|rfl|rfl|rfl|rfl|rfl|rfl|rfl|rfl|rfl|ho
 ·go_enter func9,ntmps9
  go_wp2;go_ret;exact⟨by first|rfl|(simp[writesF,wrOps];done),(by repeat(first|with_reducible exact Below.refl _ _|with_reducible refine bel_alloc ?_ _|with_reducible refine bel_set ?_ (by first|exact Nat.le_refl _|(simp;done)|(simp;omega)) _|with_reducible refine Below.drew ?_|refine bel_trans ?_ (by assumption)))⟩
 ·go_enter func9,ntmps9
  go_wp2;go_ret;exact⟨by first|rfl|(simp[writesF,wrOps];done),(by repeat(first|with_reducible exact Below.refl _ _|with_reducible refine bel_alloc ?_ _|with_reducible refine bel_set ?_ (by first|exact Nat.le_refl _|(simp;done)|(simp;omega)) _|with_reducible refine Below.drew ?_|refine bel_trans ?_ (by assumption)))⟩
 ·go_enter func9,ntmps9
  go_wp2;go_ret;exact⟨by first|rfl|(simp[writesF,wrOps];done),(by repeat(first|with_reducible exact Below.refl _ _|with_reducible refine bel_alloc ?_ _|with_reducible refine bel_set ?_ (by first|exact Nat.le_refl _|(simp;done)|(simp;omega)) _|with_reducible refine Below.drew ?_|refine bel_trans ?_ (by assumption)))⟩
 ·go_enter func9,ntmps9
  go_wp2;go_ret;exact⟨by first|rfl|(simp[writesF,wrOps];done),(by repeat(first|with_reducible exact Below.refl _ _|with_reducible refine bel_alloc ?_ _|with_reducible refine bel_set ?_ (by first|exact Nat.le_refl _|(simp;done)|(simp;omega)) _|with_reducible refine Below.drew ?_|refine bel_trans ?_ (by assumption)))⟩
 ·go_enter func9,ntmps9
  go_wp2;go_ret;exact⟨by first|rfl|(simp[writesF,wrOps];done),(by repeat(first|with_reducible exact Below.refl _ _|with_reducible refine bel_alloc ?_ _|with_reducible refine bel_set ?_ (by first|exact Nat.le_refl _|(simp;done)|(simp;omega)) _|with_reducible refine Below.drew ?_|refine bel_trans ?_ (by assumption)))⟩
 ·go_enter func9,ntmps9
  go_wp2;go_ret;exact⟨by first|rfl|(simp[writesF,wrOps];done),(by repeat(first|with_reducible exact Below.refl _ _|with_reducible refine bel_alloc ?_ _|with_reducible refine bel_set ?_ (by first|exact Nat.le_refl _|(simp;done)|(simp;omega)) _|with_reducible refine Below.drew ?_|refine bel_trans ?_ (by assumption)))⟩
 ·go_enter func9,ntmps9
  go_wp2;go_ret;exact⟨by first|rfl|(simp[writesF,wrOps];done),(by repeat(first|with_reducible exact Below.refl _ _|with_reducible refine bel_alloc ?_ _|with_reducible refine bel_set ?_ (by first|exact Nat.le_refl _|(simp;done)|(simp;omega)) _|with_reducible refine Below.drew ?_|refine bel_trans ?_ (by assumption)))⟩
 ·go_enter func9,ntmps9
  go_wp2;go_ret;exact⟨by first|rfl|(simp[writesF,wrOps];done),(by repeat(first|with_reducible exact Below.refl _ _|with_reducible refine bel_alloc ?_ _|with_reducible refine bel_set ?_ (by first|exact Nat.le_refl _|(simp;done)|(simp;omega)) _|with_reducible refine Below.drew ?_|refine bel_trans ?_ (by assumption)))⟩
 ·go_enter func9,ntmps9
  go_wp2;go_ret;exact⟨by first|rfl|(simp[writesF,wrOps];done),(by repeat(first|with_reducible exact Below.refl _ _|with_reducible refine bel_alloc ?_ _|with_reducible refine bel_set ?_ (by first|exact Nat.le_refl _|(simp;done)|(simp;omega)) _|with_reducible refine Below.drew ?_|refine bel_trans ?_ (by assumption)))⟩
 ·go_enter func9,ntmps9
  go_wp2;go_ret;exact⟨by first|rfl|(simp[writesF,wrOps];done),(by repeat(first|with_reducible exact Below.refl _ _|with_reducible refine bel_alloc ?_ _|with_reducible refine bel_set ?_ (by first|exact Nat.le_refl _|(simp;done)|(simp;omega)) _|with_reducible refine Below.drew ?_|refine bel_trans ?_ (by assumption)))⟩
 ·go_enter func9,ntmps9
  go_wp2;go_ret;exact⟨by first|rfl|(simp[writesF,wrOps];done),(by repeat(first|with_reducible exact Below.refl _ _|with_reducible refine bel_alloc ?_ _|with_reducible refine bel_set ?_ (by first|exact Nat.le_refl _|(simp;done)|(simp;omega)) _|with_reducible refine Below.drew ?_|refine bel_trans ?_ (by assumption)))⟩
 ·go_enter func9,ntmps9
  go_wp2;go_ret;exact⟨by first|rfl|(simp[writesF,wrOps];done),(by repeat(first|with_reducible exact Below.refl _ _|with_reducible refine bel_alloc ?_ _|with_reducible refine bel_set ?_ (by first|exact Nat.le_refl _|(simp;done)|(simp;omega)) _|with_reducible refine Below.drew ?_|refine bel_trans ?_ (by assumption)))⟩
 ·go_enter func9,ntmps9
  go_wp2;go_ret;exact⟨by first|rfl|(simp[writesF,wrOps];done),(by repeat(first|with_reducible exact Below.refl _ _|with_reducible refine bel_alloc ?_ _|with_reducible refine bel_set ?_ (by first|exact Nat.le_refl _|(simp;done)|(simp;omega)) _|with_reducible refine Below.drew ?_|refine bel_trans ?_ (by assumption)))⟩
 ·go_enter func9,ntmps9
  go_wp2;go_ret;exact⟨by first|rfl|(simp[writesF,wrOps];done),(by repeat(first|with_reducible exact Below.refl _ _|with_reducible refine bel_alloc ?_ _|with_reducible refine bel_set ?_ (by first|exact Nat.le_refl _|(simp;done)|(simp;omega)) _|with_reducible refine Below.drew ?_|refine bel_trans ?_ (by assumption)))⟩
 ·have e1:(op == 1)=false:=by simp;omega
  have e2:(op == 2)=false:=by simp;omega
  have e3:(op == 3)=false:=by simp;omega
  have e4:(op == 4)=false:=by simp;omega
  have e5:(op == 5)=false:=by simp;omega
  have e6:(op == 6)=false:=by simp;omega
  have e7:(op == 7)=false:=by simp;omega
  have e8:(op == 8)=false:=by simp;omega
  have e9:(op == 9)=false:=by simp;omega
  have e10:(op == 10)=false:=by simp;omega
  have e11:(op == 11)=false:=by simp;omega
  have e12:(op == 12)=false:=by simp;omega
  have e13:(op == 13)=false:=by simp;omega
  have e14:(op == 14)=false:=by simp;omega
  have hw:writesF op d = -1:=by unfold writesF wrOps;rw[if_neg];simp;omega
  rw[hw];clear hw ho
  go_enter func9,ntmps9
  go_wp2;go_ret;exact⟨rfl,(by repeat(first|with_reducible exact Below.refl _ _|with_reducible refine bel_alloc ?_ _|with_reducible refine bel_set ?_ (by first|exact Nat.le_refl _|(simp;done)|(simp;omega)) _|with_reducible refine Below.drew ?_|refine bel_trans ?_ (by assumption)))⟩
set_option maxHeartbeats 4000000
def retI (l:List Int) (w:World):Ending→World→Prop:=fun e w'=>∃ v,e=.returned v∧IL w' v l∧Below w.heap.size w w'
def succsF (op s t:Int):List Int:=if op=12 then [] else if op=11 then [s,t] else [s]
def needA (op:Int):Bool:=decide (op∈[3,4,5,6,7,11,14])
def needB (op:Int):Bool:=decide (op=7)
def needD (op:Int):Bool:=decide (op∈[3,4,5,6,2,8,9,13])
theorem end_T {P:Program} {fn:Func} {a:Act} {w w':World} {x y z:Bool} (hr:(results fn a.tmps).run P w'=.ok (.tuple #[.bool x,.bool y,.bool z]) w') (hd:a.defers=[]) (hb:Below w.heap.size w w') :
  bodyPost P fn (retP (.tuple #[.bool x,.bool y,.bool z]) w) .ret a w':=bodyPost_ret hr hd ⟨rfl,hb⟩
theorem IL.nil (w:World):IL w (.slice none 0 0) []:=⟨none,0,rfl,by simp,fun _=>⟨rfl,rfl⟩,fun h=>absurd rfl h⟩
theorem IL.one {w:World} {b cap:Nat} {x:Int} (h:w.cell? ⟨b,0,none⟩=some (.int .i64 x)):IL w (.slice (some ⟨b,0,none⟩) 1 cap) [x] :=
 ⟨_,cap,rfl,by simp,(fun h=>by cases h),fun _=>⟨b,0,rfl,fun i y hy=>by
  match i,hy with
  | 0,hy=>simp at hy;subst hy;exact h⟩⟩
theorem IL.two {w:World} {b cap:Nat} {x y:Int} (h:w.cell? ⟨b,0,none⟩=some (.int .i64 x)) (k:w.cell? ⟨b,1,none⟩=some (.int .i64 y)):IL w (.slice (some ⟨b,0,none⟩) 2 cap) [x,y] :=
 ⟨_,cap,rfl,by simp,(fun h=>by cases h),fun _=>⟨b,0,rfl,fun i z hz=>by
  match i,hz with
  | 0,hz=>simp at hz;subst hz;exact h
  | 1,hz=>simp at hz;subst hz;exact k⟩⟩
theorem rSuccs_any (op sub a b d k:Int) (v:Value) (s t:Int) (w:World):Calls prog 35 #[insV op sub a b d k v s t] w (retI (succsF op s t) w):=by
 unfold insV
 by_cases h12:op=12
 ·subst h12
  go_enter func35,ntmps35
  go_wp2;go_ret;exact⟨_,rfl,IL.nil _,(by repeat(first|with_reducible exact Below.refl _ _|with_reducible refine bel_alloc ?_ _|with_reducible refine bel_set ?_ (by first|exact Nat.le_refl _|(simp;done)|(simp;omega)) _|with_reducible refine Below.drew ?_|refine bel_trans ?_ (by assumption)))⟩
 ·by_cases h11:op=11
  ·subst h11
   go_enter func35,ntmps35
   go_wp2;go_ret;exact⟨_,rfl,IL.two (by simp) (by simp),(by repeat(first|with_reducible exact Below.refl _ _|with_reducible refine bel_alloc ?_ _|with_reducible refine bel_set ?_ (by first|exact Nat.le_refl _|(simp;done)|(simp;omega)) _|with_reducible refine Below.drew ?_|refine bel_trans ?_ (by assumption)))⟩
  ·have e1:(op == 12)=false:=by simpa using h12
   have e2:(op == 11)=false:=by simpa using h11
   have hs:succsF op s t=[s]:=by unfold succsF;rw[if_neg h12,if_neg h11]
   rw[hs];clear hs h11 h12
   go_enter func35,ntmps35
   go_wp2;go_ret;exact⟨_,rfl,IL.one (by simp),(by repeat(first|with_reducible exact Below.refl _ _|with_reducible refine bel_alloc ?_ _|with_reducible refine bel_set ?_ (by first|exact Nat.le_refl _|(simp;done)|(simp;omega)) _|with_reducible refine Below.drew ?_|refine bel_trans ?_ (by assumption)))⟩
theorem rNeeds_any (op sub a b d k:Int) (v:Value) (s t:Int) (w:World):Calls prog 34 #[insV op sub a b d k v s t] w (retP (.tuple #[.bool (needA op),.bool (needB op),.bool (needD op)]) w):=by
 unfold insV
 rcases op_cases op with rfl|rfl|rfl|rfl|rfl|rfl|rfl|rfl|rfl|rfl|rfl|rfl|rfl|rfl|ho
 ·go_enter func34,ntmps34
  go_wp2;exact end_T (by simp[results,results34,go_sem,needA,needB,needD]) rfl (by repeat(first|with_reducible exact Below.refl _ _|with_reducible refine bel_alloc ?_ _|with_reducible refine bel_set ?_ (by first|exact Nat.le_refl _|(simp;done)|(simp;omega)) _|with_reducible refine Below.drew ?_|refine bel_trans ?_ (by assumption)))
 ·go_enter func34,ntmps34
  go_wp2;exact end_T (by simp[results,results34,go_sem,needA,needB,needD]) rfl (by repeat(first|with_reducible exact Below.refl _ _|with_reducible refine bel_alloc ?_ _|with_reducible refine bel_set ?_ (by first|exact Nat.le_refl _|(simp;done)|(simp;omega)) _|with_reducible refine Below.drew ?_|refine bel_trans ?_ (by assumption)))
 ·go_enter func34,ntmps34
  go_wp2;exact end_T (by simp[results,results34,go_sem,needA,needB,needD]) rfl (by repeat(first|with_reducible exact Below.refl _ _|with_reducible refine bel_alloc ?_ _|with_reducible refine bel_set ?_ (by first|exact Nat.le_refl _|(simp;done)|(simp;omega)) _|with_reducible refine Below.drew ?_|refine bel_trans ?_ (by assumption)))
 ·go_enter func34,ntmps34
  go_wp2;exact end_T (by simp[results,results34,go_sem,needA,needB,needD]) rfl (by repeat(first|with_reducible exact Below.refl _ _|with_reducible refine bel_alloc ?_ _|with_reducible refine bel_set ?_ (by first|exact Nat.le_refl _|(simp;done)|(simp;omega)) _|with_reducible refine Below.drew ?_|refine bel_trans ?_ (by assumption)))
 ·go_enter func34,ntmps34
  go_wp2;exact end_T (by simp[results,results34,go_sem,needA,needB,needD]) rfl (by repeat(first|with_reducible exact Below.refl _ _|with_reducible refine bel_alloc ?_ _|with_reducible refine bel_set ?_ (by first|exact Nat.le_refl _|(simp;done)|(simp;omega)) _|with_reducible refine Below.drew ?_|refine bel_trans ?_ (by assumption)))
 ·go_enter func34,ntmps34
  go_wp2;exact end_T (by simp[results,results34,go_sem,needA,needB,needD]) rfl (by repeat(first|with_reducible exact Below.refl _ _|with_reducible refine bel_alloc ?_ _|with_reducible refine bel_set ?_ (by first|exact Nat.le_refl _|(simp;done)|(simp;omega)) _|with_reducible refine Below.drew ?_|refine bel_trans ?_ (by assumption)))
 ·go_enter func34,ntmps34
  go_wp2;exact end_T (by simp[results,results34,go_sem,needA,needB,needD]) rfl (by repeat(first|with_reducible exact Below.refl _ _|with_reducible refine bel_alloc ?_ _|with_reducible refine bel_set ?_ (by first|exact Nat.le_refl _|(simp;done)|(simp;omega)) _|with_reducible refine Below.drew ?_|refine bel_trans ?_ (by assumption)))
 ·go_enter func34,ntmps34
  go_wp2;exact end_T (by simp[results,results34,go_sem,needA,needB,needD]) rfl (by repeat(first|with_reducible exact Below.refl _ _|with_reducible refine bel_alloc ?_ _|with_reducible refine bel_set ?_ (by first|exact Nat.le_refl _|(simp;done)|(simp;omega)) _|with_reducible refine Below.drew ?_|refine bel_trans ?_ (by assumption)))
 ·go_enter func34,ntmps34
  go_wp2;exact end_T (by simp[results,results34,go_sem,needA,needB,needD]) rfl (by repeat(first|with_reducible exact Below.refl _ _|with_reducible refine bel_alloc ?_ _|with_reducible refine bel_set ?_ (by first|exact Nat.le_refl _|(simp;done)|(simp;omega)) _|with_reducible refine Below.drew ?_|refine bel_trans ?_ (by assumption)))
 ·go_enter func34,ntmps34
  go_wp2;exact end_T (by simp[results,results34,go_sem,needA,needB,needD]) rfl (by repeat(first|with_reducible exact Below.refl _ _|with_reducible refine bel_alloc ?_ _|with_reducible refine bel_set ?_ (by first|exact Nat.le_refl _|(simp;done)|(simp;omega)) _|with_reducible refine Below.drew ?_|refine bel_trans ?_ (by assumption)))
 ·go_enter func34,ntmps34
  go_wp2;exact end_T (by simp[results,results34,go_sem,needA,needB,needD]) rfl (by repeat(first|with_reducible exact Below.refl _ _|with_reducible refine bel_alloc ?_ _|with_reducible refine bel_set ?_ (by first|exact Nat.le_refl _|(simp;done)|(simp;omega)) _|with_reducible refine Below.drew ?_|refine bel_trans ?_ (by assumption)))
 ·go_enter func34,ntmps34
  go_wp2;exact end_T (by simp[results,results34,go_sem,needA,needB,needD]) rfl (by repeat(first|with_reducible exact Below.refl _ _|with_reducible refine bel_alloc ?_ _|with_reducible refine bel_set ?_ (by first|exact Nat.le_refl _|(simp;done)|(simp;omega)) _|with_reducible refine Below.drew ?_|refine bel_trans ?_ (by assumption)))
 ·go_enter func34,ntmps34
  go_wp2;exact end_T (by simp[results,results34,go_sem,needA,needB,needD]) rfl (by repeat(first|with_reducible exact Below.refl _ _|with_reducible refine bel_alloc ?_ _|with_reducible refine bel_set ?_ (by first|exact Nat.le_refl _|(simp;done)|(simp;omega)) _|with_reducible refine Below.drew ?_|refine bel_trans ?_ (by assumption)))
 ·go_enter func34,ntmps34
  go_wp2;exact end_T (by simp[results,results34,go_sem,needA,needB,needD]) rfl (by repeat(first|with_reducible exact Below.refl _ _|with_reducible refine bel_alloc ?_ _|with_reducible refine bel_set ?_ (by first|exact Nat.le_refl _|(simp;done)|(simp;omega)) _|with_reducible refine Below.drew ?_|refine bel_trans ?_ (by assumption)))
 ·have e1:(op == 1)=false:=by simp;omega
  have e2:(op == 2)=false:=by simp;omega
  have e3:(op == 3)=false:=by simp;omega
  have e4:(op == 4)=false:=by simp;omega
  have e5:(op == 5)=false:=by simp;omega
  have e6:(op == 6)=false:=by simp;omega
  have e7:(op == 7)=false:=by simp;omega
  have e8:(op == 8)=false:=by simp;omega
  have e9:(op == 9)=false:=by simp;omega
  have e10:(op == 10)=false:=by simp;omega
  have e11:(op == 11)=false:=by simp;omega
  have e12:(op == 12)=false:=by simp;omega
  have e13:(op == 13)=false:=by simp;omega
  have e14:(op == 14)=false:=by simp;omega
  have h1:needA op=false:=by unfold needA;rw[decide_eq_false_iff_not];simp;omega
  have h2:needB op=false:=by unfold needB;rw[decide_eq_false_iff_not];omega
  have h3:needD op=false:=by unfold needD;rw[decide_eq_false_iff_not];simp;omega
  rw[h1,h2,h3];clear h1 h2 h3 ho
  go_enter func34,ntmps34
  go_wp2;exact end_T (by simp[results,results34,go_sem]) rfl (by repeat(first|with_reducible exact Below.refl _ _|with_reducible refine bel_alloc ?_ _|with_reducible refine bel_set ?_ (by first|exact Nat.le_refl _|(simp;done)|(simp;omega)) _|with_reducible refine Below.drew ?_|refine bel_trans ?_ (by assumption)))
end Go.Proofs.YtaimifnppackgaaGreatDoor
