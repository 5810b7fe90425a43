import Derived.Test.YtaimifnppackgaaGreatDoorOzQ
import Derived.Deep.Slices
import Derived.Deep.SlicePairs
import Derived.Deep.Strs
import Derived.OpenShut
namespace Go.Proofs.YtaimifnppackgaaGreatDoor
open Go.ChangeShapes Go.WideShapes Go.ChangeAt Go.RowKit Go.Proofs.Tryz
set_option linter.all false
set_option maxRecDepth 100000
set_option maxHeartbeats 32000000
theorem optDead_good (w:World) (fname:ByteArray) (pa ca:Option Addr) (pn pc N cap R:Nat) (frm ent:Int) (cb co:Nat) (code:List Ins) (PC:List Ins→Prop) (GP0:List Ins→World→Value→Prop) (hN0:0<N) (hNn:N≤100000) (hR:R≤1000000) (hq0:decide ((50:Int)<N)=false) (hq1:decide ((30:Int)<R)=false) (HCA:Hid (ca=some ⟨cb,co,none⟩)) (HN:Hid (code.length=N)) (HIN:Hid (∀ (i:Nat) y,code[i]? = some y→InsAt w cb (co+i*9) y)) (HCUR0:Hid (∀ c',PC c'→Cur code c')) (HSX0:Hid (∀ c',PC c'→∀ x∈c',∀ y∈sxF x,0≤y∧y<N))
  (HASK0:Hid (∀ c',PC c'→∀ (n q:Nat) x,c'[n]? = some x→x.op∈pureOps→writesF x.op x.d=(q:Int)→q<R∧∃ s:Nat,s<N∧(s:Int)∈sxF x∧LvR c' q s)) (HWP:Hid (∀ (n:Nat) y,code[n]? = some y→y.op∈pureOps→0≤writesF y.op y.d))
  (HA:Hid (∀ W,Below w.heap.size w W→Calls prog 4 #[] W (retP (.bool true) W)))
  (HGK0:Hid (∀ c' W W' v,GP0 c' W v→Below W.heap.size W W'→GP0 c' W' v)) (HGI0:Hid (∀ c' W v,GP0 c' W v→∃ (qa qd:Option Addr) (qn qc qe gb go:Nat),v=.agg #[.string fname,.slice qa qn qc,.int .i64 (R:Int),.int .i64 frm,.int .i64 ent,.slice qd N qe]∧qd=some ⟨gb,go,none⟩∧∀ (i:Nat) x,c'[i]? = some x→InsAt W gb (go+i*9) x))
  (HDE:Hid (∀ W,Below w.heap.size w W→Calls prog 5 #[.agg #[.string fname,.slice pa pn pc,.int .i64 (R:Int),.int .i64 frm,.int .i64 ent,.slice ca N cap]] W fun e W'=>∃ v c',e=.returned (.tuple #[v,.int .i64 0])∧PC c'∧GP0 c' W' v∧Below W.heap.size W W'))
  (HDG0:Hid (∀ c' W v,PC c'→Below w.heap.size w W→GP0 c' W v→Calls prog 5 #[v] W fun e W'=>∃ v',e=.returned (.tuple #[v',.int .i64 0])∧GP0 c' W' v'∧Below W.heap.size W W'))
  (HRR:Hid (∀ W,Below w.heap.size w W→Calls prog 6 #[.agg #[.string fname,.slice pa pn pc,.int .i64 (R:Int),.int .i64 frm,.int .i64 ent,.slice ca N cap]] W (retP (.bool true) W))) (HRG0:Hid (∀ c' W v,PC c'→GP0 c' W v→Calls prog 6 #[v] W (retP (.bool true) W)))
  (HSF0:Hid (∀ c' W v v',GP0 c' W v→GP0 c' W v'→Calls prog 7 #[v,v'] W (retP (.bool true) W))) (HLG0:Hid (∀ c' W v,PC c'→GP0 c' W v→Calls prog 8 #[v] W (retT N R (LvR c') W))) :
  Calls prog 3 #[.agg #[.string fname,.slice pa pn pc,.int .i64 (R:Int),.int .i64 frm,.int .i64 ent,.slice ca N cap]] w (retP (.bool true) w):=by
 obtain rfl:=HCA.out;have hNm:(N:Int)≤9223372036854775807:=by omega
 have q0n:decide (50<N)=false:=by simp at hq0 ⊢;omega
 go_enter func3,ntmps3
 go_upto_region 5 with (go_at_call 4;refine(HA.out _ (by repeat(first|(with_reducible first|exact Below.refl _ _|refine bel_alloc ?_ _|refine bel_set ?_ (by first|exact Nat.le_refl _|(simp;done)|(simp;omega)) _|refine Below.drew ?_)|refine bel_trans ?_ (by assumption)))).mono ?_;rintro e w1 ⟨rfl,hb1⟩;have HB1:Hid (Below w.heap.size w w1):=bel_trans (bel_alloc (Below.refl _ _) _) hb1;have hfb1:=xkeep_heap hb1 (xheap_new w (.cells #[.string fname,.slice pa pn pc,.int .i64 (R:Int),.int .i64 frm,.int .i64 ent,.slice (some ⟨cb,co,none⟩) N cap] 25 (0,0)));have f0:=xheap_cell (o:=0) hfb1 rfl;have f1:=xheap_cell (o:=1) hfb1 rfl;have f2:=xheap_cell (o:=2) hfb1 rfl;have f3:=xheap_cell (o:=3) hfb1 rfl;have f4:=xheap_cell (o:=4) hfb1 rfl;have f5:=xheap_cell (o:=5) hfb1 rfl;have HFB1:=hidF hfb1;clear hb1 hfb1)
 have HDE1:Hid (Calls prog 5 #[.agg #[.string fname,.slice pa pn pc,.int .i64 (R:Int),.int .i64 frm,.int .i64 ent,.slice (some ⟨cb,co,none⟩) N cap]] w1 fun e W'=>∃ (qa qd:Option Addr) (qn qc qe:Nat) (c':List Ins),e=.returned (.tuple #[.agg #[.string fname,.slice qa qn qc,.int .i64 (R:Int),.int .i64 frm,.int .i64 ent,.slice qd N qe],.int .i64 0])∧PC c'∧GP0 c' W' (.agg #[.string fname,.slice qa qn qc,.int .i64 (R:Int),.int .i64 frm,.int .i64 ent,.slice qd N qe])∧Below w1.heap.size w1 W'):=(HDE.out w1 HB1.out).mono fun e W' h=>by
  obtain⟨v,c',h1,hp,h2,h3⟩:=h;obtain⟨qa,qd,qn,qc,qe,_,_,rfl,_⟩:=HGI0.out c' W' v h2;exact⟨qa,qd,qn,qc,qe,c',h1,hp,h2,h3⟩
 go_upto_region 6 with (go_at_call 5;refine HDE1.out.mono ?_;rintro e W2 ⟨qa,qd,qn,qc,qe,c',rfl,hpc,hg2,hb2⟩;have HPC:=hidF hpc;clear hpc;have HB2:Hid (Below w.heap.size w W2):=bel_trans HB1.out hb2;have HFB2:=hidF (xkeep_heap hb2 HFB1.out);have HG2:=hidF hg2;clear hb2 hg2 f0 f1 f2 f3 f4 f5)
 have HCUR:Hid (Cur code c'):=HCUR0.out c' HPC.out;have HSX:Hid (∀ x∈c',∀ y∈sxF x,0≤y∧y<N):=HSX0.out c' HPC.out;have HASK:Hid (∀ (n q:Nat) x,c'[n]? = some x→x.op∈pureOps→writesF x.op x.d=(q:Int)→q<R∧∃ s:Nat,s<N∧(s:Int)∈sxF x∧LvR c' q s):=HASK0.out c' HPC.out;have HGK:Hid (∀ W W' v,GP0 c' W v→Below W.heap.size W W'→GP0 c' W' v):=HGK0.out c';have HGI:Hid (∀ W v,GP0 c' W v→∃ (qa qd:Option Addr) (qn qc qe gb go:Nat),v=.agg #[.string fname,.slice qa qn qc,.int .i64 (R:Int),.int .i64 frm,.int .i64 ent,.slice qd N qe]∧qd=some ⟨gb,go,none⟩∧∀ (i:Nat) x,c'[i]? = some x→InsAt W gb (go+i*9) x):=HGI0.out c';have HDG:Hid (∀ W v,Below w.heap.size w W→GP0 c' W v→Calls prog 5 #[v] W fun e W'=>∃ v',e=.returned (.tuple #[v',.int .i64 0])∧GP0 c' W' v'∧Below W.heap.size W W'):=fun W v=>HDG0.out c' W v HPC.out;have HRG:Hid (∀ W v,GP0 c' W v→Calls prog 6 #[v] W (retP (.bool true) W)):=fun W v=>HRG0.out c' W v HPC.out;have HSF:Hid (∀ W v v',GP0 c' W v→GP0 c' W v'→Calls prog 7 #[v,v'] W (retP (.bool true) W)):=HSF0.out c';have HLG:Hid (∀ W v,GP0 c' W v→Calls prog 8 #[v] W (retT N R (LvR c') W)):=fun W v=>HLG0.out c' W v HPC.out;clear HCUR0 HSX0 HASK0 HGK0 HGI0 HDG0 HRG0 HSF0 HLG0;refine gwp_namedF (fun W=>∃ b,b=W2.heap.size∧Lw0 w #[.string fname,.slice pa pn pc,.int .i64 (R:Int),.int .i64 frm,.int .i64 ent,.slice (some ⟨cb,co,none⟩) N cap] #[.string fname,.slice qa qn qc,.int .i64 (R:Int),.int .i64 frm,.int .i64 ent,.slice qd N qe] b W∧GP0 c' W (.agg #[.string fname,.slice qa qn qc,.int .i64 (R:Int),.int .i64 frm,.int .i64 ent,.slice qd N qe])) ⟨_,rfl,⟨bel_alloc HB2.out _,xkeep_heap (bel_alloc (Below.refl _ _) _) HFB2.out,xheap_new W2 _⟩,HGK.out _ _ _ HG2.out (bel_alloc (Below.refl _ _) _)⟩ ?_;rintro W3 ⟨GB,hGB,h3,hg3⟩;rw[←hGB];have H3:=hidF h3;have HG3:=hidF hg3;have hfb:=h3.fb;have hgb:=h3.gb;have f0:=xheap_cell (o:=0) hfb rfl;have f1:=xheap_cell (o:=1) hfb rfl;have f2:=xheap_cell (o:=2) hfb rfl;have f3:=xheap_cell (o:=3) hfb rfl;have f4:=xheap_cell (o:=4) hfb rfl;have f5:=xheap_cell (o:=5) hfb rfl;have g0:=xheap_cell (o:=0) hgb rfl;have g1:=xheap_cell (o:=1) hgb rfl;have g2:=xheap_cell (o:=2) hgb rfl;have g3:=xheap_cell (o:=3) hgb rfl;have g4:=xheap_cell (o:=4) hgb rfl;have g5:=xheap_cell (o:=5) hgb rfl;clear h3 hg3 hfb hgb hGB HDE1 HDE
 go_upto_region 8 with (go_at_call 6;refine(HRR.out _ H3.out.bel).mono ?_;rintro e W4 ⟨rfl,hb4⟩;have H4:=hidF (H3.out.keep hb4);have HG4:=hidF (HGK.out _ _ _ HG3.out hb4);clear hb4 f0 f1 f2 f3 f4 f5 g0 g1 g2 g3 g4 g5)
 have hgb:=H4.out.gb;have g0:=xheap_cell (o:=0) hgb rfl;have g1:=xheap_cell (o:=1) hgb rfl;have g2:=xheap_cell (o:=2) hgb rfl;have g3:=xheap_cell (o:=3) hgb rfl;have g4:=xheap_cell (o:=4) hgb rfl;have g5:=xheap_cell (o:=5) hgb rfl;clear hgb
 have HDG1:Hid (Calls prog 5 #[.agg #[.string fname,.slice qa qn qc,.int .i64 (R:Int),.int .i64 frm,.int .i64 ent,.slice qd N qe]] W4 fun e W'=>∃ (ra rd:Option Addr) (rn rc re:Nat),e=.returned (.tuple #[.agg #[.string fname,.slice ra rn rc,.int .i64 (R:Int),.int .i64 frm,.int .i64 ent,.slice rd N re],.int .i64 0])∧GP0 c' W' (.agg #[.string fname,.slice ra rn rc,.int .i64 (R:Int),.int .i64 frm,.int .i64 ent,.slice rd N re])∧Below W4.heap.size W4 W'):=(HDG.out W4 _ H4.out.bel HG4.out).mono fun e W' h=>by
  obtain⟨v,h1,h2,h3⟩:=h;obtain⟨ra,rd,rn,rc,re,_,_,rfl,_⟩:=HGI.out W' v h2;exact⟨ra,rd,rn,rc,re,h1,h2,h3⟩
 go_upto_region 9 with (go_at_call 5;refine HDG1.out.mono ?_;rintro e W5 ⟨ra,rd,rn,rc,re,rfl,hr5,hb5⟩;have H5:=hidF (H4.out.keep hb5);have HG5:=hidF (HGK.out _ _ _ HG4.out hb5);have HR5:=hidF hr5;clear hb5 hr5 g0 g1 g2 g3 g4 g5)
 refine gwp_namedF (fun W=>∃ b,b=W5.heap.size∧Lw0 w #[.string fname,.slice pa pn pc,.int .i64 (R:Int),.int .i64 frm,.int .i64 ent,.slice (some ⟨cb,co,none⟩) N cap] #[.string fname,.slice qa qn qc,.int .i64 (R:Int),.int .i64 frm,.int .i64 ent,.slice qd N qe] GB W∧GP0 c' W (.agg #[.string fname,.slice qa qn qc,.int .i64 (R:Int),.int .i64 frm,.int .i64 ent,.slice qd N qe])∧GP0 c' W (.agg #[.string fname,.slice ra rn rc,.int .i64 (R:Int),.int .i64 frm,.int .i64 ent,.slice rd N re])∧W.heap[b]? = some (.cells #[.string fname,.slice ra rn rc,.int .i64 (R:Int),.int .i64 frm,.int .i64 ent,.slice rd N re] 25 (0,0))) ⟨_,rfl,H5.out.keep (bel_alloc (Below.refl _ _) _),HGK.out _ _ _ HG5.out (bel_alloc (Below.refl _ _) _),HGK.out _ _ _ HR5.out (bel_alloc (Below.refl _ _) _),xheap_new W5 _⟩ ?_;rintro W6 ⟨QB,hQB,h6,hg6,hr6,hqb⟩;rw[←hQB];have H6:=hidF h6;have HG6:=hidF hg6;have HR6:=hidF hr6;have HQB6:=hidF hqb;have hfb:=h6.fb;have hgb:=h6.gb;have f0:=xheap_cell (o:=0) hfb rfl;have f1:=xheap_cell (o:=1) hfb rfl;have f2:=xheap_cell (o:=2) hfb rfl;have f3:=xheap_cell (o:=3) hfb rfl;have f4:=xheap_cell (o:=4) hfb rfl;have f5:=xheap_cell (o:=5) hfb rfl;have g0:=xheap_cell (o:=0) hgb rfl;have g1:=xheap_cell (o:=1) hgb rfl;have g2:=xheap_cell (o:=2) hgb rfl;have g3:=xheap_cell (o:=3) hgb rfl;have g4:=xheap_cell (o:=4) hgb rfl;have g5:=xheap_cell (o:=5) hgb rfl;have h0:=xheap_cell (o:=0) hqb rfl;have h1:=xheap_cell (o:=1) hqb rfl;have h2:=xheap_cell (o:=2) hqb rfl;have h3:=xheap_cell (o:=3) hqb rfl;have h4:=xheap_cell (o:=4) hqb rfl;have h5:=xheap_cell (o:=5) hqb rfl;clear h6 hg6 hr6 hqb hfb hgb hQB HDG1 HDG
 go_upto_region 11 with (first|(go_at_call 6;refine(HRG.out _ _ HG6.out).mono ?_;rintro e W7 ⟨rfl,hb7⟩;have H7:=hidF (H6.out.keep hb7);have HG7:=hidF (HGK.out _ _ _ HG6.out hb7);have HR7:=hidF (HGK.out _ _ _ HR6.out hb7);replace f5:=keep_cell hb7 f5;replace g0:=keep_cell hb7 g0;replace g1:=keep_cell hb7 g1;replace g2:=keep_cell hb7 g2;replace g3:=keep_cell hb7 g3;replace g4:=keep_cell hb7 g4;replace g5:=keep_cell hb7 g5;replace h0:=keep_cell hb7 h0;replace h1:=keep_cell hb7 h1;replace h2:=keep_cell hb7 h2;replace h3:=keep_cell hb7 h3;replace h4:=keep_cell hb7 h4;replace h5:=keep_cell hb7 h5;clear hb7 f0 f1 f2 f3 f4)|(go_at_call 7;refine(HSF.out _ _ _ HG7.out HR7.out).mono ?_;rintro e W8 ⟨rfl,hb8⟩;have H8:=hidF (H7.out.keep hb8);have HG8:=hidF (HGK.out _ _ _ HG7.out hb8);replace f5:=keep_cell hb8 f5;replace g0:=keep_cell hb8 g0;replace g1:=keep_cell hb8 g1;replace g2:=keep_cell hb8 g2;replace g3:=keep_cell hb8 g3;replace g4:=keep_cell hb8 g4;replace g5:=keep_cell hb8 g5;clear hb8 h0 h1 h2 h3 h4 h5))
 obtain⟨_,qd',_,_,_,gb,go,e1,e2,hgi⟩:=HGI.out W8 _ HG8.out
 cases e1
 obtain rfl:=e2;have HGIN:=hidF hgi;clear hgi H3 HG3 H4 HG4 H5 HG5 H6 HG6 H7 HG7 HR5 HR6 HR7 HQB6
 go_upto_region 12 with (go_at_call 8;refine(HLG.out _ _ HG8.out).mono ?_;rintro e W9 ⟨LB,rb,t,rfl,htb,htt,hb9⟩;have H9:=hidF (H8.out.keep hb9);have HTB:=hidF htb;have HTT:=hidF htt;have HGIN9:Hid (∀ (i:Nat) x,c'[i]? = some x→InsAt W9 gb (go+i*9) x):=(fun i x hx=>(HGIN.out i x hx).keep hb9);replace f5:=keep_cell hb9 f5;replace g0:=keep_cell hb9 g0;replace g1:=keep_cell hb9 g1;replace g2:=keep_cell hb9 g2;replace g3:=keep_cell hb9 g3;replace g4:=keep_cell hb9 g4;replace g5:=keep_cell hb9 g5;clear htb htt hb9)
 have HFG:Hid (W9.cell? ⟨w.heap.size,5,none⟩=some (.slice (some ⟨cb,co,none⟩) N cap)∧W9.cell? ⟨GB,0,none⟩=some (.string fname)∧W9.cell? ⟨GB,1,none⟩=some (.slice qa qn qc)∧W9.cell? ⟨GB,2,none⟩=some (.int .i64 (R:Int))∧W9.cell? ⟨GB,3,none⟩=some (.int .i64 frm)∧W9.cell? ⟨GB,4,none⟩=some (.int .i64 ent)∧W9.cell? ⟨GB,5,none⟩=some (.slice (some ⟨gb,go,none⟩) N qe)):=⟨f5,g0,g1,g2,g3,g4,g5⟩;have HLBl:Hid (LB<W9.heap.size):=block_lt_of_cell (HTB.out.c 0 hN0);clear f5 g0 g1 g2 g3 g4 g5 H8 HG8 HGIN;have k5:=HFG.out.1;obtain⟨_,g0,g1,g2,g3,g4,g5⟩:=HFG.out;go_wp2
 go_loopw [8] (fun vv wz=>∃ i:Nat,i≤N∧vv=.int .i64 i∧Hid (Below W9.heap.size W9 wz)) (fun vv _=>N - (intOf vv).toNat)
 case atStart=>exact⟨0,by omega,rfl,Below.refl _ _⟩
 case round =>
  clear k5 g0 g1 g2 g3 g4 g5;obtain⟨i,hi,rfl,HBz⟩:=hrel
  rename World=>wz
  have k5:=keep_cell HBz.out HFG.out.1;have g5:=keep_cell HBz.out HFG.out.2.2.2.2.2.2
  by_cases hin:i<N
  ·have j0:(0:Int)≤i:=by omega
   have j1:(i:Int)<N:=by omega
   have hyg:=List.getElem?_eq_getElem (l:=code) (show i<code.length by rw[HN.out];exact hin)
   generalize code[i]'(by rw[HN.out];exact hin)=y at hyg
   have hxg:=List.getElem?_eq_getElem (l:=c') (show i<c'.length by rw[HCUR.out.len,HN.out];exact hin)
   generalize c'[i]'(by rw[HCUR.out.len,HN.out];exact hin)=x at hxg
   have hxy:x=y∨(x=nopI y∧y.op∈pureOps):=by
    obtain⟨x0,h0,h⟩:=HCUR.out.each hxg;rw[hyg] at h0
    cases h0
    exact h
   have HXY:=hidF hxy;have HXG:=hidF hxg;have HYG:=hidF hyg;have HIX:=hidF ((HGIN9.out i x hxg).keep HBz.out);obtain⟨xv,hxa,a0,a1,a2,a3,a4,a5,a6,a7,a8⟩:=HIX.out;obtain⟨va,vc,rfl,_⟩:=hxa.partsF;have HXA:=hidF hxa
   generalize x.args.length=vn at *
   obtain⟨yv,hya,b0,b1,b2,b3,b4,b5,b6,b7,b8⟩:=((HIN.out i y hyg).keep (bel_trans H9.out.bel HBz.out));obtain⟨ua,uc,rfl,_⟩:=hya.partsF;have HYA:=hidF hya
   generalize y.args.length=un at *
   have HYC:Hid (wz.cell? ⟨cb,co+i*9,none⟩=some (.int .i64 y.op)∧wz.cell? ⟨cb,co+i*9+1,none⟩=some (.int .i64 y.sub)∧wz.cell? ⟨cb,co+i*9+2,none⟩=some (.int .i64 y.a)∧wz.cell? ⟨cb,co+i*9+3,none⟩=some (.int .i64 y.b)∧wz.cell? ⟨cb,co+i*9+4,none⟩=some (.int .i64 y.d)∧wz.cell? ⟨cb,co+i*9+5,none⟩=some (.int .i64 y.k)∧wz.cell? ⟨cb,co+i*9+6,none⟩=some (.slice ua un uc)∧wz.cell? ⟨cb,co+i*9+7,none⟩=some (.int .i64 y.s)∧wz.cell? ⟨cb,co+i*9+8,none⟩=some (.int .i64 y.t)):=⟨b0,b1,b2,b3,b4,b5,b6,b7,b8⟩;clear hyg hxg hxy hxa hya b0 b1 b2 b3 b4 b5 b6 b7 b8
   go_upto_region 15 with fail
   go_cut [9] from 70 to 143 (fun sv w'=>sv=.pointer (some ⟨wz.heap.size,0,none⟩)∧(w'.cell? ⟨wz.heap.size,0,none⟩=some (.int .i64 x.op)∧w'.cell? ⟨wz.heap.size,1,none⟩=some (.int .i64 x.sub)∧w'.cell? ⟨wz.heap.size,2,none⟩=some (.int .i64 x.a)∧w'.cell? ⟨wz.heap.size,3,none⟩=some (.int .i64 x.b)∧w'.cell? ⟨wz.heap.size,4,none⟩=some (.int .i64 x.d)∧w'.cell? ⟨wz.heap.size,5,none⟩=some (.int .i64 x.k)∧w'.cell? ⟨wz.heap.size,6,none⟩=some (.slice va vn vc)∧w'.cell? ⟨wz.heap.size,7,none⟩=some (.int .i64 x.s)∧w'.cell? ⟨wz.heap.size,8,none⟩=some (.int .i64 x.t))∧Hid (Below wz.heap.size wz w'))
   case first =>
    go_wp2
    go_meet
    case rel=>exact⟨rfl,⟨by simp,by simp,by simp,by simp,by simp,by simp,by simp,by simp,by simp⟩,hidF (by repeat(first|(with_reducible first|exact Below.refl _ _|refine bel_alloc ?_ _|refine bel_set ?_ (by first|exact Nat.le_refl _|(simp;done)|(simp;omega)) _|refine Below.drew ?_)|refine bel_trans ?_ (by assumption)))⟩
   case rest =>
    obtain⟨rfl,⟨d0,d1,d2,d3,d4,d5,d6,d7,d8⟩,HBD⟩:=hcut
    rename World=>wd
    clear a0 a1 a2 a3 a4 a5 a6 a7 a8 k5 g5;have HWX:Hid (∀ W,Calls prog 9 #[.agg #[.int .i64 x.op,.int .i64 x.sub,.int .i64 x.a,.int .i64 x.b,.int .i64 x.d,.int .i64 x.k,.slice va vn vc,.int .i64 x.s,.int .i64 x.t]] W (retP (.int .i64 (writesF x.op x.d)) W)):=fun W=>rWrites_any x.op x.sub x.a x.b x.d x.k (.slice va vn vc) x.s x.t W;have HWY:Hid (∀ W,Calls prog 9 #[.agg #[.int .i64 y.op,.int .i64 y.sub,.int .i64 y.a,.int .i64 y.b,.int .i64 y.d,.int .i64 y.k,.slice ua un uc,.int .i64 y.s,.int .i64 y.t]] W (retP (.int .i64 (writesF y.op y.d)) W)):=fun W=>rWrites_any y.op y.sub y.a y.b y.d y.k (.slice ua un uc) y.s y.t W
    go_upto_region 17 with (go_at_call 9;refine(HWX.out _).mono ?_;rintro e we ⟨rfl,hbe⟩;have HBE:=hidF (bel_trans HBD.out hbe);replace d0:=keep_cell hbe d0;replace d1:=keep_cell hbe d1;replace d2:=keep_cell hbe d2;replace d3:=keep_cell hbe d3;replace d4:=keep_cell hbe d4;replace d5:=keep_cell hbe d5;replace d6:=keep_cell hbe d6;replace d7:=keep_cell hbe d7;replace d8:=keep_cell hbe d8;clear hbe)
    generalize hwd:writesF x.op x.d=wd at *
    have HWD:=hidF hwd;clear hwd HWX;have g:=keep_cell (bel_trans HBz.out HBE.out) HFG.out.1;clear g
    go_cut [105] from 84 to 143 (fun sv w'=>sv=.bool false∧(w'.cell? ⟨wz.heap.size,0,none⟩=some (.int .i64 x.op)∧w'.cell? ⟨wz.heap.size,1,none⟩=some (.int .i64 x.sub)∧w'.cell? ⟨wz.heap.size,2,none⟩=some (.int .i64 x.a)∧w'.cell? ⟨wz.heap.size,3,none⟩=some (.int .i64 x.b)∧w'.cell? ⟨wz.heap.size,4,none⟩=some (.int .i64 x.d)∧w'.cell? ⟨wz.heap.size,5,none⟩=some (.int .i64 x.k)∧w'.cell? ⟨wz.heap.size,6,none⟩=some (.slice va vn vc)∧w'.cell? ⟨wz.heap.size,7,none⟩=some (.int .i64 x.s)∧w'.cell? ⟨wz.heap.size,8,none⟩=some (.int .i64 x.t))∧Hid (Below wz.heap.size wz w'))
    case first =>
     by_cases hw0:0≤wd
     ·have qw:decide (0≤wd)=true:=by simpa using hw0
      by_cases h10:x.op=10
      ·have q10:(x.op != 10)=false:=by rw[h10];rfl
       clear h10 hw0;go_wp2
       go_meet
       case rel=>exact⟨rfl,⟨d0,d1,d2,d3,d4,d5,d6,d7,d8⟩,HBE⟩
      ·have q10:(x.op != 10)=true:=by simpa using h10
       by_cases h13:x.op=13
       ·have q13:(x.op != 13)=false:=by rw[h13];rfl
        clear h10 h13 hw0;go_wp2
        go_meet
        case rel=>exact⟨rfl,⟨d0,d1,d2,d3,d4,d5,d6,d7,d8⟩,HBE⟩
       ·have q13:(x.op != 13)=true:=by simpa using h13
        obtain⟨q,rfl⟩:∃ q:Nat,wd=q:=⟨wd.toNat,by omega⟩
        have hp:x.op∈pureOps:=by
         have hm:x.op∈wrOps:=by
          have h:=HWD.out;unfold writesF at h
          split at h
          ·assumption
          ·omega
         simp[wrOps] at hm;simp[pureOps]
         omega
        obtain⟨hqR,sn,hs1,hs2,hs3⟩:=HASK.out i q x HXG.out hp HWD.out;have HAN:Hid (anyF t (sxF x) q=true):=List.any_eq_true.2 ⟨(sn:Int),hs2,by simpa using (HTT.out sn q hs1 hqR).2 hs3⟩;have HBC:=hidF (Behind_walkS we fname qa qn qc frm ent R N qe gb go LB _ i (some ⟨gb,go,none⟩) x rb t hR hNn hin rfl (HIX.out.keep HBE.out) ((HTB.out.below HBz.out).below HBE.out) (hidF (by have:=HLBl.out;have:=HBz.out.size;have:=HBE.out.size;omega)) (fun y hy=>HSX.out x (List.mem_of_getElem? HXG.out) y hy));have j2:(0:Int)≤q:=by omega
        have j3:(q:Int)<R:=by omega
        obtain⟨_,g0,g1,g2,g3,g4,g5⟩:=HFG.out;replace g0:=keep_cell (bel_trans HBz.out HBE.out) g0;replace g1:=keep_cell (bel_trans HBz.out HBE.out) g1;replace g2:=keep_cell (bel_trans HBz.out HBE.out) g2;replace g3:=keep_cell (bel_trans HBz.out HBE.out) g3;replace g4:=keep_cell (bel_trans HBz.out HBE.out) g4;replace g5:=keep_cell (bel_trans HBz.out HBE.out) g5;clear h10 h13 hw0 hp hs1 hs2 hs3
        go_wp2_with (go_at_call 10;refine HBC.out.mono ?_;rintro e wf ⟨b,rfl,_,_,hmt,_,hbf⟩;have cq:=(hmt q hqR).1;rw[HAN.out] at cq;have HBF:=hidF (bel_trans HBE.out hbf);replace d0:=keep_cell hbf d0;replace d1:=keep_cell hbf d1;replace d2:=keep_cell hbf d2;replace d3:=keep_cell hbf d3;replace d4:=keep_cell hbf d4;replace d5:=keep_cell hbf d5;replace d6:=keep_cell hbf d6;replace d7:=keep_cell hbf d7;replace d8:=keep_cell hbf d8;clear hbf hmt)
        go_meet
        case rel=>exact⟨rfl,⟨d0,d1,d2,d3,d4,d5,d6,d7,d8⟩,HBF⟩
     ·have qw:decide (0≤wd)=false:=by simpa using hw0
      clear hw0;go_wp2
      go_meet
      case rel=>exact⟨rfl,⟨d0,d1,d2,d3,d4,d5,d6,d7,d8⟩,HBE⟩
    case rest =>
     clear d0 d1 d2 d3 d4 d5 d6 d7 d8;obtain⟨rfl,⟨d0,d1,d2,d3,d4,d5,d6,d7,d8⟩,HBQ⟩:=hcut
     rename World=>wq
     have k5:=keep_cell (bel_trans HBz.out HBQ.out) HFG.out.1;obtain⟨c0,c1,c2,c3,c4,c5,c6,c7,c8⟩:=HYC.out;replace c0:=keep_cell HBQ.out c0;replace c1:=keep_cell HBQ.out c1;replace c2:=keep_cell HBQ.out c2;replace c3:=keep_cell HBQ.out c3;replace c4:=keep_cell HBQ.out c4;replace c5:=keep_cell HBQ.out c5;replace c6:=keep_cell HBQ.out c6;replace c7:=keep_cell HBQ.out c7;replace c8:=keep_cell HBQ.out c8
     rcases HXY.out with e|⟨e,hp⟩
     ·subst e
      have HSI:Hid (∀ W,Below wz.heap.size wz W→Calls prog 11 #[.agg #[.int .i64 x.op,.int .i64 x.sub,.int .i64 x.a,.int .i64 x.b,.int .i64 x.d,.int .i64 x.k,.slice va vn vc,.int .i64 x.s,.int .i64 x.t],.agg #[.int .i64 x.op,.int .i64 x.sub,.int .i64 x.a,.int .i64 x.b,.int .i64 x.d,.int .i64 x.k,.slice ua un uc,.int .i64 x.s,.int .i64 x.t]] W (retP (.bool true) W)):=fun W hW=>sameI_any ⟨_,rfl,HXA.out.keep hW⟩ ⟨_,rfl,HYA.out.keep hW⟩
      cases h1:(x.op==1) with
      |true =>
       have h2:(x.op != 1)=false:=by simpa using h1
       go_upto_region 22 with fail
       refine wp_region_held_drew (S:=(fun w'=>w'.cell? ⟨wz.heap.size,0,none⟩=some (.int .i64 x.op)∧w'.cell? ⟨wz.heap.size,1,none⟩=some (.int .i64 x.sub)∧w'.cell? ⟨wz.heap.size,2,none⟩=some (.int .i64 x.a)∧w'.cell? ⟨wz.heap.size,3,none⟩=some (.int .i64 x.b)∧w'.cell? ⟨wz.heap.size,4,none⟩=some (.int .i64 x.d)∧w'.cell? ⟨wz.heap.size,5,none⟩=some (.int .i64 x.k)∧w'.cell? ⟨wz.heap.size,6,none⟩=some (.slice va vn vc)∧w'.cell? ⟨wz.heap.size,7,none⟩=some (.int .i64 x.s)∧w'.cell? ⟨wz.heap.size,8,none⟩=some (.int .i64 x.t)∧w'.cell? ⟨w.heap.size,5,none⟩=some (.slice (some ⟨cb,co,none⟩) N cap)∧w'.cell? ⟨cb,co+i*9,none⟩=some (.int .i64 x.op)∧w'.cell? ⟨cb,co+i*9+1,none⟩=some (.int .i64 x.sub)∧w'.cell? ⟨cb,co+i*9+2,none⟩=some (.int .i64 x.a)∧w'.cell? ⟨cb,co+i*9+3,none⟩=some (.int .i64 x.b)∧w'.cell? ⟨cb,co+i*9+4,none⟩=some (.int .i64 x.d)∧w'.cell? ⟨cb,co+i*9+5,none⟩=some (.int .i64 x.k)∧w'.cell? ⟨cb,co+i*9+6,none⟩=some (.slice ua un uc)∧w'.cell? ⟨cb,co+i*9+7,none⟩=some (.int .i64 x.s)∧w'.cell? ⟨cb,co+i*9+8,none⟩=some (.int .i64 x.t)∧Hid (Below wz.heap.size wz w'))) (by kernel_rfl) (⟨d0,d1,d2,d3,d4,d5,d6,d7,d8,k5,c0,c1,c2,c3,c4,c5,c6,c7,c8,hidF (Below.drew HBQ.out)⟩) (fun hH=>?_);refine wpAnyH_take (i:=0) (oi:=?oa0) (v:=?va0) ?ia0 (by kernel_rfl) (by kernel_rfl) (by kernel_rfl) ?qa0 ?ya0 hH ?_
       case ia0=>simp only[zga,zgs,zgz];rfl
       case qa0=>exact fun _ _ _ h=>h
       case ya0=>refine .inl ⟨by rfl,?_⟩;intro w' hSw;(try dsimp only at hSw);go_simp;try with_reducible rfl
       simp only[Act.put,zsa,zsz,zss];refine wpAnyH_take (i:=1) (oi:=?oa1) (v:=?va1) ?ia1 (by kernel_rfl) (by kernel_rfl) (by kernel_rfl) ?qa1 ?ya1 hH ?_
       case ia1=>simp only[zga,zgs,zgz];rfl
       case qa1=>exact fun _ _ _ h=>h
       case ya1=>refine .inl ⟨by rfl,?_⟩;intro w' hSw;(try dsimp only at hSw);go_simp;try with_reducible rfl
       simp only[Act.put,zsa,zsz,zss];refine wpAnyH_take (i:=2) (oi:=?oa2) (v:=?va2) ?ia2 (by kernel_rfl) (by kernel_rfl) (by kernel_rfl) ?qa2 ?ya2 hH ?_
       case ia2=>simp only[zga,zgs,zgz];rfl
       case qa2=>exact fun _ _ _ h=>h
       case ya2=>refine .inl ⟨by rfl,?_⟩;intro w' hSw;(try dsimp only at hSw);go_simp;try with_reducible rfl
       simp only[Act.put,zsa,zsz,zss];refine wpAnyH_take (i:=3) (oi:=?oa3) (v:=?va3) ?ia3 (by kernel_rfl) (by kernel_rfl) (by kernel_rfl) ?qa3 ?ya3 hH ?_
       case ia3=>simp only[zga,zgs,zgz];rfl
       case qa3=>exact fun _ _ _ h=>h
       case ya3=>refine .inl ⟨by rfl,?_⟩;intro w' hSw;(try dsimp only at hSw);go_simp;try with_reducible rfl
       simp only[Act.put,zsa,zsz,zss];refine wpAnyH_take (i:=4) (oi:=?oa4) (v:=?va4) ?ia4 (by kernel_rfl) (by kernel_rfl) (by kernel_rfl) ?qa4 ?ya4 hH ?_
       case ia4=>simp only[zga,zgs,zgz];rfl
       case qa4=>exact fun _ _ _ h=>h
       case ya4=>refine .inl ⟨by rfl,?_⟩;intro w' hSw;(try dsimp only at hSw);go_simp;try with_reducible rfl
       simp only[Act.put,zsa,zsz,zss];refine wpAnyH_take (i:=5) (oi:=?oa5) (v:=?va5) ?ia5 (by kernel_rfl) (by kernel_rfl) (by kernel_rfl) ?qa5 ?ya5 hH ?_
       case ia5=>simp only[zga,zgs,zgz];rfl
       case qa5=>exact fun _ _ _ h=>h
       case ya5=>refine .inl ⟨by rfl,?_⟩;intro w' hSw;(try dsimp only at hSw);go_simp;try with_reducible rfl
       simp only[Act.put,zsa,zsz,zss];refine wpAnyH_ready (rs:=[6]) (by kernel_rfl) (by simp) ?_;refine AllReadyH.cons (o:=?oa6) ?ia6 (fun K hK=>?_) AllReadyH.nil
       case ia6=>simp only[zga,zgs,zgz];rfl
       go_simp;refine(HSI.out _ hH.2.2.2.2.2.2.2.2.2.2.2.2.2.2.2.2.2.2.2.out).mono ?_;rintro e v6 ⟨rfl,hb6⟩;go_wp2_with fail
       refine hK.out _ _ (⟨keep_cell hb6 hH.1,keep_cell hb6 hH.2.1,keep_cell hb6 hH.2.2.1,keep_cell hb6 hH.2.2.2.1,keep_cell hb6 hH.2.2.2.2.1,keep_cell hb6 hH.2.2.2.2.2.1,keep_cell hb6 hH.2.2.2.2.2.2.1,keep_cell hb6 hH.2.2.2.2.2.2.2.1,keep_cell hb6 hH.2.2.2.2.2.2.2.2.1,keep_cell hb6 hH.2.2.2.2.2.2.2.2.2.1,keep_cell hb6 hH.2.2.2.2.2.2.2.2.2.2.1,keep_cell hb6 hH.2.2.2.2.2.2.2.2.2.2.2.1,keep_cell hb6 hH.2.2.2.2.2.2.2.2.2.2.2.2.1,keep_cell hb6 hH.2.2.2.2.2.2.2.2.2.2.2.2.2.1,keep_cell hb6 hH.2.2.2.2.2.2.2.2.2.2.2.2.2.2.1,keep_cell hb6 hH.2.2.2.2.2.2.2.2.2.2.2.2.2.2.2.1,keep_cell hb6 hH.2.2.2.2.2.2.2.2.2.2.2.2.2.2.2.2.1,keep_cell hb6 hH.2.2.2.2.2.2.2.2.2.2.2.2.2.2.2.2.2.1,keep_cell hb6 hH.2.2.2.2.2.2.2.2.2.2.2.2.2.2.2.2.2.2.1,hidF (bel_trans hH.2.2.2.2.2.2.2.2.2.2.2.2.2.2.2.2.2.2.2.out hb6)⟩) (fun hN=>?_);clear hK K hH;have hH:=hN;clear hN
       try simp only[Act.put,zsa,zsz,zss]
       refine wpAnyH_take (i:=7) (oi:=?oa7) (v:=?va7) ?ia7 (by kernel_rfl) (by kernel_rfl) (by kernel_rfl) ?qa7 ?ya7 hH ?_
       case ia7=>simp only[zga,zgs,zgz];rfl
       case qa7=>exact fun _ _ _ h=>h
       case ya7=>refine .inl ⟨by rfl,?_⟩;intro w' hSw;(try dsimp only at hSw);go_simp;try with_reducible rfl
       simp only[Act.put,zsa,zsz,zss];refine wpAnyH_done (by kernel_rfl) ?_ _;have HBN:=hidF (bel_trans HBz.out hH.2.2.2.2.2.2.2.2.2.2.2.2.2.2.2.2.2.2.2.out);clear hH;go_wp2
       go_roundw
       case rel=>exact⟨i+1,by omega,by simp,HBN⟩
       case measure=>simp[intOf];omega
      |false =>
       go_upto_region 22 with fail
       refine wp_region_held_drew (S:=(fun w'=>w'.cell? ⟨wz.heap.size,0,none⟩=some (.int .i64 x.op)∧w'.cell? ⟨wz.heap.size,1,none⟩=some (.int .i64 x.sub)∧w'.cell? ⟨wz.heap.size,2,none⟩=some (.int .i64 x.a)∧w'.cell? ⟨wz.heap.size,3,none⟩=some (.int .i64 x.b)∧w'.cell? ⟨wz.heap.size,4,none⟩=some (.int .i64 x.d)∧w'.cell? ⟨wz.heap.size,5,none⟩=some (.int .i64 x.k)∧w'.cell? ⟨wz.heap.size,6,none⟩=some (.slice va vn vc)∧w'.cell? ⟨wz.heap.size,7,none⟩=some (.int .i64 x.s)∧w'.cell? ⟨wz.heap.size,8,none⟩=some (.int .i64 x.t)∧w'.cell? ⟨w.heap.size,5,none⟩=some (.slice (some ⟨cb,co,none⟩) N cap)∧w'.cell? ⟨cb,co+i*9,none⟩=some (.int .i64 x.op)∧w'.cell? ⟨cb,co+i*9+1,none⟩=some (.int .i64 x.sub)∧w'.cell? ⟨cb,co+i*9+2,none⟩=some (.int .i64 x.a)∧w'.cell? ⟨cb,co+i*9+3,none⟩=some (.int .i64 x.b)∧w'.cell? ⟨cb,co+i*9+4,none⟩=some (.int .i64 x.d)∧w'.cell? ⟨cb,co+i*9+5,none⟩=some (.int .i64 x.k)∧w'.cell? ⟨cb,co+i*9+6,none⟩=some (.slice ua un uc)∧w'.cell? ⟨cb,co+i*9+7,none⟩=some (.int .i64 x.s)∧w'.cell? ⟨cb,co+i*9+8,none⟩=some (.int .i64 x.t)∧Hid (Below wz.heap.size wz w'))) (by kernel_rfl) (⟨d0,d1,d2,d3,d4,d5,d6,d7,d8,k5,c0,c1,c2,c3,c4,c5,c6,c7,c8,hidF (Below.drew HBQ.out)⟩) (fun hH=>?_);refine wpAnyH_take (i:=0) (oi:=?oib0) (v:=?vvb0) ?hib0 (by kernel_rfl) (by kernel_rfl) (by kernel_rfl) ?hqb0 ?hyb0 hH ?_
       case hib0=>simp only[zga,zgs,zgz];rfl
       case hqb0=>exact fun _ _ _ h=>h
       case hyb0=>refine .inl ⟨by rfl,?_⟩;intro w' hSw;(try dsimp only at hSw);go_simp;try with_reducible rfl
       simp only[Act.put,zsa,zsz,zss];refine wpAnyH_take (i:=1) (oi:=?oib1) (v:=?vvb1) ?hib1 (by kernel_rfl) (by kernel_rfl) (by kernel_rfl) ?hqb1 ?hyb1 hH ?_
       case hib1=>simp only[zga,zgs,zgz];rfl
       case hqb1=>exact fun _ _ _ h=>h
       case hyb1=>refine .inl ⟨by rfl,?_⟩;intro w' hSw;(try dsimp only at hSw);go_simp;try with_reducible rfl
       simp only[Act.put,zsa,zsz,zss];refine wpAnyH_take (i:=2) (oi:=?oib2) (v:=?vvb2) ?hib2 (by kernel_rfl) (by kernel_rfl) (by kernel_rfl) ?hqb2 ?hyb2 hH ?_
       case hib2=>simp only[zga,zgs,zgz];rfl
       case hqb2=>exact fun _ _ _ h=>h
       case hyb2=>refine .inl ⟨by rfl,?_⟩;intro w' hSw;(try dsimp only at hSw);go_simp;try with_reducible rfl
       simp only[Act.put,zsa,zsz,zss];refine wpAnyH_take (i:=3) (oi:=?oib3) (v:=?vvb3) ?hib3 (by kernel_rfl) (by kernel_rfl) (by kernel_rfl) ?hqb3 ?hyb3 hH ?_
       case hib3=>simp only[zga,zgs,zgz];rfl
       case hqb3=>exact fun _ _ _ h=>h
       case hyb3=>refine .inl ⟨by rfl,?_⟩;intro w' hSw;(try dsimp only at hSw);go_simp;try with_reducible rfl
       simp only[Act.put,zsa,zsz,zss];refine wpAnyH_take (i:=4) (oi:=?oib4) (v:=?vvb4) ?hib4 (by kernel_rfl) (by kernel_rfl) (by kernel_rfl) ?hqb4 ?hyb4 hH ?_
       case hib4=>simp only[zga,zgs,zgz];rfl
       case hqb4=>exact fun _ _ _ h=>h
       case hyb4=>refine .inl ⟨by rfl,?_⟩;intro w' hSw;(try dsimp only at hSw);go_simp;try with_reducible rfl
       simp only[Act.put,zsa,zsz,zss];refine wpAnyH_take (i:=5) (oi:=?oib5) (v:=?vvb5) ?hib5 (by kernel_rfl) (by kernel_rfl) (by kernel_rfl) ?hqb5 ?hyb5 hH ?_
       case hib5=>simp only[zga,zgs,zgz];rfl
       case hqb5=>exact fun _ _ _ h=>h
       case hyb5=>refine .inl ⟨by rfl,?_⟩;intro w' hSw;(try dsimp only at hSw);go_simp;try with_reducible rfl
       simp only[Act.put,zsa,zsz,zss];refine wpAnyH_ready (rs:=[6]) (by kernel_rfl) (by simp) ?_;refine AllReadyH.cons (o:=?oib6) ?hib6 (fun K hK=>?_) AllReadyH.nil
       case hib6=>simp only[zga,zgs,zgz];rfl
       go_simp;refine(HSI.out _ hH.2.2.2.2.2.2.2.2.2.2.2.2.2.2.2.2.2.2.2.out).mono ?_;rintro e v6 ⟨rfl,hb6⟩;go_wp2_with fail
       refine hK.out _ _ (⟨keep_cell hb6 hH.1,keep_cell hb6 hH.2.1,keep_cell hb6 hH.2.2.1,keep_cell hb6 hH.2.2.2.1,keep_cell hb6 hH.2.2.2.2.1,keep_cell hb6 hH.2.2.2.2.2.1,keep_cell hb6 hH.2.2.2.2.2.2.1,keep_cell hb6 hH.2.2.2.2.2.2.2.1,keep_cell hb6 hH.2.2.2.2.2.2.2.2.1,keep_cell hb6 hH.2.2.2.2.2.2.2.2.2.1,keep_cell hb6 hH.2.2.2.2.2.2.2.2.2.2.1,keep_cell hb6 hH.2.2.2.2.2.2.2.2.2.2.2.1,keep_cell hb6 hH.2.2.2.2.2.2.2.2.2.2.2.2.1,keep_cell hb6 hH.2.2.2.2.2.2.2.2.2.2.2.2.2.1,keep_cell hb6 hH.2.2.2.2.2.2.2.2.2.2.2.2.2.2.1,keep_cell hb6 hH.2.2.2.2.2.2.2.2.2.2.2.2.2.2.2.1,keep_cell hb6 hH.2.2.2.2.2.2.2.2.2.2.2.2.2.2.2.2.1,keep_cell hb6 hH.2.2.2.2.2.2.2.2.2.2.2.2.2.2.2.2.2.1,keep_cell hb6 hH.2.2.2.2.2.2.2.2.2.2.2.2.2.2.2.2.2.2.1,hidF (bel_trans hH.2.2.2.2.2.2.2.2.2.2.2.2.2.2.2.2.2.2.2.out hb6)⟩) (fun hN=>?_);clear hK K hH;have hH:=hN;clear hN
       try simp only[Act.put,zsa,zsz,zss]
       refine wpAnyH_take (i:=7) (oi:=?oib7) (v:=?vvb7) ?hib7 (by kernel_rfl) (by kernel_rfl) (by kernel_rfl) ?hqb7 ?hyb7 hH ?_
       case hib7=>simp only[zga,zgs,zgz];rfl
       case hqb7=>exact fun _ _ _ h=>h
       case hyb7=>refine .inl ⟨by rfl,?_⟩;intro w' hSw;(try dsimp only at hSw);go_simp;try with_reducible rfl
       simp only[Act.put,zsa,zsz,zss];refine wpAnyH_done (by kernel_rfl) ?_ _;have HBN:=hidF (bel_trans HBz.out hH.2.2.2.2.2.2.2.2.2.2.2.2.2.2.2.2.2.2.2.out);clear hH;go_wp2
       go_roundw
       case rel=>exact⟨i+1,by omega,by simp,HBN⟩
       case measure=>simp[intOf];omega
     ·subst e
      have hy1:(y.op != 1)=true:=by
       have:y.op≠1:=fun e=>by rw[e] at hp;revert hp;decide
       simpa using this
      have hys:(y.s != y.s)=false:=by simp
      have hysd:decide (y.s=y.s)=true:=by simp
      have e0:wq.cell? ⟨wz.heap.size,0,none⟩=some (.int .i64 1):=d0;replace d7:wq.cell? ⟨wz.heap.size,7,none⟩=some (.int .i64 y.s):=d7;have hw:=HWP.out i y HYG.out hp;clear d0 d1 d2 d3 d4 d5 d6 d8 hp
      generalize writesF y.op y.d=wd0 at *
      have qd:decide (wd0<0)=false:=by simp;omega
      clear hw
      go_upto_region 20 with fail
      refine wp_region_held_drew (S:=(fun w'=>w'.cell? ⟨wz.heap.size,7,none⟩=some (.int .i64 y.s)∧w'.cell? ⟨w.heap.size,5,none⟩=some (.slice (some ⟨cb,co,none⟩) N cap)∧w'.cell? ⟨cb,co+i*9,none⟩=some (.int .i64 y.op)∧w'.cell? ⟨cb,co+i*9+1,none⟩=some (.int .i64 y.sub)∧w'.cell? ⟨cb,co+i*9+2,none⟩=some (.int .i64 y.a)∧w'.cell? ⟨cb,co+i*9+3,none⟩=some (.int .i64 y.b)∧w'.cell? ⟨cb,co+i*9+4,none⟩=some (.int .i64 y.d)∧w'.cell? ⟨cb,co+i*9+5,none⟩=some (.int .i64 y.k)∧w'.cell? ⟨cb,co+i*9+6,none⟩=some (.slice ua un uc)∧w'.cell? ⟨cb,co+i*9+7,none⟩=some (.int .i64 y.s)∧w'.cell? ⟨cb,co+i*9+8,none⟩=some (.int .i64 y.t)∧Hid (Below wz.heap.size wz w'))) (by kernel_rfl) (⟨d7,k5,c0,c1,c2,c3,c4,c5,c6,c7,c8,hidF (Below.drew HBQ.out)⟩) (fun hH=>?_);refine wpAnyH_take (i:=0) (oi:=?oic0) (v:=?vvc0) ?hic0 (by kernel_rfl) (by kernel_rfl) (by kernel_rfl) ?hqc0 ?hyc0 hH ?_
      case hic0=>simp only[zga,zgs,zgz];rfl
      case hqc0=>exact fun _ _ _ h=>h
      case hyc0=>refine .inl ⟨by rfl,?_⟩;intro w' hSw;(try dsimp only at hSw);go_simp;try with_reducible rfl
      simp only[Act.put,zsa,zsz,zss];refine wpAnyH_take (i:=1) (oi:=?oic1) (v:=?vvc1) ?hic1 (by kernel_rfl) (by kernel_rfl) (by kernel_rfl) ?hqc1 ?hyc1 hH ?_
      case hic1=>simp only[zga,zgs,zgz];rfl
      case hqc1=>exact fun _ _ _ h=>h
      case hyc1=>refine .inl ⟨by rfl,?_⟩;intro w' hSw;(try dsimp only at hSw);go_simp;try with_reducible rfl
      simp only[Act.put,zsa,zsz,zss];refine wpAnyH_take (i:=2) (oi:=?oic2) (v:=?vvc2) ?hic2 (by kernel_rfl) (by kernel_rfl) (by kernel_rfl) ?hqc2 ?hyc2 hH ?_
      case hic2=>simp only[zga,zgs,zgz];rfl
      case hqc2=>exact fun _ _ _ h=>h
      case hyc2=>refine .inl ⟨by rfl,?_⟩;intro w' hSw;(try dsimp only at hSw);go_simp;try with_reducible rfl
      simp only[Act.put,zsa,zsz,zss];refine wpAnyH_take (i:=3) (oi:=?oic3) (v:=?vvc3) ?hic3 (by kernel_rfl) (by kernel_rfl) (by kernel_rfl) ?hqc3 ?hyc3 hH ?_
      case hic3=>simp only[zga,zgs,zgz];rfl
      case hqc3=>exact fun _ _ _ h=>h
      case hyc3=>refine .inl ⟨by rfl,?_⟩;intro w' hSw;(try dsimp only at hSw);go_simp;try with_reducible rfl
      simp only[Act.put,zsa,zsz,zss];refine wpAnyH_take (i:=4) (oi:=?oic4) (v:=?vvc4) ?hic4 (by kernel_rfl) (by kernel_rfl) (by kernel_rfl) ?hqc4 ?hyc4 hH ?_
      case hic4=>simp only[zga,zgs,zgz];rfl
      case hqc4=>exact fun _ _ _ h=>h
      case hyc4=>refine .inl ⟨by rfl,?_⟩;intro w' hSw;(try dsimp only at hSw);go_simp;try with_reducible rfl
      simp only[Act.put,zsa,zsz,zss];refine wpAnyH_take (i:=5) (oi:=?oic5) (v:=?vvc5) ?hic5 (by kernel_rfl) (by kernel_rfl) (by kernel_rfl) ?hqc5 ?hyc5 hH ?_
      case hic5=>simp only[zga,zgs,zgz];rfl
      case hqc5=>exact fun _ _ _ h=>h
      case hyc5=>refine .inl ⟨by rfl,?_⟩;intro w' hSw;(try dsimp only at hSw);go_simp;try with_reducible rfl
      simp only[Act.put,zsa,zsz,zss];refine wpAnyH_take (i:=6) (oi:=?oic6) (v:=?vvc6) ?hic6 (by kernel_rfl) (by kernel_rfl) (by kernel_rfl) ?hqc6 ?hyc6 hH ?_
      case hic6=>simp only[zga,zgs,zgz];rfl
      case hqc6=>exact fun _ _ _ h=>h
      case hyc6=>refine .inl ⟨by rfl,?_⟩;intro w' hSw;(try dsimp only at hSw);go_simp;try with_reducible rfl
      simp only[Act.put,zsa,zsz,zss];refine wpAnyH_take (i:=7) (oi:=?oic7) (v:=?vvc7) ?hic7 (by kernel_rfl) (by kernel_rfl) (by kernel_rfl) ?hqc7 ?hyc7 hH ?_
      case hic7=>simp only[zga,zgs,zgz];rfl
      case hqc7=>exact fun _ _ _ h=>h
      case hyc7=>refine .inl ⟨by rfl,?_⟩;intro w' hSw;(try dsimp only at hSw);go_simp;try with_reducible rfl
      simp only[Act.put,zsa,zsz,zss];refine wpAnyH_take (i:=8) (oi:=?oic8) (v:=?vvc8) ?hic8 (by kernel_rfl) (by kernel_rfl) (by kernel_rfl) ?hqc8 ?hyc8 hH ?_
      case hic8=>simp only[zga,zgs,zgz];rfl
      case hqc8=>exact fun _ _ _ h=>h
      case hyc8=>refine .inl ⟨by rfl,?_⟩;intro w' hSw;(try dsimp only at hSw);go_simp;try with_reducible rfl
      simp only[Act.put,zsa,zsz,zss];refine wpAnyH_take (i:=9) (oi:=?oic9) (v:=?vvc9) ?hic9 (by kernel_rfl) (by kernel_rfl) (by kernel_rfl) ?hqc9 ?hyc9 hH ?_
      case hic9=>simp only[zga,zgs,zgz];rfl
      case hqc9=>exact fun _ _ _ h=>h
      case hyc9=>refine .inl ⟨by rfl,?_⟩;intro w' hSw;(try dsimp only at hSw);go_simp;try with_reducible rfl
      simp only[Act.put,zsa,zsz,zss];refine wpAnyH_take (i:=10) (oi:=?oic10) (v:=?vvc10) ?hic10 (by kernel_rfl) (by kernel_rfl) (by kernel_rfl) ?hqc10 ?hyc10 hH ?_
      case hic10=>simp only[zga,zgs,zgz];rfl
      case hqc10=>exact fun _ _ _ h=>h
      case hyc10=>refine .inl ⟨by rfl,?_⟩;intro w' hSw;(try dsimp only at hSw);go_simp;try with_reducible rfl
      simp only[Act.put,zsa,zsz,zss];refine wpAnyH_take (i:=11) (oi:=?oic11) (v:=?vvc11) ?hic11 (by kernel_rfl) (by kernel_rfl) (by kernel_rfl) ?hqc11 ?hyc11 hH ?_
      case hic11=>simp only[zga,zgs,zgz];rfl
      case hqc11=>exact fun _ _ _ h=>h
      case hyc11=>refine .inl ⟨by rfl,?_⟩;intro w' hSw;(try dsimp only at hSw);go_simp;try with_reducible rfl
      simp only[Act.put,zsa,zsz,zss];refine wpAnyH_take (i:=12) (oi:=?oic12) (v:=?vvc12) ?hic12 (by kernel_rfl) (by kernel_rfl) (by kernel_rfl) ?hqc12 ?hyc12 hH ?_
      case hic12=>simp only[zga,zgs,zgz];rfl
      case hqc12=>exact fun _ _ _ h=>h
      case hyc12=>refine .inl ⟨by rfl,?_⟩;intro w' hSw;(try dsimp only at hSw);go_simp;try with_reducible rfl
      simp only[Act.put,zsa,zsz,zss];refine wpAnyH_take (i:=13) (oi:=?oic13) (v:=?vvc13) ?hic13 (by kernel_rfl) (by kernel_rfl) (by kernel_rfl) ?hqc13 ?hyc13 hH ?_
      case hic13=>simp only[zga,zgs,zgz];rfl
      case hqc13=>exact fun _ _ _ h=>h
      case hyc13=>refine .inl ⟨by rfl,?_⟩;intro w' hSw;(try dsimp only at hSw);go_simp;try with_reducible rfl
      simp only[Act.put,zsa,zsz,zss];refine wpAnyH_take (i:=14) (oi:=?oic14) (v:=?vvc14) ?hic14 (by kernel_rfl) (by kernel_rfl) (by kernel_rfl) ?hqc14 ?hyc14 hH ?_
      case hic14=>simp only[zga,zgs,zgz];rfl
      case hqc14=>exact fun _ _ _ h=>h
      case hyc14=>refine .inl ⟨by rfl,?_⟩;intro w' hSw;(try dsimp only at hSw);go_simp;try with_reducible rfl
      simp only[Act.put,zsa,zsz,zss];refine wpAnyH_ready (rs:=[15]) (by kernel_rfl) (by simp) ?_;refine AllReadyH.cons (o:=?oic15) ?hic15 (fun K hK=>?_) AllReadyH.nil
      case hic15=>simp only[zga,zgs,zgz];rfl
      go_simp;refine(HWY.out _).mono ?_;rintro e v15 ⟨rfl,hb15⟩;go_wp2_with fail
      refine hK.out _ _ (⟨keep_cell hb15 hH.1,keep_cell hb15 hH.2.1,keep_cell hb15 hH.2.2.1,keep_cell hb15 hH.2.2.2.1,keep_cell hb15 hH.2.2.2.2.1,keep_cell hb15 hH.2.2.2.2.2.1,keep_cell hb15 hH.2.2.2.2.2.2.1,keep_cell hb15 hH.2.2.2.2.2.2.2.1,keep_cell hb15 hH.2.2.2.2.2.2.2.2.1,keep_cell hb15 hH.2.2.2.2.2.2.2.2.2.1,keep_cell hb15 hH.2.2.2.2.2.2.2.2.2.2.1,hidF (bel_trans hH.2.2.2.2.2.2.2.2.2.2.2.out hb15)⟩) (fun hN=>?_);clear hK K hH;have hH:=hN;clear hN
      try simp only[Act.put,zsa,zsz,zss]
      refine wpAnyH_take (i:=16) (oi:=?oic16) (v:=?vvc16) ?hic16 (by kernel_rfl) (by kernel_rfl) (by kernel_rfl) ?hqc16 ?hyc16 hH ?_
      case hic16=>simp only[zga,zgs,zgz];rfl
      case hqc16=>exact fun _ _ _ h=>h
      case hyc16=>refine .inl ⟨by rfl,?_⟩;intro w' hSw;(try dsimp only at hSw);go_simp;try with_reducible rfl
      simp only[Act.put,zsa,zsz,zss];refine wpAnyH_take (i:=17) (oi:=?oic17) (v:=?vvc17) ?hic17 (by kernel_rfl) (by kernel_rfl) (by kernel_rfl) ?hqc17 ?hyc17 hH ?_
      case hic17=>simp only[zga,zgs,zgz];rfl
      case hqc17=>exact fun _ _ _ h=>h
      case hyc17=>refine .inl ⟨by rfl,?_⟩;intro w' hSw;(try dsimp only at hSw);go_simp;try with_reducible rfl
      simp only[Act.put,zsa,zsz,zss];refine wpAnyH_done (by kernel_rfl) ?_ _;have HBN:=hidF (bel_trans HBz.out hH.2.2.2.2.2.2.2.2.2.2.2.out);clear hH;go_wp2
      go_roundw
      case rel=>exact⟨i+1,by omega,by simp,HBN⟩
      case measure=>simp[intOf];omega
  ·obtain rfl:i=N:=by omega
   go_wp2;go_ret;exact⟨rfl,bel_trans H9.out.bel HBz.out⟩
theorem right_writes {regs frame n:Int} {y:Ins} (h0:0≤regs) (h:rightF regs frame n y=true) (hp:y.op∈pureOps):0≤writesF y.op y.d:=by
 rw[←takes_right _ _ _ _ h0] at h;obtain⟨op,sub,a,b,d,k,args,s,t⟩:=y;simp only[pureOps,List.mem_cons,List.not_mem_nil,or_false] at hp;unfold takesF at h;simp only[Bool.and_eq_true] at h;have hl:=h.2.2.2.2;unfold glastB at hl;simp only[Bool.and_eq_true] at hl;have ht:=hl.1.1
 rcases hp with rfl|rfl|rfl|rfl|rfl|rfl|rfl
 all_goals
  simp[shOf,spTab,targetB,inB] at ht;simp[writesF,wrOps]
  omega
def PCd (code c':List Ins):Prop:=Cur code c'∧∀ q n,¬ DeadAt c' q n
def GPd (fname:ByteArray) (params:List Int) (R N:Nat) (frm ent:Int) (c':List Ins) (W:World) (v:Value):Prop:=FnV W v ⟨fname,params,(R:Int),frm,ent,c'⟩∧c'.length=N
theorem gpd_parts {fname:ByteArray} {params:List Int} {R N:Nat} {frm ent:Int} {c':List Ins} {W:World} {v:Value} (h:GPd fname params R N frm ent c' W v) (hN:0<N):∃ (qa qd:Option Addr) (qn qc qe gb go:Nat),v=.agg #[.string fname,.slice qa qn qc,.int .i64 (R:Int),.int .i64 frm,.int .i64 ent,.slice qd N qe]∧qd=some ⟨gb,go,none⟩∧∀ (i:Nat) x,c'[i]? = some x→InsAt W gb (go+i*9) x:=by
 obtain⟨⟨pv,cv,rfl,hp,hc,_⟩,hl⟩:=h;obtain⟨pa,pc,rfl,_⟩:=hp.partsF;obtain⟨ca,cap,rfl,_,_,hcc⟩:=hc;obtain⟨b,off,rfl,hcx⟩:=hcc (fun e=>by have:c'=[]:=e;rw[this] at hl;simp at hl;omega);subst hl;exact⟨pa,_,_,pc,cap,b,off,rfl,rfl,hcx⟩
theorem optDead_walk (v:Value) (f:Fn) (W:World) (hf:FnV W v f) (ht:ShTab W) (hu:sumU f.code≤100000000) (HA:∀ w1,Below W.heap.size W w1→Calls prog 4 #[] w1 (retP (.bool true) w1)):Calls prog 3 #[v] W (retP (.bool true) W):=by
 have hf0:=hf;obtain⟨pa,ca,pn,pc,N,cap,rfl,hN⟩:=fnV_agg hf
 have hNb:(N:Int)≤9223372036854775807:=by
  obtain⟨_,_,_,_,⟨_,_,_,q,_⟩,_⟩:=hf0
  omega
 cases hq:(decide ((50:Int)<N)||decide (30<f.regs)) with
 |true=>exact optDead_many W f.name pa ca pn pc N cap f.regs f.frame f.entry hNb hq HA
 |false =>
  obtain⟨hq0,hq1⟩:=Bool.or_eq_false_iff.1 hq
  cases hr:RightF f with
  |false =>
   refine optDead_bad W f.name pa ca pn pc N cap f.regs f.frame f.entry hNb hq0 hq1 HA (fun V hV=>(dead_any (hf0.fits hV) (ht.keep hV) hu).mono fun e V' h=>?_) (fun V hV=>?_)
   ·unfold retTr at h
    rw[if_neg (by rw[hr];decide)] at h;exact h
   ·have:=rRight_any (hf0.fits hV)
    rw[hr] at this;exact this
  |true =>
   obtain⟨h0,h5,h5n,hri⟩:=right_parts hr;obtain⟨fname,params,regs,frm,ent,code⟩:=f;obtain⟨R,rfl⟩:∃ R:Nat,regs=R:=⟨regs.toNat,by have:0≤regs:=h0;omega⟩;have hRn:R≤1000000:=by have:(R:Int)≤5000:=h5;omega
   have hlc:code.length=N:=hN.symm;have hNn:N≤100000:=by have:code.length≤5000:=h5n;omega
   have hN0:0<N:=by
    have h:=hr;unfold RightF at h;rw[Bool.and_eq_true] at h;have h1:headL (R:Int) frm ent code.length=false:=by simpa using h.1
    unfold headL at h1;simp at h1
    omega
   obtain⟨cb,co,hca,hin⟩:∃ cb co,ca=some ⟨cb,co,none⟩∧∀ (i:Nat) y,code[i]? = some y→InsAt W cb (co+i*9) y:=by
    obtain⟨pv,cv,e,_,⟨a,cp,e2,_,_,hcc⟩,_⟩:=hf0;obtain⟨b,off,e3,hcx⟩:=hcc (fun e=>by have:code=[]:=e;rw[this] at hlc;simp at hlc;omega);rw[e2] at e
    injection e with e4
    have e5:=congrArg (fun (xs:Array Value)=>xs[5]?) e4;simp at e5;exact⟨b,off,by rw[e5.1,e3],hcx⟩
   -- what holds of every code that Dead may leave
   have hrc:∀ c',PCd code c'→RightF ⟨fname,params,(R:Int),frm,ent,c'⟩=true:=fun c' h=>cur_right hr h.1
   have hokc:∀ c',PCd code c'→CodeOkS R N c':=fun c' h=>by
    have q:=codeOkS_of (hrc c' h) (Nat.le_trans (cur_sum h.1) hu);simp only[Int.toNat_natCast] at q;have e:c'.length=N:=by rw[h.1.len];exact hlc
    rw[e] at q;exact q
   have heq:∀ c',PCd code c'→∀ x∈c',usX x=usR x∧wrX x=wrR x:=fun c' h x hx=>by
    obtain⟨q0,_,_,q⟩:=right_parts (hrc c' h);exact⟨us_eq q0 (q x hx),wr_eq q0 (q x hx)⟩
   have hlen:∀ c',PCd code c'→c'.length=N:=fun c' h=>by rw[h.1.len];exact hlc
   refine optDead_good W fname pa ca pn pc N cap R frm ent cb co code (PCd code) (GPd fname params R N frm ent) hN0 hNn hRn hq0 hq1 hca hlc hin (fun c' h=>h.1) (fun c' h=>(hokc c' h).sx) (fun c' h n q x hx hp hw=>?_) (fun n y hy hp=>right_writes h0 (hri y (List.mem_of_getElem? hy)) hp) HA
    (fun c' V V' v h hb=>⟨h.1.fits hb,h.2⟩) (fun c' V v h=>gpd_parts h hN0) (fun V hV=>(dead_any (hf0.fits hV) (ht.keep hV) hu).mono fun e V' h=>?_) (fun c' V v hp hV h=>(dead_any h.1 (ht.keep hV) (Nat.le_trans (cur_sum hp.1) hu)).mono fun e V' h2=>?_)
    (fun V hV=>?_) (fun c' V v hp h=>?_) (fun c' V v v' h h'=>sameF_any h.1 h'.1) (fun c' V v hp h=>?_)
   ·have hm:=List.mem_of_getElem? hx
    have hwx:wrX x=[(q:Int)]:=by
     rw[(heq c' h x hm).2];unfold wrR;rw[hw,if_pos (by omega)]
    obtain⟨s,hs,hl⟩:=asked h.2 hx hp hwx;have h1:=(hokc c' h).wr x hm q (by rw[hwx];simp);have h2:=(hokc c' h).sx x hm s hs;exact⟨by omega,s,by omega,hs,(usL_eq (heq c' h) q s).1 hl⟩
   ·unfold retTr at h
    rw[if_pos hr] at h;obtain⟨v,c',e1,e2,e3,e4,_,e6⟩:=h;exact⟨v,c',e1,⟨e3,e4⟩,⟨e2.fnV,hlen c' ⟨e3,e4⟩⟩,e6⟩
   ·unfold retTr at h2
    rw[if_pos (hrc c' hp)] at h2;obtain⟨v2,c2,e1,e2,e3,e4,e5,e6⟩:=h2
    have ec:c2=c':=by
     rcases e5 with q|⟨q,n,q2⟩
     ·exact q
     ·exact absurd q2 (hp.2 q n)
    subst ec;exact⟨v2,e1,⟨e2.fnV,h.2⟩,e6⟩
   ·have:=rRight_any (hf0.fits hV)
    rw[hr] at this;exact this
   ·have:=rRight_any h.1
    rw[hrc c' hp] at this;exact this
   ·obtain⟨qa,qd,qn,qc,qe,gb,go,rfl,rfl,hgi⟩:=gpd_parts h hN0
    have hok:=hokc c' hp;exact rlive_walk V fname qa qn qc frm ent R N qe gb go (some ⟨gb,go,none⟩) c' hRn hNn h.2 (fun _=>rfl) hgi (fun x hx y hy=>hok.us x hx y (by rw[(heq c' hp x hx).1];exact hy)) (fun x hx y hy=>hok.wr x hx y (by rw[(heq c' hp x hx).2];exact hy)) hok.sx
end Go.Proofs.YtaimifnppackgaaGreatDoor
namespace Go.Proofs.YtaimifnppackgaaGreatDoor
open Go.ChangeShapes Go.WideShapes Go.ChangeAt Go.RowKit Go.Deep Go.Proofs.Tryz
set_option linter.all false
set_option maxRecDepth 100000
section
variable {H:Type} {enc:TypeId×Value→H} {w:World}
instance:Inhabited Ins:=⟨⟨0,0,0,0,0,0,[],0,0⟩⟩
theorem gcS:prog.cellsOf 9=1:=by kernel_rfl
theorem gcI:prog.cellsOf 3=1:=by kernel_rfl
theorem gcL:prog.cellsOf 2=1:=by kernel_rfl
theorem gcIs:prog.cellsOf 22=1:=by kernel_rfl
theorem gcCs:prog.cellsOf 23=1:=by kernel_rfl
theorem gcIn:prog.cellsOf 35=9:=by kernel_rfl
theorem gcFn:prog.cellsOf 25=6:=by kernel_rfl
theorem gspot_none {a:Addr} {v:Value} (h:w.cell? (a.add 0)=some v):a=⟨a.block,a.off,none⟩:=by
 obtain⟨b,off,spot⟩:=a;have:=World.cell?_spot h;have:spot=none:=by simpa[Addr.add] using this
 subst this;rfl
theorem ggetElem?_map_range {α:Type} (f:Nat→α) {n i:Nat} {x:α} (h:((List.range n).map f)[i]? = some x):i<n∧x=f i:=by
 rw[List.getElem?_map] at h
 by_cases hi:i<n
 ·rw[List.getElem?_range hi] at h;simp at h;exact⟨hi,h.symm⟩
 ·rw[List.getElem?_eq_none (by simpa using hi)] at h;simp at h
theorem bulk_one (d:DataW H):1≤Rows.uptoBulk d:=by
 cases d with
 |lit l=>cases l<;>simp[Rows.uptoBulk]
 |_=>simp[Rows.uptoBulk]
theorem bulk_len (l:List (DataW H)):l.length≤Rows.uptoBulkAll l:=by
 induction l with
 |nil=>simp[Rows.uptoBulkAll]
 |cons x r ih=>have:=bulk_one x;simp only[Rows.uptoBulkAll,List.length_cons];omega
theorem bulk_sum (D:Nat→DataW H) (a:Nat→Nat) (l:List Nat) (h:∀ i∈l,a i≤Rows.uptoBulk (D i)):(l.map a).sum≤Rows.uptoBulkAll (l.map D):=by
 induction l with
 |nil=>simp[Rows.uptoBulkAll]
 |cons x r ih =>
  have h1:=h x (by simp);have h2:=ih (fun i hi=>h i (by simp[hi]));simp only[List.map_cons,List.sum_cons,Rows.uptoBulkAll]
  omega
theorem bulk_part {d:DataW H} {l:List (DataW H)} (h:d∈l):Rows.uptoBulk d≤Rows.uptoBulkAll l:=by
 induction l with
 |nil=>cases h
 |cons x r ih =>
  simp only[Rows.uptoBulkAll]
  cases List.mem_cons.1 h with
  |inl e=>subst e;omega
  |inr e=>have:=ih e;omega
theorem gopen_ints {fuel:Nat} {c:Value} {x:DataW H×List MemPlace} (h:DataW.trod enc prog w 0 (fun _=>true) true fuel 22 [c]=some x) (hw:Rows.uptoBulk x.1≤1048576):∃ l,IL w c l∧l.length≤Rows.uptoBulk x.1:=by
 rcases open_slice underlying22 h with ⟨hcs,_⟩|⟨a,len,cap,m,nn,D,Pl,hcs,hb,hl,hm,hmm,hx,hall⟩
 ·simp at hcs
  subst hcs;exact⟨[],⟨none,0,rfl,by decide,fun _=>⟨rfl,rfl⟩,fun h=>absurd rfl h⟩,by simp[sumU]⟩
 ·simp at hcs
  subst hcs hx;have hlm:len≤m:=by rw[hmm];split<;>omega
  simp only[Rows.uptoBulk] at hw;have hbl:=bulk_len ((List.range len).map D);rw[List.length_map,List.length_range] at hbl;have hlen:len*8≤140737488355328:=by omega
  have hel:∀ i,i<len→Rows.uptoBulk (D i)≤1048576:=fun i hi=>by
   have:Rows.uptoBulk (D i)≤Rows.uptoBulkAll ((List.range len).map D):=bulk_part (List.mem_map.2 ⟨i,by simpa using hi,rfl⟩)
   omega
  have each:∀ i,i<len→∃ e:Int,w.cell? (a.add i)=some (.int .i64 e):=fun i hi=>by
   obtain⟨cs',h1,h2⟩:=hall i (by omega);rw[gcI] at h1;obtain⟨_,hlen,hcell⟩:=World.cells?_some h1
   match cs',hlen with
   | [c0],_ =>
    obtain⟨z,e0,_,_⟩:=DataW.trod_int underlying3 h2;simp at e0;subst e0;have q0:=hcell 0 (by omega);rw[add_add] at q0;exact⟨z,by simpa using q0⟩
  obtain⟨E,hE⟩:=choose_lt each;refine⟨(List.range len).map E,⟨some a,cap,by simp,by simp;omega,(fun h=>by cases h),fun hne=>?_⟩,?_⟩
  ·have hpos:0<len:=by
    rcases Nat.eq_zero_or_pos len with h0|h0
    ·exact absurd (by rw[h0];rfl) hne
    ·exact h0
   have ha:=gspot_none (hE 0 (by omega));refine⟨a.block,a.off,by rw[←ha],fun i y hy=>?_⟩;obtain⟨hi,rfl⟩:=ggetElem?_map_range E hy;have:=hE i (by omega);rw[ha,add_plain] at this;exact this
  ·rw[List.length_map,List.length_range]
   simp only[Rows.uptoBulk]
   omega
theorem ins_cells {n:Nat} {cs:List Value} {x:DataW H×List MemPlace} (hl:cs.length=9) (h:DataW.trod enc prog w 0 (fun _=>true) true n 35 cs=some x) (hw:Rows.uptoBulk x.1≤1048576) :
  ∃ i:Ins,i.args.length≤Rows.uptoBulk x.1∧∃ v,IL w v i.args∧cs[0]? = some (.int .i64 i.op)∧cs[1]? = some (.int .i64 i.sub)∧cs[2]? = some (.int .i64 i.a)∧cs[3]? = some (.int .i64 i.b)∧cs[4]? = some (.int .i64 i.d)∧cs[5]? = some (.int .i64 i.k)∧cs[6]? = some v∧cs[7]? = some (.int .i64 i.s)∧cs[8]? = some (.int .i64 i.t):=by
 obtain⟨xs,k,hk,hxy,_,hxl,hf⟩:=DataW.trod_struct underlying35 h
 match cs,hl with
 | [c0,c1,c2,c3,c4,c5,c6,c7,c8],_ =>
  have g0:=hf 0 _ rfl;have g1:=hf 1 _ rfl;have g2:=hf 2 _ rfl;have g3:=hf 3 _ rfl;have g4:=hf 4 _ rfl;have g5:=hf 5 _ rfl;have g6:=hf 6 _ rfl;have g7:=hf 7 _ rfl;have g8:=hf 8 _ rfl;simp only[List.getElem_toArray,List.getElem_cons_zero,List.getElem_cons_succ,gcI,gcL,gcIs,List.drop_zero,List.drop_succ_cons,List.take_succ_cons,List.take_zero] at g0 g1 g2 g3 g4 g5 g6 g7 g8
  match xs,hxl with
  | [y0,y1,y2,y3,y4,y5,y6,y7,y8],_ =>
   simp only[List.getElem?_cons_zero,List.getElem?_cons_succ] at g0 g1 g2 g3 g4 g5 g6 g7 g8;obtain⟨a0,e0,_,_⟩:=DataW.trod_int underlying3 g0;obtain⟨a1,e1,_,_⟩:=DataW.trod_int underlying3 g1;obtain⟨a2,e2,_,_⟩:=DataW.trod_int underlying3 g2;obtain⟨a3,e3,_,_⟩:=DataW.trod_int underlying3 g3;obtain⟨a4,e4,_,_⟩:=DataW.trod_int underlying3 g4;obtain⟨a5,e5,_,_⟩:=DataW.trod_int underlying2 g5;obtain⟨a7,e7,_,_⟩:=DataW.trod_int underlying3 g7;obtain⟨a8,e8,_,_⟩:=DataW.trod_int underlying3 g8;subst hxy
   have hw6:Rows.uptoBulk y6.1≤Rows.uptoBulk (.agg ([y0,y1,y2,y3,y4,y5,y6,y7,y8].map (·.1))):=by
    simp only[Rows.uptoBulk];have:=bulk_part (l:=[y0,y1,y2,y3,y4,y5,y6,y7,y8].map (·.1)) (d:=y6.1) (by simp)
    omega
   obtain⟨l,h6,h7⟩:=gopen_ints g6 (Nat.le_trans hw6 hw);simp at e0 e1 e2 e3 e4 e5 e7 e8;subst e0 e1 e2 e3 e4 e5 e7 e8;exact⟨⟨a0,a1,a2,a3,a4,a5,l,a7,a8⟩,Nat.le_trans h7 hw6,c6,h6,rfl,rfl,rfl,rfl,rfl,rfl,rfl,rfl,rfl⟩
theorem gopen_code {fuel:Nat} {c:Value} {x:DataW H×List MemPlace} (h:DataW.trod enc prog w 0 (fun _=>true) true fuel 23 [c]=some x) (hw:Rows.uptoBulk x.1≤1048576):∃ l,CodeAt w c l∧sumU l≤Rows.uptoBulk x.1:=by
 rcases open_slice underlying23 h with ⟨hcs,_⟩|⟨a,len,cap,m,nn,D,Pl,hcs,hb,hl,hm,hmm,hx,hall⟩
 ·simp at hcs
  subst hcs;exact⟨[],⟨none,0,rfl,by decide,fun _=>⟨rfl,rfl⟩,fun h=>absurd rfl h⟩,by simp[sumU]⟩
 ·simp at hcs
  subst hcs hx;have hlm:len≤m:=by rw[hmm];split<;>omega
  simp only[Rows.uptoBulk] at hw;have hbl:=bulk_len ((List.range len).map D);rw[List.length_map,List.length_range] at hbl;have hlen:len*88≤140737488355328:=by omega
  have hel:∀ i,i<len→Rows.uptoBulk (D i)≤1048576:=fun i hi=>by
   have:Rows.uptoBulk (D i)≤Rows.uptoBulkAll ((List.range len).map D):=bulk_part (List.mem_map.2 ⟨i,by simpa using hi,rfl⟩)
   omega
  have each:∀ i,i<len→∃ e:Ins,e.args.length≤Rows.uptoBulk (D i)∧∃ v,IL w v e.args∧w.cell? (a.add (i*9))=some (.int .i64 e.op)∧w.cell? (a.add (i*9+1))=some (.int .i64 e.sub)∧w.cell? (a.add (i*9+2))=some (.int .i64 e.a)∧w.cell? (a.add (i*9+3))=some (.int .i64 e.b)∧w.cell? (a.add (i*9+4))=some (.int .i64 e.d)∧w.cell? (a.add (i*9+5))=some (.int .i64 e.k)∧w.cell? (a.add (i*9+6))=some (v)∧w.cell? (a.add (i*9+7))=some (.int .i64 e.s)∧w.cell? (a.add (i*9+8))=some (.int .i64 e.t):=fun i hi=>by
   obtain⟨cs',h1,h2⟩:=hall i (by omega);rw[gcIn] at h1;obtain⟨_,hlen,hcell⟩:=World.cells?_some h1;obtain⟨f,hfl,v,hv,e0,e1,e2,e3,e4,e5,e6,e7,e8⟩:=ins_cells hlen h2 (hel i hi);have q0:=hcell 0 (by omega);have q1:=hcell 1 (by omega);have q2:=hcell 2 (by omega);have q3:=hcell 3 (by omega);have q4:=hcell 4 (by omega);have q5:=hcell 5 (by omega);have q6:=hcell 6 (by omega);have q7:=hcell 7 (by omega);have q8:=hcell 8 (by omega);rw[add_add] at q0 q1 q2 q3 q4 q5 q6 q7 q8;exact⟨f,hfl,v,hv,by rw[←e0,←q0,Nat.add_zero],by rw[←e1,←q1],by rw[←e2,←q2],by rw[←e3,←q3],by rw[←e4,←q4],by rw[←e5,←q5],by rw[←e6,←q6],by rw[←e7,←q7],by rw[←e8,←q8]⟩
  obtain⟨E,hE⟩:=choose_lt each;refine⟨(List.range len).map E,⟨some a,cap,by simp,by simp;omega,(fun h=>by cases h),fun hne=>?_⟩,?_⟩
  ·have hpos:0<len:=by
    rcases Nat.eq_zero_or_pos len with h0|h0
    ·exact absurd (by rw[h0];rfl) hne
    ·exact h0
   obtain⟨_,_,_,hz,_⟩:=hE 0 (by omega);have ha:=gspot_none (by simpa using hz);refine⟨a.block,a.off,by rw[←ha],fun i y hy=>?_⟩;obtain⟨hi,rfl⟩:=ggetElem?_map_range E hy;obtain⟨_,v,hv,k0,k1,k2,k3,k4,k5,k6,k7,k8⟩:=hE i (by omega);rw[ha,add_plain] at k0 k1 k2 k3 k4 k5 k6 k7 k8;exact⟨v,hv,k0,by rw[Nat.add_assoc];exact k1,by rw[Nat.add_assoc];exact k2,by rw[Nat.add_assoc];exact k3,by rw[Nat.add_assoc];exact k4,by rw[Nat.add_assoc];exact k5,by rw[Nat.add_assoc];exact k6,by rw[Nat.add_assoc];exact k7,by rw[Nat.add_assoc];exact k8⟩
  ·have h3:=bulk_sum D (fun i=>(E i).args.length) (List.range len) (fun i hi=>(hE i (by simpa using hi)).1)
   unfold sumU;rw[List.map_map];simp only[Rows.uptoBulk];have h4:((List.range len).map ((fun x:Ins=>x.args.length) ∘ E)).sum=((List.range len).map fun i=>(E i).args.length).sum:=rfl
   omega
theorem fn_cells {n:Nat} {cs:List Value} {x:DataW H×List MemPlace} (hl:cs.length=6) (h:DataW.trod enc prog w 0 (fun _=>true) true n 25 cs=some x) (hw:Rows.uptoBulk x.1≤1048576) :
  ∃ f:Fn,sumU f.code≤1048576∧∃ pv cv,IL w pv f.params∧CodeAt w cv f.code∧f.name.size≤140737488355328∧cs[0]? = some (.string f.name)∧cs[1]? = some pv∧cs[2]? = some (.int .i64 f.regs)∧cs[3]? = some (.int .i64 f.frame)∧cs[4]? = some (.int .i64 f.entry)∧cs[5]? = some cv:=by
 obtain⟨xs,k,hk,hxy,_,hxl,hf⟩:=DataW.trod_struct underlying25 h
 match cs,hl with
 | [c0,c1,c2,c3,c4,c5],_ =>
  have g0:=hf 0 _ rfl;have g1:=hf 1 _ rfl;have g2:=hf 2 _ rfl;have g3:=hf 3 _ rfl;have g4:=hf 4 _ rfl;have g5:=hf 5 _ rfl;simp only[List.getElem_toArray,List.getElem_cons_zero,List.getElem_cons_succ,gcI,gcS,gcIs,gcCs,List.drop_zero,List.drop_succ_cons,List.take_succ_cons,List.take_zero] at g0 g1 g2 g3 g4 g5
  match xs,hxl with
  | [y0,y1,y2,y3,y4,y5],_ =>
   simp only[List.getElem?_cons_zero,List.getElem?_cons_succ] at g0 g1 g2 g3 g4 g5;obtain⟨a0,e0,f0,_⟩:=DataW.trod_string underlying9 g0;obtain⟨a2,e2,_,_⟩:=DataW.trod_int underlying3 g2;obtain⟨a3,e3,_,_⟩:=DataW.trod_int underlying3 g3;obtain⟨a4,e4,_,_⟩:=DataW.trod_int underlying3 g4;subst hxy
   have hall:∀ d∈[y0,y1,y2,y3,y4,y5].map (·.1),Rows.uptoBulk d≤1048576:=fun d hd=>by
    have h1:=bulk_part hd;have h2:Rows.uptoBulkAll ([y0,y1,y2,y3,y4,y5].map (·.1))+1≤1048576:=by simpa only[Rows.uptoBulk] using hw
    omega
   obtain⟨l,h1,_⟩:=gopen_ints g1 (hall _ (by simp));obtain⟨cd,h5,h6⟩:=gopen_code g5 (hall _ (by simp));have h0:=hall y0.1 (by simp);have h7:=hall y5.1 (by simp);simp at e0 e2 e3 e4;subst e0 e2 e3 e4
   have hnm:a0.size≤140737488355328:=by
    rw[f0] at h0;simp only[Rows.uptoBulk] at h0;have e:a0.data.toList.length=a0.size:=by rw[Array.length_toList];rfl
    omega
   exact⟨⟨a0,l,a2,a3,a4,cd⟩,Nat.le_trans h6 h7,c1,c5,h1,h5,hnm,rfl,rfl,rfl,rfl,rfl,rfl⟩
theorem open_fn {r:Reach} {b0:Nat} {v:Value} {d:DataW H} {p:List MemPlace} (hv:Value.okWide prog w r b0 25 v) (h:DataW.Trod enc prog w 0 (fun _=>true) true 25 v d p) (hw:Rows.uptoBulk d≤1048576):∃ f:Fn,FnV w v f∧sumU f.code≤1048576:=by
 obtain⟨cs,rfl,hsz⟩:=okWide_struct underlying25 hv
 obtain⟨c0,c1,c2,c3,c4,c5,rfl⟩:∃ c0 c1 c2 c3 c4 c5,cs=#[c0,c1,c2,c3,c4,c5]:=by
  have hs:cs.toList.length=6:=by simpa using hsz.trans gcFn
  match hcs:cs.toList,hs with
  | [c0,c1,c2,c3,c4,c5],_=>exact⟨c0,c1,c2,c3,c4,c5,by apply Array.ext';simpa using hcs⟩
 obtain⟨fuel,hf⟩:=h;obtain⟨f,hs,pv,cv,hp,hc,hn,e0,e1,e2,e3,e4,e5⟩:=fn_cells (cs:=[c0,c1,c2,c3,c4,c5]) rfl hf hw;simp at e0 e1 e2 e3 e4 e5;subst e0 e1 e2 e3 e4 e5;exact⟨f,⟨_,_,rfl,hp,hc,hn⟩,hs⟩
end
end Go.Proofs.YtaimifnppackgaaGreatDoor
