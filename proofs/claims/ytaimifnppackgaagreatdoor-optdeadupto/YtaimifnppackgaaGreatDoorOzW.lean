/- The statement OptDead returns true for all that comes in of bulk at most 1,048,576. Conditions: that bound; the row's tables start as the program's text lays them (the card ties them). -/
import Derived.Test.YtaimifnppackgaaGreatDoorEvRow
import Derived.Test.YtaimifnppackgaaGreatDoorOzT
import Derived.Deep.DeepHandedRow
import Derived.Deep.DeepWitnessRowRef
namespace Go.Proofs.YtaimifnppackgaaGreatDoor
open Go.ChangeShapes Go.WideShapes Go.ChangeAt Go.RowKit Go.Proofs.Tryz
set_option linter.all false
set_option maxRecDepth 100000
theorem shtab_of (W:World) (h:laidMetH prog laidY W):ShTab W:=fun n hn=>by
 have c:=tab0_cells W h;have:n=0∨n=1∨n=2∨n=3∨n=4∨n=5∨n=6∨n=7∨n=8∨n=9∨n=10∨n=11∨n=12∨n=13∨n=14:=by omega
 rcases this with rfl|rfl|rfl|rfl|rfl|rfl|rfl|rfl|rfl|rfl|rfl|rfl|rfl|rfl|rfl
 ·exact⟨c 0 _ rfl rfl,c 1 _ rfl rfl,c 2 _ rfl rfl,c 3 _ rfl rfl,c 4 _ rfl rfl,c 5 _ rfl rfl,c 6 _ rfl rfl,c 7 _ rfl rfl,c 8 _ rfl rfl⟩
 ·exact⟨c 9 _ rfl rfl,c 10 _ rfl rfl,c 11 _ rfl rfl,c 12 _ rfl rfl,c 13 _ rfl rfl,c 14 _ rfl rfl,c 15 _ rfl rfl,c 16 _ rfl rfl,c 17 _ rfl rfl⟩
 ·exact⟨c 18 _ rfl rfl,c 19 _ rfl rfl,c 20 _ rfl rfl,c 21 _ rfl rfl,c 22 _ rfl rfl,c 23 _ rfl rfl,c 24 _ rfl rfl,c 25 _ rfl rfl,c 26 _ rfl rfl⟩
 ·exact⟨c 27 _ rfl rfl,c 28 _ rfl rfl,c 29 _ rfl rfl,c 30 _ rfl rfl,c 31 _ rfl rfl,c 32 _ rfl rfl,c 33 _ rfl rfl,c 34 _ rfl rfl,c 35 _ rfl rfl⟩
 ·exact⟨c 36 _ rfl rfl,c 37 _ rfl rfl,c 38 _ rfl rfl,c 39 _ rfl rfl,c 40 _ rfl rfl,c 41 _ rfl rfl,c 42 _ rfl rfl,c 43 _ rfl rfl,c 44 _ rfl rfl⟩
 ·exact⟨c 45 _ rfl rfl,c 46 _ rfl rfl,c 47 _ rfl rfl,c 48 _ rfl rfl,c 49 _ rfl rfl,c 50 _ rfl rfl,c 51 _ rfl rfl,c 52 _ rfl rfl,c 53 _ rfl rfl⟩
 ·exact⟨c 54 _ rfl rfl,c 55 _ rfl rfl,c 56 _ rfl rfl,c 57 _ rfl rfl,c 58 _ rfl rfl,c 59 _ rfl rfl,c 60 _ rfl rfl,c 61 _ rfl rfl,c 62 _ rfl rfl⟩
 ·exact⟨c 63 _ rfl rfl,c 64 _ rfl rfl,c 65 _ rfl rfl,c 66 _ rfl rfl,c 67 _ rfl rfl,c 68 _ rfl rfl,c 69 _ rfl rfl,c 70 _ rfl rfl,c 71 _ rfl rfl⟩
 ·exact⟨c 72 _ rfl rfl,c 73 _ rfl rfl,c 74 _ rfl rfl,c 75 _ rfl rfl,c 76 _ rfl rfl,c 77 _ rfl rfl,c 78 _ rfl rfl,c 79 _ rfl rfl,c 80 _ rfl rfl⟩
 ·exact⟨c 81 _ rfl rfl,c 82 _ rfl rfl,c 83 _ rfl rfl,c 84 _ rfl rfl,c 85 _ rfl rfl,c 86 _ rfl rfl,c 87 _ rfl rfl,c 88 _ rfl rfl,c 89 _ rfl rfl⟩
 ·exact⟨c 90 _ rfl rfl,c 91 _ rfl rfl,c 92 _ rfl rfl,c 93 _ rfl rfl,c 94 _ rfl rfl,c 95 _ rfl rfl,c 96 _ rfl rfl,c 97 _ rfl rfl,c 98 _ rfl rfl⟩
 ·exact⟨c 99 _ rfl rfl,c 100 _ rfl rfl,c 101 _ rfl rfl,c 102 _ rfl rfl,c 103 _ rfl rfl,c 104 _ rfl rfl,c 105 _ rfl rfl,c 106 _ rfl rfl,c 107 _ rfl rfl⟩
 ·exact⟨c 108 _ rfl rfl,c 109 _ rfl rfl,c 110 _ rfl rfl,c 111 _ rfl rfl,c 112 _ rfl rfl,c 113 _ rfl rfl,c 114 _ rfl rfl,c 115 _ rfl rfl,c 116 _ rfl rfl⟩
 ·exact⟨c 117 _ rfl rfl,c 118 _ rfl rfl,c 119 _ rfl rfl,c 120 _ rfl rfl,c 121 _ rfl rfl,c 122 _ rfl rfl,c 123 _ rfl rfl,c 124 _ rfl rfl,c 125 _ rfl rfl⟩
 ·exact⟨c 126 _ rfl rfl,c 127 _ rfl rfl,c 128 _ rfl rfl,c 129 _ rfl rfl,c 130 _ rfl rfl,c 131 _ rfl rfl,c 132 _ rfl rfl,c 133 _ rfl rfl,c 134 _ rfl rfl⟩
end Go.Proofs.YtaimifnppackgaaGreatDoor
namespace Go.Proofs.YtaimifnppackgaaGreatDoor
open Go.ChangeShapes Go.WideShapes Go.ChangeAt Go.RowKit Go.Joins Go.Deep
set_option linter.all false
set_option maxRecDepth 100000
theorem optDead_reads (os:Os) {H:Type} (enc:TypeId×Value→H):∃ places,DataW.whole enc Tryz.prog ((World.laidAll Tryz.prog os laidY).forCall (fun _ _=>0) ⟨#[],#[.agg #[.string .empty,.slice none 0 0,.int .i64 0,.int .i64 0,.int .i64 0,.slice none 0 0]],[]⟩).memory Tryz.f3.params.toList Rows.optDeadSpec.vars false #[.agg #[.string .empty,.slice none 0 0,.int .i64 0,.int .i64 0,.int .i64 0,.slice none 0 0]].toList 8=some ([.agg [.lit (.string []),.nil,.lit (.int .i64 0),.lit (.int .i64 0),.lit (.int .i64 0),.nil]],[],places) :=
  ⟨[],by kernel_rfl⟩
theorem optDead_bulk {H:Type} {d:DataW H} (hk:Rows.uptoSmall H ([d]++[])=true):Rows.uptoBulk d≤1048576:=by
  have h:Rows.uptoBulkAll ([d]++[])≤1048576:=of_decide_eq_true hk
  simp only[List.append_nil,Rows.uptoBulkAll] at h
  omega
theorem optDead_lifted (os:Os) (started:os.Started) (H:Type) (enc:TypeId×Value→H) (F:Stop.Interp) :
    ReturnsInHanded {} Tryz.checked os 3 .any ((Rows.OpenSpec.upto Rows.optDeadSpec).preRow enc Tryz.prog Tryz.f3 Rows.optDeadUptoRow.domain false Rows.optDeadUptoRow.laid) (((Rows.OpenSpec.upto Rows.optDeadSpec).at F).post enc Tryz.prog Tryz.f3 false true false false):=by
  obtain⟨places,hx⟩:=optDead_reads os enc
  refine returnsInHanded_of_row (C:=Tryz.checked) (s:=Rows.OpenSpec.upto Rows.optDeadSpec) own started (by kernel_rfl) Tryz.func3
    (witness_row_atRef (enc:=enc) (C:=Tryz.checked) false (World.laidAll Tryz.prog os laidY) #[.agg #[.string .empty,.slice none 0 0,.int .i64 0,.int .i64 0,.int .i64 0,.slice none 0 0]] (World.laidAll_os _ _ _) (by kernel_rfl) (by kernel_rfl) (by kernel_rfl)
      (OpenSpec.preRow_of_cond 8 hx (by kernel_rfl) (fun k hk=>by cases hk;kernel_rfl) (by kernel_rfl) (show laidMetH Tryz.prog laidY _ by rw[MakeChecks.laidMetH_plain _ _ _ (by kernel_rfl)];exact laidMet_laidAll _ (by kernel_rfl) (by kernel_rfl)))) ?_
  intro W base args ds gs before hval0 hW _ hcond _ hL0 _ _
  have hL:laidMetH Tryz.prog laidY W:=hL0
  have hval:∀ (j:Nat) t v,Tryz.f3.params[j]? = some t→args[j]? = some v→Value.okWide Tryz.prog W .any base t v:=hval0
  have hW':=hW
  obtain⟨p,q,hA0,hV,rfl,hfz,hnd⟩:=hW
  have hA:DataW.TrodAll enc Tryz.prog W 0 (fun _=>true) true Tryz.f3.params.toList args.toList ds p:=hA0
  rw[Tryz.params3] at hA hval
  obtain⟨v0,vs0,d0,ds0,p0,q0,hargs,rfl,rfl,h0,r0⟩:=trodAll_cons hA
  obtain⟨rfl,rfl,rfl⟩:=trodAll_nil r0
  obtain rfl:args=#[v0]:=by cases args;simp_all
  obtain⟨rfl,rfl⟩:=trodVars_none hV
  have hlt0:∀ x∈p0,x.block<W.heap.size:=fun x hx=>by simpa using hW'.lt x (by simp[hx])
  have hargs0:∀ (W':World),Below W.heap.size W W'→DataW.Trod enc Tryz.prog W' 0 (fun b=>decide (b<W.heap.size)) true 25 v0 d0 p0:=fun W' hn=>Below.trod laidOut (by kernel_rfl) (of_decide_eq_true (by kernel_rfl)) h0 hn hlt0
  obtain⟨f,hf,hu⟩:=open_fn (hval 0 25 v0 rfl rfl) h0 (optDead_bulk (hcond _ rfl))
  clear hA0 hval0
  simp only[List.append_nil] at hW'
  refine(optDead_walk v0 f W hf (shtab_of W hL) (by omega) (fun w1 hb=>awake_walk W hL w1 hb)).mono fun e W' ⟨he,hb⟩=>?_
  subst he
  exact⟨_,rfl,_,_,_,[],_,[],hW',(trodAll_cons_mk (shut_bool Tryz.underlying4 _) trodAll_mk0),(trodAll_cons_mk (hargs0 _ hb) trodAll_mk0),rfl,hb.frame _,fun h=>by cases h⟩
theorem optDead_row:Rows.OptDeadUptoSaid :=
  OpenClaim.holds_of_cond 3 Tryz.f3 rfl rfl rfl rfl rfl rfl rfl ⟨rfl,rfl,rfl,rfl,rfl⟩ rfl rfl rfl rfl rfl (by kernel_rfl) Tryz.func3 (by kernel_rfl)
    (of_decide_eq_true (by kernel_rfl)) (by unfold Func.isWrapper;first|(rw[if_pos (by decide +kernel)];kernel_rfl)|(rw[if_neg (by decide +kernel)];exact⟨rfl,rfl⟩))
    (fun os started H enc _ F=>by rw[OpenClaim.pre_eq_preRow];exact optDead_lifted os started H enc F)
theorem optDeadUpto_holds:Rows.OptDeadUptoCardSaid :=
  Claim7.holds_tied_plain_at .later [] [.data,.data,.data,.data,.data,.data,.pinned,.pinned,.pinned,.pinned,.pinned,.pinned] true (true, "b83d827026df7b55976753530dda715ec9f1d07699cac4a006cf2aa790456a21") false
    optDead_row (fun _ h=>by cases h) (by kernel_rfl) (fun _ h=>by cases h) optDeadUpto_row_tie rfl ⟨rfl,rfl⟩ (by kernel_rfl) rfl
    (fun f fn hf hfn=>by
      obtain rfl:f=3:=Option.some.inj ((show Tryz.prog.funcNamed "plumbob/plumboblaw15.OptDead"=some 3 by kernel_rfl).symm.trans hf) |>.symm
      obtain rfl:fn=Tryz.f3:=(Option.some.inj (Tryz.func3.symm.trans hfn)).symm
      exact⟨by kernel_rfl,fun j t ht=>by
        rw[Tryz.params3] at ht
        have hm:t∈[25]:=by simpa using Array.mem_of_getElem? ht
        have hall:([25].all fun u=>!Tryz.prog.wantsStandIn u)=true:=by kernel_rfl
        exact(show Tryz.prog.wantsStandIn t=false by simpa using List.all_eq_true.1 hall t hm)⟩)
    (by kernel_rfl)
#print axioms optDeadUpto_holds
end Go.Proofs.YtaimifnppackgaaGreatDoor
