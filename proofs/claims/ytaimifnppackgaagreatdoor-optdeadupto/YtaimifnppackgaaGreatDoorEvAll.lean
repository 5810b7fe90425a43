import Derived.Test.YtaimifnppackgaaGreatDoorEvBs
import Derived.Test.YtaimifnppackgaaGreatDoorEvK1
import Derived.Test.YtaimifnppackgaaGreatDoorEvK2
import Derived.Test.YtaimifnppackgaaGreatDoorEvK3
import Derived.Test.YtaimifnppackgaaGreatDoorEvK4
import Derived.Test.YtaimifnppackgaaGreatDoorEvK5
import Derived.Test.YtaimifnppackgaaGreatDoorEvK0
set_option linter.all false
namespace Go.Ev
open Go Go.RowKit Go.Proofs Go.Proofs.YtaimifnppackgaaGreatDoor
variable {B:World}
theorem all0 (hmix:Tryz.prog.follows .mixedOrders=true) (hnc:NoCount Tryz.prog) (hv:ValOk Tryz.prog B vals):PrimAll Tryz.prog B p0:=by
 have q:=full_all hv tels_ok;have q1:PrimAll Tryz.prog B p1:=q;have q2:PrimAll Tryz.prog B p2:=(addF_all hmix hnc q q1 k1);have q3:PrimAll Tryz.prog B p3:=(addF_all hmix hnc q q2 k2);have q4:PrimAll Tryz.prog B p4:=q;have q5:PrimAll Tryz.prog B p5:=q;have q6:PrimAll Tryz.prog B p6:=(addF_all hmix hnc q q5 k5);have q7:PrimAll Tryz.prog B p7:=q;have q8:PrimAll Tryz.prog B p8:=q;have q9:PrimAll Tryz.prog B p9:=(addF_all hmix hnc q q8 k8);have q10:PrimAll Tryz.prog B p10:=(addF_all hmix hnc (addF_all hmix hnc (addF_all hmix hnc (addF_all hmix hnc q q4 k4) q6 k6) q7 k7) q9 k9);have q11:PrimAll Tryz.prog B p11:=q;exact(addF_all hmix hnc (addF_all hmix hnc (addF_all hmix hnc q q3 k3) q10 k10) q11 k11)
end Go.Ev
