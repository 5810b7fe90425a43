import Derived.Test.YtaimifnppackgaaGreatDoorEvSn
set_option linter.all false
namespace Go.Ev
open Go Go.Proofs Go.Proofs.YtaimifnppackgaaGreatDoor
theorem k1:okPart Tryz.prog p1 100000 200 25 a1 155 l1 v1 422 d1=true:=by kernel_rfl
theorem k2:okPart Tryz.prog p2 100000 200 39 a2 153 l2 v2 863 d2=true:=by kernel_rfl
end Go.Ev
