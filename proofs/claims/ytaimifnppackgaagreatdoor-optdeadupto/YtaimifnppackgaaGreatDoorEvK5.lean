import Derived.Test.YtaimifnppackgaaGreatDoorEvSn
set_option linter.all false
namespace Go.Ev
open Go Go.Proofs Go.Proofs.YtaimifnppackgaaGreatDoor
theorem k11:okPart Tryz.prog p11 100000 200 15 a11 2493 l11 v11 2809 d11=true:=by kernel_rfl
end Go.Ev
