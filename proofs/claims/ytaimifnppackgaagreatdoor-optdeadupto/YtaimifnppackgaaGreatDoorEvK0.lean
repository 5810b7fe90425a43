import Derived.Test.YtaimifnppackgaaGreatDoorEvSn
set_option linter.all false
namespace Go.Ev
open Go Go.Proofs Go.Proofs.YtaimifnppackgaaGreatDoor
theorem k0:ansb Tryz.prog p0 100000 200 h0 4 []=true:=by kernel_rfl
end Go.Ev
