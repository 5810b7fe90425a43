import Derived.Test.YtaimifnppackgaaGreatDoorEvSn
set_option linter.all false
namespace Go.Ev
open Go Go.Proofs Go.Proofs.YtaimifnppackgaaGreatDoor
theorem k6:okPart Tryz.prog p6 100000 200 39 a6 1072 l6 v6 1782 d6=true:=by kernel_rfl
theorem k7:okPart Tryz.prog p7 100000 200 38 a7 1782 l7 v7 1850 d7=true:=by kernel_rfl
theorem k8:okPart Tryz.prog p8 100000 200 25 a8 1920 l8 v8 2074 d8=true:=by kernel_rfl
end Go.Ev
