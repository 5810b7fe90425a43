import Derived.Test.YtaimifnppackgaaGreatDoorEvSn
set_option linter.all false
namespace Go.Ev
open Go Go.Proofs Go.Proofs.YtaimifnppackgaaGreatDoor
theorem k3:okPart Tryz.prog p3 100000 200 12 a3 16 l3 v3 933 d3=true:=by kernel_rfl
theorem k4:okPart Tryz.prog p4 100000 200 38 a4 991 l4 v4 1072 d4=true:=by kernel_rfl
theorem k5:okPart Tryz.prog p5 100000 200 25 a5 1074 l5 v5 1341 d5=true:=by kernel_rfl
end Go.Ev
