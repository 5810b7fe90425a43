import Derived.Test.YtaimifnppackgaaGreatDoorEvSn
set_option linter.all false
namespace Go.Ev
open Go Go.Proofs Go.Proofs.YtaimifnppackgaaGreatDoor
theorem k9:okPart Tryz.prog p9 100000 200 39 a9 1918 l9 v9 2419 d9=true:=by kernel_rfl
theorem k10:okPart Tryz.prog p10 100000 200 14 a10 937 l10 v10 2489 d10=true:=by kernel_rfl
end Go.Ev
