/- AsmKnown answers true: its own calls are reckoned by a machine of our own (EvDef), proved to say of every run what the run does. Its conditions are the card's own: the listed tables lie as the program's text lays them. -/
import Derived.Test.YtcghggpjfneloaaGreatDoorEvRowD
set_option linter.unusedSimpArgs false
set_option linter.unusedVariables false
namespace Go.Proofs.YtcghggpjfneloaaGreatDoor
open Go.ChangeShapes Go.WideShapes Go.ChangeAt Go.RowKit Go.Joins Go.Deep
set_option linter.unusedSimpArgs false
set_option linter.unusedVariables false
/-- THE STATEMENT. -/
theorem asmKnown_holds : Rows.AsmKnownCardSaid :=
  Claim7.holds_tied_plain_at .later [] [.data, .data, .data, .data, .data, .data, .data, .data, .pinned, .pinned, .pinned, .pinned, .pinned, .pinned] true (true, "b3c1ad6de63e270b0b0d4671ed1b6b79c0a1f6d954aeaaf7f15365ac9fc2f4f3") false
    asmKnown_row (fun _ h => by cases h) cdW (fun _ h => by cases h) asmKnown_row_tie rfl ⟨rfl, rfl⟩ cdM rfl
    (fun f fn hf hfn => by
      obtain rfl : f = 3 := Option.some.inj ((show Tryz.prog.funcNamed "plumbob/plumboblaw20.AsmKnown" = some 3 by kernel_rfl).symm.trans hf) |>.symm
      obtain rfl : fn = Tryz.f3 := (Option.some.inj (Tryz.func3.symm.trans hfn)).symm
      exact ⟨cdL, fun j t ht => by
        rw [Tryz.params3] at ht
        simp at ht⟩)
    cdG
#print axioms asmKnown_holds
end Go.Proofs.YtcghggpjfneloaaGreatDoor
