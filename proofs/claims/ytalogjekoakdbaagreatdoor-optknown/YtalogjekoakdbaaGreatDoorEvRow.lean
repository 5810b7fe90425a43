/- OptKnown answers true: its own calls are reckoned by a machine of our own (EvDef), proved to say of every run what the run does. Its conditions are the card's own: the listed tables lie as the program's text lays them. -/
import Derived.Test.YtalogjekoakdbaaGreatDoorEvRowD
set_option linter.unusedSimpArgs false
set_option linter.unusedVariables false
namespace Go.Proofs.YtalogjekoakdbaaGreatDoor
open Go.ChangeShapes Go.WideShapes Go.ChangeAt Go.RowKit Go.Joins Go.Deep
set_option linter.unusedSimpArgs false
set_option linter.unusedVariables false
/-- THE STATEMENT. -/
theorem optKnown_holds : Rows.OptKnownCardSaid :=
  Claim7.holds_tied_plain_at .later [] [.data, .data, .data, .data, .data, .data, .pinned, .pinned, .pinned, .pinned, .pinned, .pinned] true (true, "6e5203ea5f7bb54dc766dbef837ead5bee7e692f12538805cc51913f8139b478") false
    optKnown_row (fun _ h => by cases h) cdW (fun _ h => by cases h) optKnown_row_tie rfl ⟨rfl, rfl⟩ cdM rfl
    (fun f fn hf hfn => by
      obtain rfl : f = 3 := Option.some.inj ((show Tryz.prog.funcNamed "plumbob/plumboblaw15.OptKnown" = some 3 by kernel_rfl).symm.trans hf) |>.symm
      obtain rfl : fn = Tryz.f3 := (Option.some.inj (Tryz.func3.symm.trans hfn)).symm
      exact ⟨cdL, fun j t ht => by
        rw [Tryz.params3] at ht
        simp at ht⟩)
    cdG
#print axioms optKnown_holds
end Go.Proofs.YtalogjekoakdbaaGreatDoor
