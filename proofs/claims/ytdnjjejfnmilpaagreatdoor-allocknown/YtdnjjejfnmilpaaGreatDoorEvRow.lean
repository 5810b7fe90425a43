/- AllocKnown answers true: its own calls are reckoned by a machine of our own (EvDef), proved to say of every run what the run does. Its conditions are the card's own: the listed tables lie as the program's text lays them. -/
import Derived.Test.YtdnjjejfnmilpaaGreatDoorEvRowD
set_option linter.unusedSimpArgs false
set_option linter.unusedVariables false
namespace Go.Proofs.YtdnjjejfnmilpaaGreatDoor
open Go.ChangeShapes Go.WideShapes Go.ChangeAt Go.RowKit Go.Joins Go.Deep
set_option linter.unusedSimpArgs false
set_option linter.unusedVariables false
/-- THE STATEMENT. -/
theorem allocKnown_holds : Rows.AllocKnownCardSaid :=
  Claim7.holds_tied_plain_at .later [] [.data, .data, .data] true (true, "524ae641af94bca7e5ac3484844b3e794f73b8ffee2ea036e221fae142f692c3") false
    allocKnown_row (fun _ h => by cases h) cdW (fun _ h => by cases h) allocKnown_row_tie rfl ⟨rfl, rfl⟩ cdM rfl
    (fun f fn hf hfn => by
      obtain rfl : f = 3 := Option.some.inj ((show Tryz.prog.funcNamed "plumbob/plumboblaw17.AllocKnown" = some 3 by kernel_rfl).symm.trans hf) |>.symm
      obtain rfl : fn = Tryz.f3 := (Option.some.inj (Tryz.func3.symm.trans hfn)).symm
      exact ⟨cdL, fun j t ht => by
        rw [Tryz.params3] at ht
        simp at ht⟩)
    cdG
#print axioms allocKnown_holds
end Go.Proofs.YtdnjjejfnmilpaaGreatDoor
