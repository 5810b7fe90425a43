/- LtlKnown answers true: its own calls are reckoned by a machine of our own (EvDef), proved to say of every run what the run does. Its conditions are the card's own: the listed tables lie as the program's text lays them. -/
import Derived.Test.YtmbdhdpikhlfdaaGreatDoorEvRowD
set_option linter.unusedSimpArgs false
set_option linter.unusedVariables false
namespace Go.Proofs.YtmbdhdpikhlfdaaGreatDoor
open Go.ChangeShapes Go.WideShapes Go.ChangeAt Go.RowKit Go.Joins Go.Deep
set_option linter.unusedSimpArgs false
set_option linter.unusedVariables false
/-- THE STATEMENT. -/
theorem ltlKnown_holds : Rows.LtlKnownCardSaid :=
  Claim7.holds_tied_plain_at .later [] [.data, .data] true (true, "fa0ba3b5cdcfbe58b434b3a352a6e4842f2198c09873890537cb45b624056c86") false
    ltlKnown_row (fun _ h => by cases h) cdW (fun _ h => by cases h) ltlKnown_row_tie rfl ⟨rfl, rfl⟩ cdM rfl
    (fun f fn hf hfn => by
      obtain rfl : f = 3 := Option.some.inj ((show Tryz.prog.funcNamed "plumbob/plumboblaw16.LtlKnown" = some 3 by kernel_rfl).symm.trans hf) |>.symm
      obtain rfl : fn = Tryz.f3 := (Option.some.inj (Tryz.func3.symm.trans hfn)).symm
      exact ⟨cdL, fun j t ht => by
        rw [Tryz.params3] at ht
        simp at ht⟩)
    cdG
#print axioms ltlKnown_holds
end Go.Proofs.YtmbdhdpikhlfdaaGreatDoor
