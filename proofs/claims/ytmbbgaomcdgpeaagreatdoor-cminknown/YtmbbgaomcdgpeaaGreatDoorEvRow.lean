/- CminKnown answers true: its own calls are reckoned by a machine of our own (EvDef), proved to say of every run what the run does. Its conditions are the card's own: the listed tables lie as the program's text lays them. -/
import Derived.Test.YtmbbgaomcdgpeaaGreatDoorEvRowD
set_option linter.unusedSimpArgs false
set_option linter.unusedVariables false
namespace Go.Proofs.YtmbbgaomcdgpeaaGreatDoor
open Go.ChangeShapes Go.WideShapes Go.ChangeAt Go.RowKit Go.Joins Go.Deep
set_option linter.unusedSimpArgs false
set_option linter.unusedVariables false
/-- THE STATEMENT. -/
theorem cminKnown_holds : Rows.CminKnownCardSaid :=
  Claim7.holds_tied_plain_at .later [] [.data, .data, .data, .data, .sentinel, .sentinel, .data, .data, .data, .data, .data, .data, .data, .pinned] true (true, "b92e4fb3a94af05ad99c12e8632094f9360d2d53550445c12441a7356c0ad899") true
    cminKnown_row (fun _ h => by cases h) cdW (fun _ h => by cases h) cminKnown_row_tie rfl ⟨rfl, rfl⟩ cdM rfl
    (fun f fn hf hfn => by
      obtain rfl : f = 3 := Option.some.inj ((show Tryz.prog.funcNamed "plumbob/plumboblaw10.CminKnown" = some 3 by kernel_rfl).symm.trans hf) |>.symm
      obtain rfl : fn = Tryz.f3 := (Option.some.inj (Tryz.func3.symm.trans hfn)).symm
      exact ⟨cdL, fun j t ht => by
        rw [Tryz.params3] at ht
        simp at ht⟩)
    cdG
#print axioms cminKnown_holds
end Go.Proofs.YtmbbgaomcdgpeaaGreatDoor
