/-
  DERIVED. GIVEN WITH THE SEED: THE CARDS: each row of YtmbbgaomcdgpeaaGreatDoorRows.lean that lists a variable, with what it lists TIED to the program's text (the seventh form; the later family's looks); each row that meets fmt, with fmt's text TOLD by the authors' own Lean function (tested against real Go, not proved from fmt's source: count such statements apart). THE CARD IS WHAT COUNTS. Prove the row's statement (the work); the ties are given (YtmbbgaomcdgpeaaGreatDoorTie.lean); close each card by the builder's one call (the guide's Derived/Test/ToyasCard.lean, 'card_holds'). Laid BY PROGRAM, IN A SANDBOX (cutbox-door.mjs). By AI agents, Wed Nov 11 2026. No macro, syntax, notation, axiom, sorry.
-/
import Derived.Test.YtmbbgaomcdgpeaaGreatDoorRows
import GoSem.ClaimSeven
namespace Go.Proofs.YtmbbgaomcdgpeaaGreatDoor
namespace Rows

/-- THE TIED CARD OF 'plumboblaw10.CminKnown'. -/
def cminKnownCard : Claim7 := { stood := { row := cminKnownRow, standIns := [], harness := (true, "b92e4fb3a94af05ad99c12e8632094f9360d2d53550445c12441a7356c0ad899"), looks := true }, kinds := [], alts := [], laidByText := true, laidKinds := [.data, .data, .data, .data, .sentinel, .sentinel, .data, .data, .data, .data, .data, .data, .data, .pinned], laidTests := true, laidLooks := .later }
def CminKnownCardSaid : Prop := Claim7.holds Tryz.pinned (.plain (OpenSpec.ofChange cminKnownSpec)) cminKnownCard

/-- THE SECOND FORM's CARD OF 'plumboblaw10.CminKnown'. -/
def cminKnownUptoCard : Claim7 := { stood := { row := cminKnownUptoRow, standIns := [], harness := (true, "b92e4fb3a94af05ad99c12e8632094f9360d2d53550445c12441a7356c0ad899"), looks := true }, kinds := [], alts := [], laidByText := true, laidKinds := [.data, .data, .data, .data, .sentinel, .sentinel, .data, .data, .data, .data, .data, .data, .data, .pinned], laidTests := true, laidLooks := .later }
def CminKnownUptoCardSaid : Prop := Claim7.holds Tryz.pinned (.plain (OpenSpec.upto cminKnownSpec)) cminKnownUptoCard
end Rows
end Go.Proofs.YtmbbgaomcdgpeaaGreatDoor
