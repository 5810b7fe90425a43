/-
  DERIVED. GIVEN WITH THE SEED: THE CARDS: each row of YtmbdhdpikhlfdaaGreatDoorRows.lean that lists a variable, with what it lists TIED to the program's text (the seventh form; the later family's looks); each row that meets fmt, with fmt's text TOLD by the authors' own Lean function (tested against real Go, not proved from fmt's source: count such statements apart). THE CARD IS WHAT COUNTS. Prove the row's statement (the work); the ties are given (YtmbdhdpikhlfdaaGreatDoorTie.lean); close each card by the builder's one call (the guide's Derived/Test/ToyasCard.lean, 'card_holds'). Laid BY PROGRAM, IN A SANDBOX (cutbox-door.mjs). By AI agents, Wed Nov 11 2026. No macro, syntax, notation, axiom, sorry.
-/
import Derived.Test.YtmbdhdpikhlfdaaGreatDoorRows
import GoSem.ClaimSeven
namespace Go.Proofs.YtmbdhdpikhlfdaaGreatDoor
namespace Rows

/-- THE TIED CARD OF 'plumboblaw16.LtlKnown'. -/
def ltlKnownCard : Claim7 := { stood := { row := ltlKnownRow, standIns := [], harness := (true, "fa0ba3b5cdcfbe58b434b3a352a6e4842f2198c09873890537cb45b624056c86"), looks := false }, kinds := [], alts := [], laidByText := true, laidKinds := [.data, .data], laidTests := true, laidLooks := .later }
def LtlKnownCardSaid : Prop := Claim7.holds Tryz.pinned (.plain (OpenSpec.ofChange ltlKnownSpec)) ltlKnownCard

/-- THE SECOND FORM's CARD OF 'plumboblaw16.LtlKnown'. -/
def ltlKnownUptoCard : Claim7 := { stood := { row := ltlKnownUptoRow, standIns := [], harness := (true, "fa0ba3b5cdcfbe58b434b3a352a6e4842f2198c09873890537cb45b624056c86"), looks := false }, kinds := [], alts := [], laidByText := true, laidKinds := [.data, .data], laidTests := true, laidLooks := .later }
def LtlKnownUptoCardSaid : Prop := Claim7.holds Tryz.pinned (.plain (OpenSpec.upto ltlKnownSpec)) ltlKnownUptoCard
end Rows
end Go.Proofs.YtmbdhdpikhlfdaaGreatDoor
