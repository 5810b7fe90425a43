/-
  DERIVED. GIVEN WITH THE SEED: THE CARDS: each row of YtabiapaiiccnaaaGreatDoorRows.lean that lists a variable, with what it lists TIED to the program's text (the seventh form; the later family's looks); each row that meets fmt, with fmt's text TOLD by the authors' own Lean function (tested against real Go, not proved from fmt's source: count such statements apart). THE CARD IS WHAT COUNTS. Prove the row's statement (the work); the ties are given (YtabiapaiiccnaaaGreatDoorTie.lean); close each card by the builder's one call (the guide's Derived/Test/ToyasCard.lean, 'card_holds'). Laid BY PROGRAM, IN A SANDBOX (cutbox-door.mjs). By AI agents, Wed Nov 11 2026. No macro, syntax, notation, axiom, sorry.
-/
import Derived.Test.YtabiapaiiccnaaaGreatDoorRows
import GoSem.ClaimSeven
namespace Go.Proofs.YtabiapaiiccnaaaGreatDoor
namespace Rows

/-- THE TIED CARD OF 'plumboblaw11.SelKnown'. -/
def selKnownCard : Claim7 := { stood := { row := selKnownRow, standIns := [], harness := (true, "f6de02ee55a3a8758752f62ebb1bdf83da293622868e97411f77c3a2d5bb1f49"), looks := true }, kinds := [], alts := [], laidByText := true, laidKinds := [.data, .data, .data, .data, .sentinel, .sentinel, .data, .data, .data, .data, .data, .data, .data, .pinned], laidTests := true, laidLooks := .later }
def SelKnownCardSaid : Prop := Claim7.holds Tryz.pinned (.plain (OpenSpec.ofChange selKnownSpec)) selKnownCard

/-- THE SECOND FORM's CARD OF 'plumboblaw11.SelKnown'. -/
def selKnownUptoCard : Claim7 := { stood := { row := selKnownUptoRow, standIns := [], harness := (true, "f6de02ee55a3a8758752f62ebb1bdf83da293622868e97411f77c3a2d5bb1f49"), looks := true }, kinds := [], alts := [], laidByText := true, laidKinds := [.data, .data, .data, .data, .sentinel, .sentinel, .data, .data, .data, .data, .data, .data, .data, .pinned], laidTests := true, laidLooks := .later }
def SelKnownUptoCardSaid : Prop := Claim7.holds Tryz.pinned (.plain (OpenSpec.upto selKnownSpec)) selKnownUptoCard
end Rows
end Go.Proofs.YtabiapaiiccnaaaGreatDoor
