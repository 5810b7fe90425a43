/-
  DERIVED. GIVEN WITH THE SEED: THE CARDS: each row of YtalogjekoakdbaaGreatDoorRows.lean that lists a variable, with what it lists TIED to the program's text (the seventh form; the later family's looks); each row that meets fmt, with fmt's text TOLD by the authors' own Lean function (tested against real Go, not proved from fmt's source: count such statements apart). THE CARD IS WHAT COUNTS. Prove the row's statement (the work); the ties are given (YtalogjekoakdbaaGreatDoorTie.lean); close each card by the builder's one call (the guide's Derived/Test/ToyasCard.lean, 'card_holds'). Laid BY PROGRAM, IN A SANDBOX (cutbox-door.mjs). By AI agents, Wed Nov 11 2026. No macro, syntax, notation, axiom, sorry.
-/
import Derived.Test.YtalogjekoakdbaaGreatDoorRows
import GoSem.ClaimSeven
namespace Go.Proofs.YtalogjekoakdbaaGreatDoor
namespace Rows

/-- THE TIED CARD OF 'plumboblaw15.OptKnown'. -/
def optKnownCard : Claim7 := { stood := { row := optKnownRow, standIns := [], harness := (true, "6e5203ea5f7bb54dc766dbef837ead5bee7e692f12538805cc51913f8139b478"), looks := false }, kinds := [], alts := [], laidByText := true, laidKinds := [.data, .data, .data, .data, .data, .data, .pinned, .pinned, .pinned, .pinned, .pinned, .pinned], laidTests := true, laidLooks := .later }
def OptKnownCardSaid : Prop := Claim7.holds Tryz.pinned (.plain (OpenSpec.ofChange optKnownSpec)) optKnownCard

/-- THE SECOND FORM's CARD OF 'plumboblaw15.OptKnown'. -/
def optKnownUptoCard : Claim7 := { stood := { row := optKnownUptoRow, standIns := [], harness := (true, "6e5203ea5f7bb54dc766dbef837ead5bee7e692f12538805cc51913f8139b478"), looks := false }, kinds := [], alts := [], laidByText := true, laidKinds := [.data, .data, .data, .data, .data, .data, .pinned, .pinned, .pinned, .pinned, .pinned, .pinned], laidTests := true, laidLooks := .later }
def OptKnownUptoCardSaid : Prop := Claim7.holds Tryz.pinned (.plain (OpenSpec.upto optKnownSpec)) optKnownUptoCard
end Rows
end Go.Proofs.YtalogjekoakdbaaGreatDoor
