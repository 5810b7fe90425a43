/-
  DERIVED. GIVEN WITH THE SEED: THE CARDS: each row of YtdpmaekomdbmgaaGreatDoorRows.lean that lists a variable, with what it lists TIED to the program's text (the seventh form; the later family's looks); each row that meets fmt, with fmt's text TOLD by the authors' own Lean function (tested against real Go, not proved from fmt's source: count such statements apart). THE CARD IS WHAT COUNTS. Prove the row's statement (the work); the ties are given (YtdpmaekomdbmgaaGreatDoorTie.lean); close each card by the builder's one call (the guide's Derived/Test/ToyasCard.lean, 'card_holds'). Laid BY PROGRAM, IN A SANDBOX (cutbox-door.mjs). By AI agents, Wed Nov 11 2026. No macro, syntax, notation, axiom, sorry.
-/
import Derived.Test.YtdpmaekomdbmgaaGreatDoorRows
import GoSem.ClaimSeven
namespace Go.Proofs.YtdpmaekomdbmgaaGreatDoor
namespace Rows

/-- THE TIED CARD OF 'plumboblaw13.RtlgenKnown'. -/
def rtlgenKnownCard : Claim7 := { stood := { row := rtlgenKnownRow, standIns := [], harness := (true, "31773b98c0fb661eb698b1c80a494bf32bb5e7d7b62d4ebb71062d10ef9046a3"), looks := true }, kinds := [], alts := [], laidByText := true, laidKinds := [.data, .sentinel, .sentinel, .data, .data, .data, .data, .data, .data, .data, .pinned, .data, .data], laidTests := true, laidLooks := .later }
def RtlgenKnownCardSaid : Prop := Claim7.holds Tryz.pinned (.plain (OpenSpec.ofChange rtlgenKnownSpec)) rtlgenKnownCard

/-- THE SECOND FORM's CARD OF 'plumboblaw13.RtlgenKnown'. -/
def rtlgenKnownUptoCard : Claim7 := { stood := { row := rtlgenKnownUptoRow, standIns := [], harness := (true, "31773b98c0fb661eb698b1c80a494bf32bb5e7d7b62d4ebb71062d10ef9046a3"), looks := true }, kinds := [], alts := [], laidByText := true, laidKinds := [.data, .sentinel, .sentinel, .data, .data, .data, .data, .data, .data, .data, .pinned, .data, .data], laidTests := true, laidLooks := .later }
def RtlgenKnownUptoCardSaid : Prop := Claim7.holds Tryz.pinned (.plain (OpenSpec.upto rtlgenKnownSpec)) rtlgenKnownUptoCard
end Rows
end Go.Proofs.YtdpmaekomdbmgaaGreatDoor
