/-
  DERIVED. GIVEN WITH THE SEED: THE CARDS: each row of YtaimifnppackgaaGreatDoorRows.lean that lists a variable, with what it lists TIED to the program's text (the seventh form; the later family's looks); each row that meets fmt, with fmt's text TOLD by the authors' own Lean function (tested against real Go, not proved from fmt's source: count such statements apart). THE CARD IS WHAT COUNTS. Prove the row's statement (the work); the ties are given (YtaimifnppackgaaGreatDoorTie.lean); close each card by the builder's one call (the guide's Derived/Test/ToyasCard.lean, 'card_holds'). Laid BY PROGRAM, IN A SANDBOX (cutbox-door.mjs). By AI agents, Wed Nov 11 2026. No macro, syntax, notation, axiom, sorry.
-/
import Derived.Test.YtaimifnppackgaaGreatDoorRows
import GoSem.ClaimSeven
namespace Go.Proofs.YtaimifnppackgaaGreatDoor
namespace Rows

/-- THE TIED CARD OF 'plumboblaw15.OptDead'. -/
def optDeadCard : Claim7 := { stood := { row := optDeadRow, standIns := [], harness := (true, "b83d827026df7b55976753530dda715ec9f1d07699cac4a006cf2aa790456a21"), looks := false }, kinds := [], alts := [], laidByText := true, laidKinds := [.data, .data, .data, .data, .data, .data, .pinned, .pinned, .pinned, .pinned, .pinned, .pinned], laidTests := true, laidLooks := .later }
def OptDeadCardSaid : Prop := Claim7.holds Tryz.pinned (.plain (OpenSpec.ofChange optDeadSpec)) optDeadCard

/-- THE SECOND FORM's CARD OF 'plumboblaw15.OptDead'. -/
def optDeadUptoCard : Claim7 := { stood := { row := optDeadUptoRow, standIns := [], harness := (true, "b83d827026df7b55976753530dda715ec9f1d07699cac4a006cf2aa790456a21"), looks := false }, kinds := [], alts := [], laidByText := true, laidKinds := [.data, .data, .data, .data, .data, .data, .pinned, .pinned, .pinned, .pinned, .pinned, .pinned], laidTests := true, laidLooks := .later }
def OptDeadUptoCardSaid : Prop := Claim7.holds Tryz.pinned (.plain (OpenSpec.upto optDeadSpec)) optDeadUptoCard
end Rows
end Go.Proofs.YtaimifnppackgaaGreatDoor
