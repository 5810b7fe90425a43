/-
  DERIVED. GIVEN WITH THE SEED: THE CARDS: each row of YtncondlfngeilaaGreatDoorRows.lean that lists a variable, with what it lists TIED to the program's text (the seventh form; the later family's looks); each row that meets fmt, with fmt's text TOLD by the authors' own Lean function (tested against real Go, not proved from fmt's source: count such statements apart). THE CARD IS WHAT COUNTS. Prove the row's statement (the work); the ties are given (YtncondlfngeilaaGreatDoorTie.lean); close each card by the builder's one call (the guide's Derived/Test/ToyasCard.lean, 'card_holds'). Laid BY PROGRAM, IN A SANDBOX (cutbox-door.mjs). By AI agents, Wed Nov 11 2026. No macro, syntax, notation, axiom, sorry.
-/
import Derived.Test.YtncondlfngeilaaGreatDoorRows
import GoSem.ClaimSeven
namespace Go.Proofs.YtncondlfngeilaaGreatDoor
namespace Rows

/-- THE TIED CARD OF 'plumboblaw18.LinearTunnels'. -/
def linearTunnelsCard : Claim7 := { stood := { row := linearTunnelsRow, standIns := [], harness := (true, "b1025f31f49d021a45a418043d06d414fc574f881bd372d2a9a67701841d7996"), looks := false }, kinds := [], alts := [], laidByText := true, laidKinds := [.data, .data, .data, .data, .data, .data, .data, .pinned, .pinned, .pinned, .pinned, .pinned, .pinned], laidTests := true, laidLooks := .later }
def LinearTunnelsCardSaid : Prop := Claim7.holds Tryz.pinned (.plain (OpenSpec.ofChange linearTunnelsSpec)) linearTunnelsCard

/-- THE SECOND FORM's CARD OF 'plumboblaw18.LinearTunnels'. -/
def linearTunnelsUptoCard : Claim7 := { stood := { row := linearTunnelsUptoRow, standIns := [], harness := (true, "b1025f31f49d021a45a418043d06d414fc574f881bd372d2a9a67701841d7996"), looks := false }, kinds := [], alts := [], laidByText := true, laidKinds := [.data, .data, .data, .data, .data, .data, .data, .pinned, .pinned, .pinned, .pinned, .pinned, .pinned], laidTests := true, laidLooks := .later }
def LinearTunnelsUptoCardSaid : Prop := Claim7.holds Tryz.pinned (.plain (OpenSpec.upto linearTunnelsSpec)) linearTunnelsUptoCard
end Rows
end Go.Proofs.YtncondlfngeilaaGreatDoor
