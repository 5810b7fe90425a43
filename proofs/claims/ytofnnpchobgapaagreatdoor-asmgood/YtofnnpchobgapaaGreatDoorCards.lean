/-
  DERIVED. GIVEN WITH THE SEED: THE CARDS: each row of YtofnnpchobgapaaGreatDoorRows.lean that lists a variable, with what it lists TIED to the program's text (the seventh form; the later family's looks); each row that meets fmt, with fmt's text TOLD by the authors' own Lean function (tested against real Go, not proved from fmt's source: count such statements apart). THE CARD IS WHAT COUNTS. Prove the row's statement (the work); the ties are given (YtofnnpchobgapaaGreatDoorTie.lean); close each card by the builder's one call (the guide's Derived/Test/ToyasCard.lean, 'card_holds'). Laid BY PROGRAM, IN A SANDBOX (cutbox-door.mjs). By AI agents, Wed Nov 11 2026. No macro, syntax, notation, axiom, sorry.
-/
import Derived.Test.YtofnnpchobgapaaGreatDoorRows
import GoSem.ClaimSeven
namespace Go.Proofs.YtofnnpchobgapaaGreatDoor
namespace Rows

/-- THE TIED CARD OF 'plumboblaw20.AsmGood'. -/
def asmGoodCard : Claim7 := { stood := { row := asmGoodRow, standIns := [], harness := (true, "8e36ea036d701c5e6aa116e6a4a1a9a36e5ec4512414753b345863d483e2d21b"), looks := false }, kinds := [], alts := [], laidByText := true, laidKinds := [.data, .data, .data, .data, .data, .data, .data, .data, .pinned, .pinned, .pinned, .pinned, .pinned, .pinned], laidTests := true, laidLooks := .later }
def AsmGoodCardSaid : Prop := Claim7.holds Tryz.pinned (.plain (OpenSpec.ofChange asmGoodSpec)) asmGoodCard

/-- THE TIED CARD OF 'plumboblaw20.AsmTold'. -/
def asmToldCard : Claim7 := { stood := { row := asmToldRow, standIns := [], harness := (true, "8e36ea036d701c5e6aa116e6a4a1a9a36e5ec4512414753b345863d483e2d21b"), looks := false }, kinds := [], alts := [], laidByText := true, laidKinds := [.data, .data, .data, .data, .data, .data, .data, .data, .pinned, .pinned, .pinned, .pinned, .pinned, .pinned], laidTests := true, laidLooks := .later }
def AsmToldCardSaid : Prop := Claim7.holds Tryz.pinned (.plain (OpenSpec.ofChange asmToldSpec)) asmToldCard

/-- THE SECOND FORM's CARD OF 'plumboblaw20.AsmGood'. -/
def asmGoodUptoCard : Claim7 := { stood := { row := asmGoodUptoRow, standIns := [], harness := (true, "8e36ea036d701c5e6aa116e6a4a1a9a36e5ec4512414753b345863d483e2d21b"), looks := false }, kinds := [], alts := [], laidByText := true, laidKinds := [.data, .data, .data, .data, .data, .data, .data, .data, .pinned, .pinned, .pinned, .pinned, .pinned, .pinned], laidTests := true, laidLooks := .later }
def AsmGoodUptoCardSaid : Prop := Claim7.holds Tryz.pinned (.plain (OpenSpec.upto asmGoodSpec)) asmGoodUptoCard

/-- THE SECOND FORM's CARD OF 'plumboblaw20.AsmTold'. -/
def asmToldUptoCard : Claim7 := { stood := { row := asmToldUptoRow, standIns := [], harness := (true, "8e36ea036d701c5e6aa116e6a4a1a9a36e5ec4512414753b345863d483e2d21b"), looks := false }, kinds := [], alts := [], laidByText := true, laidKinds := [.data, .data, .data, .data, .data, .data, .data, .data, .pinned, .pinned, .pinned, .pinned, .pinned, .pinned], laidTests := true, laidLooks := .later }
def AsmToldUptoCardSaid : Prop := Claim7.holds Tryz.pinned (.plain (OpenSpec.upto asmToldSpec)) asmToldUptoCard
end Rows
end Go.Proofs.YtofnnpchobgapaaGreatDoor
