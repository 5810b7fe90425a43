/-
  DERIVED. GIVEN WITH THE SEED: THE CARDS: each row of YtlonbaefdffbeaaGreatDoorRows.lean that lists a variable, with what it lists TIED to the program's text (the seventh form; the later family's looks); each row that meets fmt, with fmt's text TOLD by the authors' own Lean function (tested against real Go, not proved from fmt's source: count such statements apart). THE CARD IS WHAT COUNTS. Prove the row's statement (the work); the ties are given (YtlonbaefdffbeaaGreatDoorTie.lean); close each card by the builder's one call (the guide's Derived/Test/ToyasCard.lean, 'card_holds'). Laid BY PROGRAM, IN A SANDBOX (cutbox-door.mjs). By AI agents, Wed Nov 11 2026. No macro, syntax, notation, axiom, sorry.
-/
import Derived.Test.YtlonbaefdffbeaaGreatDoorRows
import GoSem.ClaimSeven
namespace Go.Proofs.YtlonbaefdffbeaaGreatDoor
namespace Rows

/-- THE TIED CARD OF 'plumboblaw5.AstKnown'. -/
def astKnownCard : Claim7 := { stood := { row := astKnownRow, standIns := [], harness := (true, "e76dbe30dbef7aa72324601fc6d471cd4a094b87b2ca463181925e5e542cd07e"), looks := true }, kinds := [], alts := [], laidByText := true, laidKinds := [.data, .data, .data, .sentinel, .sentinel, .data, .data, .data, .data, .data], laidTests := true, laidLooks := .later }
def AstKnownCardSaid : Prop := Claim7.holds Tryz.pinned (.plain (OpenSpec.ofChange astKnownSpec)) astKnownCard

/-- THE TIED CARD OF 'plumboblaw5.AstReads'. -/
def astReadsCard : Claim7 := { stood := { row := astReadsRow, standIns := [], harness := (true, "e76dbe30dbef7aa72324601fc6d471cd4a094b87b2ca463181925e5e542cd07e"), looks := true }, kinds := [], alts := [], laidByText := true, laidKinds := [.data, .data, .data, .sentinel, .sentinel, .data, .data, .data, .data, .data], laidTests := true, laidLooks := .later }
def AstReadsCardSaid : Prop := Claim7.holds Tryz.pinned (.plain (OpenSpec.ofChange astReadsSpec)) astReadsCard

/-- THE TIED CARD OF 'plumboblaw5.AstBack'. -/
def astBackCard : Claim7 := { stood := { row := astBackRow, standIns := [], harness := (true, "e76dbe30dbef7aa72324601fc6d471cd4a094b87b2ca463181925e5e542cd07e"), looks := true }, kinds := [], alts := [], laidByText := true, laidKinds := [.data, .data, .data, .sentinel, .sentinel, .data, .data, .data, .data, .data], laidTests := true, laidLooks := .later }
def AstBackCardSaid : Prop := Claim7.holds Tryz.pinned (.plain (OpenSpec.ofChange astBackSpec)) astBackCard

/-- THE TIED CARD OF 'plumboblaw5.AstCuts'. -/
def astCutsCard : Claim7 := { stood := { row := astCutsRow, standIns := [], harness := (true, "e76dbe30dbef7aa72324601fc6d471cd4a094b87b2ca463181925e5e542cd07e"), looks := true }, kinds := [], alts := [], laidByText := true, laidKinds := [.data, .data, .data, .sentinel, .sentinel, .data, .data, .data, .data, .data], laidTests := true, laidLooks := .later }
def AstCutsCardSaid : Prop := Claim7.holds Tryz.pinned (.plain (OpenSpec.ofChange astCutsSpec)) astCutsCard

/-- THE TIED CARD OF 'plumboblaw5.AstJoins'. -/
def astJoinsCard : Claim7 := { stood := { row := astJoinsRow, standIns := [], harness := (true, "e76dbe30dbef7aa72324601fc6d471cd4a094b87b2ca463181925e5e542cd07e"), looks := true }, kinds := [], alts := [], laidByText := true, laidKinds := [.data, .data, .data, .sentinel, .sentinel, .data, .data, .data, .data, .data], laidTests := true, laidLooks := .later }
def AstJoinsCardSaid : Prop := Claim7.holds Tryz.pinned (.plain (OpenSpec.ofChange astJoinsSpec)) astJoinsCard

/-- THE TIED CARD OF 'plumboblaw5.AstParens'. -/
def astParensCard : Claim7 := { stood := { row := astParensRow, standIns := [], harness := (true, "e76dbe30dbef7aa72324601fc6d471cd4a094b87b2ca463181925e5e542cd07e"), looks := true }, kinds := [], alts := [], laidByText := true, laidKinds := [.data, .data, .data, .sentinel, .sentinel, .data, .data, .data, .data, .data], laidTests := true, laidLooks := .later }
def AstParensCardSaid : Prop := Claim7.holds Tryz.pinned (.plain (OpenSpec.ofChange astParensSpec)) astParensCard

/-- THE SECOND FORM's CARD OF 'plumboblaw5.AstKnown'. -/
def astKnownUptoCard : Claim7 := { stood := { row := astKnownUptoRow, standIns := [], harness := (true, "e76dbe30dbef7aa72324601fc6d471cd4a094b87b2ca463181925e5e542cd07e"), looks := true }, kinds := [], alts := [], laidByText := true, laidKinds := [.data, .data, .data, .sentinel, .sentinel, .data, .data, .data, .data, .data], laidTests := true, laidLooks := .later }
def AstKnownUptoCardSaid : Prop := Claim7.holds Tryz.pinned (.plain (OpenSpec.upto astKnownSpec)) astKnownUptoCard

/-- THE SECOND FORM's CARD OF 'plumboblaw5.AstReads'. -/
def astReadsUptoCard : Claim7 := { stood := { row := astReadsUptoRow, standIns := [], harness := (true, "e76dbe30dbef7aa72324601fc6d471cd4a094b87b2ca463181925e5e542cd07e"), looks := true }, kinds := [], alts := [], laidByText := true, laidKinds := [.data, .data, .data, .sentinel, .sentinel, .data, .data, .data, .data, .data], laidTests := true, laidLooks := .later }
def AstReadsUptoCardSaid : Prop := Claim7.holds Tryz.pinned (.plain (OpenSpec.upto astReadsSpec)) astReadsUptoCard

/-- THE SECOND FORM's CARD OF 'plumboblaw5.AstBack'. -/
def astBackUptoCard : Claim7 := { stood := { row := astBackUptoRow, standIns := [], harness := (true, "e76dbe30dbef7aa72324601fc6d471cd4a094b87b2ca463181925e5e542cd07e"), looks := true }, kinds := [], alts := [], laidByText := true, laidKinds := [.data, .data, .data, .sentinel, .sentinel, .data, .data, .data, .data, .data], laidTests := true, laidLooks := .later }
def AstBackUptoCardSaid : Prop := Claim7.holds Tryz.pinned (.plain (OpenSpec.upto astBackSpec)) astBackUptoCard

/-- THE SECOND FORM's CARD OF 'plumboblaw5.AstCuts'. -/
def astCutsUptoCard : Claim7 := { stood := { row := astCutsUptoRow, standIns := [], harness := (true, "e76dbe30dbef7aa72324601fc6d471cd4a094b87b2ca463181925e5e542cd07e"), looks := true }, kinds := [], alts := [], laidByText := true, laidKinds := [.data, .data, .data, .sentinel, .sentinel, .data, .data, .data, .data, .data], laidTests := true, laidLooks := .later }
def AstCutsUptoCardSaid : Prop := Claim7.holds Tryz.pinned (.plain (OpenSpec.upto astCutsSpec)) astCutsUptoCard

/-- THE SECOND FORM's CARD OF 'plumboblaw5.AstJoins'. -/
def astJoinsUptoCard : Claim7 := { stood := { row := astJoinsUptoRow, standIns := [], harness := (true, "e76dbe30dbef7aa72324601fc6d471cd4a094b87b2ca463181925e5e542cd07e"), looks := true }, kinds := [], alts := [], laidByText := true, laidKinds := [.data, .data, .data, .sentinel, .sentinel, .data, .data, .data, .data, .data], laidTests := true, laidLooks := .later }
def AstJoinsUptoCardSaid : Prop := Claim7.holds Tryz.pinned (.plain (OpenSpec.upto astJoinsSpec)) astJoinsUptoCard

/-- THE SECOND FORM's CARD OF 'plumboblaw5.AstParens'. -/
def astParensUptoCard : Claim7 := { stood := { row := astParensUptoRow, standIns := [], harness := (true, "e76dbe30dbef7aa72324601fc6d471cd4a094b87b2ca463181925e5e542cd07e"), looks := true }, kinds := [], alts := [], laidByText := true, laidKinds := [.data, .data, .data, .sentinel, .sentinel, .data, .data, .data, .data, .data], laidTests := true, laidLooks := .later }
def AstParensUptoCardSaid : Prop := Claim7.holds Tryz.pinned (.plain (OpenSpec.upto astParensSpec)) astParensUptoCard
end Rows
end Go.Proofs.YtlonbaefdffbeaaGreatDoor
