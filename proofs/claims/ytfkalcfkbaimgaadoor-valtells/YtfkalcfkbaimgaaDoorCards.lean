/-
  DERIVED. GIVEN WITH THE SEED: THE CARDS: each row of YtfkalcfkbaimgaaDoorRows.lean that lists a variable, with what it lists TIED to the program's text (the seventh form; the later family's looks); each row that meets fmt, with fmt's text TOLD by the authors' own Lean function (tested against real Go, not proved from fmt's source: count such statements apart). THE CARD IS WHAT COUNTS. Prove the row's statement (the work); the ties are given (YtfkalcfkbaimgaaDoorTie.lean); close each card by the builder's one call (the guide's Derived/Test/ToyasCard.lean, 'card_holds'). Laid BY PROGRAM, IN A SANDBOX (cutbox-door.mjs). By AI agents, Wed Nov 11 2026. No macro, syntax, notation, axiom, sorry.
-/
import Derived.Test.YtfkalcfkbaimgaaDoorRows
import GoSem.ClaimSeven
namespace Go.Proofs.YtfkalcfkbaimgaaDoor
namespace Rows

/-- THE TIED CARD OF 'plumboblaw1.ValKnown'. -/
def valKnownCard : Claim7 := { stood := { row := valKnownRow, standIns := [], harness := (true, "b1699b2cfa1c194e16e6121e9959784bdd3e976bd84cffeee05e479fe9b5bbbd"), looks := false }, kinds := [], alts := [], laidByText := true, laidKinds := [.data, .data, .data], laidTests := true, laidLooks := .later }
def ValKnownCardSaid : Prop := Claim7.holds Tryd.pinned (.plain (OpenSpec.ofChange valKnownSpec)) valKnownCard

/-- THE TIED CARD OF 'plumboblaw1.ValOps'. -/
def valOpsCard : Claim7 := { stood := { row := valOpsRow, standIns := [], harness := (true, "b1699b2cfa1c194e16e6121e9959784bdd3e976bd84cffeee05e479fe9b5bbbd"), looks := false }, kinds := [], alts := [], laidByText := true, laidKinds := [.data, .data, .data], laidTests := true, laidLooks := .later }
def ValOpsCardSaid : Prop := Claim7.holds Tryd.pinned (.plain (OpenSpec.ofChange valOpsSpec)) valOpsCard

/-- THE TIED CARD OF 'plumboblaw1.ValTells'. -/
def valTellsCard : Claim7 := { stood := { row := valTellsRow, standIns := [], harness := (true, "b1699b2cfa1c194e16e6121e9959784bdd3e976bd84cffeee05e479fe9b5bbbd"), looks := false }, kinds := [], alts := [], laidByText := true, laidKinds := [.data, .data, .data], laidTests := true, laidLooks := .later }
def ValTellsCardSaid : Prop := Claim7.holds Tryd.pinned (.plain (OpenSpec.ofChange valTellsSpec)) valTellsCard

/-- THE TIED CARD OF 'plumboblaw1.ValLaws'. -/
def valLawsCard : Claim7 := { stood := { row := valLawsRow, standIns := [], harness := (true, "b1699b2cfa1c194e16e6121e9959784bdd3e976bd84cffeee05e479fe9b5bbbd"), looks := false }, kinds := [], alts := [], laidByText := true, laidKinds := [.data, .data, .data], laidTests := true, laidLooks := .later }
def ValLawsCardSaid : Prop := Claim7.holds Tryd.pinned (.plain (OpenSpec.ofChange valLawsSpec)) valLawsCard

/-- THE TIED CARD OF 'plumboblaw1.ValChains'. -/
def valChainsCard : Claim7 := { stood := { row := valChainsRow, standIns := [], harness := (true, "b1699b2cfa1c194e16e6121e9959784bdd3e976bd84cffeee05e479fe9b5bbbd"), looks := false }, kinds := [], alts := [], laidByText := true, laidKinds := [.data, .data, .data], laidTests := true, laidLooks := .later }
def ValChainsCardSaid : Prop := Claim7.holds Tryd.pinned (.plain (OpenSpec.ofChange valChainsSpec)) valChainsCard

/-- THE TIED CARD OF 'plumboblaw1.ValExts'. -/
def valExtsCard : Claim7 := { stood := { row := valExtsRow, standIns := [], harness := (true, "b1699b2cfa1c194e16e6121e9959784bdd3e976bd84cffeee05e479fe9b5bbbd"), looks := false }, kinds := [], alts := [], laidByText := true, laidKinds := [.data, .data, .data], laidTests := true, laidLooks := .later }
def ValExtsCardSaid : Prop := Claim7.holds Tryd.pinned (.plain (OpenSpec.ofChange valExtsSpec)) valExtsCard

/-- THE SECOND FORM's CARD OF 'plumboblaw1.ValKnown'. -/
def valKnownUptoCard : Claim7 := { stood := { row := valKnownUptoRow, standIns := [], harness := (true, "b1699b2cfa1c194e16e6121e9959784bdd3e976bd84cffeee05e479fe9b5bbbd"), looks := false }, kinds := [], alts := [], laidByText := true, laidKinds := [.data, .data, .data], laidTests := true, laidLooks := .later }
def ValKnownUptoCardSaid : Prop := Claim7.holds Tryd.pinned (.plain (OpenSpec.upto valKnownSpec)) valKnownUptoCard

/-- THE SECOND FORM's CARD OF 'plumboblaw1.ValOps'. -/
def valOpsUptoCard : Claim7 := { stood := { row := valOpsUptoRow, standIns := [], harness := (true, "b1699b2cfa1c194e16e6121e9959784bdd3e976bd84cffeee05e479fe9b5bbbd"), looks := false }, kinds := [], alts := [], laidByText := true, laidKinds := [.data, .data, .data], laidTests := true, laidLooks := .later }
def ValOpsUptoCardSaid : Prop := Claim7.holds Tryd.pinned (.plain (OpenSpec.upto valOpsSpec)) valOpsUptoCard

/-- THE SECOND FORM's CARD OF 'plumboblaw1.ValTells'. -/
def valTellsUptoCard : Claim7 := { stood := { row := valTellsUptoRow, standIns := [], harness := (true, "b1699b2cfa1c194e16e6121e9959784bdd3e976bd84cffeee05e479fe9b5bbbd"), looks := false }, kinds := [], alts := [], laidByText := true, laidKinds := [.data, .data, .data], laidTests := true, laidLooks := .later }
def ValTellsUptoCardSaid : Prop := Claim7.holds Tryd.pinned (.plain (OpenSpec.upto valTellsSpec)) valTellsUptoCard

/-- THE SECOND FORM's CARD OF 'plumboblaw1.ValLaws'. -/
def valLawsUptoCard : Claim7 := { stood := { row := valLawsUptoRow, standIns := [], harness := (true, "b1699b2cfa1c194e16e6121e9959784bdd3e976bd84cffeee05e479fe9b5bbbd"), looks := false }, kinds := [], alts := [], laidByText := true, laidKinds := [.data, .data, .data], laidTests := true, laidLooks := .later }
def ValLawsUptoCardSaid : Prop := Claim7.holds Tryd.pinned (.plain (OpenSpec.upto valLawsSpec)) valLawsUptoCard

/-- THE SECOND FORM's CARD OF 'plumboblaw1.ValChains'. -/
def valChainsUptoCard : Claim7 := { stood := { row := valChainsUptoRow, standIns := [], harness := (true, "b1699b2cfa1c194e16e6121e9959784bdd3e976bd84cffeee05e479fe9b5bbbd"), looks := false }, kinds := [], alts := [], laidByText := true, laidKinds := [.data, .data, .data], laidTests := true, laidLooks := .later }
def ValChainsUptoCardSaid : Prop := Claim7.holds Tryd.pinned (.plain (OpenSpec.upto valChainsSpec)) valChainsUptoCard

/-- THE SECOND FORM's CARD OF 'plumboblaw1.ValExts'. -/
def valExtsUptoCard : Claim7 := { stood := { row := valExtsUptoRow, standIns := [], harness := (true, "b1699b2cfa1c194e16e6121e9959784bdd3e976bd84cffeee05e479fe9b5bbbd"), looks := false }, kinds := [], alts := [], laidByText := true, laidKinds := [.data, .data, .data], laidTests := true, laidLooks := .later }
def ValExtsUptoCardSaid : Prop := Claim7.holds Tryd.pinned (.plain (OpenSpec.upto valExtsSpec)) valExtsUptoCard
end Rows
end Go.Proofs.YtfkalcfkbaimgaaDoor
