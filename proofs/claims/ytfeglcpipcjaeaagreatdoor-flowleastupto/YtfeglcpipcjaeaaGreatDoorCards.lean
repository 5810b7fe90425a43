/-
  DERIVED. GIVEN WITH THE SEED: THE CARDS: each row of YtfeglcpipcjaeaaGreatDoorRows.lean that lists a variable, with what it lists TIED to the program's text (the seventh form; the later family's looks); each row that meets fmt, with fmt's text TOLD by the authors' own Lean function (tested against real Go, not proved from fmt's source: count such statements apart). THE CARD IS WHAT COUNTS. Prove the row's statement (the work); the ties are given (YtfeglcpipcjaeaaGreatDoorTie.lean); close each card by the builder's one call (the guide's Derived/Test/ToyasCard.lean, 'card_holds'). Laid BY PROGRAM, IN A SANDBOX (cutbox-door.mjs). By AI agents, Wed Nov 11 2026. No macro, syntax, notation, axiom, sorry.
-/
import Derived.Test.YtfeglcpipcjaeaaGreatDoorRows
import GoSem.ClaimSeven
namespace Go.Proofs.YtfeglcpipcjaeaaGreatDoor
namespace Rows

/-- THE TIED CARD OF 'plumboblaw14.FlowLive'. -/
def flowLiveCard : Claim7 := { stood := { row := flowLiveRow, standIns := [], harness := (true, "7f78731c44acd1f4e340aab1213062a0c39742402108cd497b79a6990c25ce68"), looks := false }, kinds := [], alts := [], laidByText := true, laidKinds := [.data], laidTests := true, laidLooks := .later }
def FlowLiveCardSaid : Prop := Claim7.holds Tryz.pinned (.plain (OpenSpec.ofChange flowLiveSpec)) flowLiveCard

/-- THE TIED CARD OF 'plumboblaw14.FlowLeast'. -/
def flowLeastCard : Claim7 := { stood := { row := flowLeastRow, standIns := [], harness := (true, "7f78731c44acd1f4e340aab1213062a0c39742402108cd497b79a6990c25ce68"), looks := false }, kinds := [], alts := [], laidByText := true, laidKinds := [.data], laidTests := true, laidLooks := .later }
def FlowLeastCardSaid : Prop := Claim7.holds Tryz.pinned (.plain (OpenSpec.ofChange flowLeastSpec)) flowLeastCard

/-- THE TIED CARD OF 'plumboblaw14.FlowDominates'. -/
def flowDominatesCard : Claim7 := { stood := { row := flowDominatesRow, standIns := [], harness := (true, "7f78731c44acd1f4e340aab1213062a0c39742402108cd497b79a6990c25ce68"), looks := false }, kinds := [], alts := [], laidByText := true, laidKinds := [.data], laidTests := true, laidLooks := .later }
def FlowDominatesCardSaid : Prop := Claim7.holds Tryz.pinned (.plain (OpenSpec.ofChange flowDominatesSpec)) flowDominatesCard

/-- THE TIED CARD OF 'plumboblaw14.FlowOrders'. -/
def flowOrdersCard : Claim7 := { stood := { row := flowOrdersRow, standIns := [], harness := (true, "7f78731c44acd1f4e340aab1213062a0c39742402108cd497b79a6990c25ce68"), looks := false }, kinds := [], alts := [], laidByText := true, laidKinds := [.data], laidTests := true, laidLooks := .later }
def FlowOrdersCardSaid : Prop := Claim7.holds Tryz.pinned (.plain (OpenSpec.ofChange flowOrdersSpec)) flowOrdersCard

/-- THE SECOND FORM's CARD OF 'plumboblaw14.FlowLive'. -/
def flowLiveUptoCard : Claim7 := { stood := { row := flowLiveUptoRow, standIns := [], harness := (true, "7f78731c44acd1f4e340aab1213062a0c39742402108cd497b79a6990c25ce68"), looks := false }, kinds := [], alts := [], laidByText := true, laidKinds := [.data], laidTests := true, laidLooks := .later }
def FlowLiveUptoCardSaid : Prop := Claim7.holds Tryz.pinned (.plain (OpenSpec.upto flowLiveSpec)) flowLiveUptoCard

/-- THE SECOND FORM's CARD OF 'plumboblaw14.FlowLeast'. -/
def flowLeastUptoCard : Claim7 := { stood := { row := flowLeastUptoRow, standIns := [], harness := (true, "7f78731c44acd1f4e340aab1213062a0c39742402108cd497b79a6990c25ce68"), looks := false }, kinds := [], alts := [], laidByText := true, laidKinds := [.data], laidTests := true, laidLooks := .later }
def FlowLeastUptoCardSaid : Prop := Claim7.holds Tryz.pinned (.plain (OpenSpec.upto flowLeastSpec)) flowLeastUptoCard

/-- THE SECOND FORM's CARD OF 'plumboblaw14.FlowDominates'. -/
def flowDominatesUptoCard : Claim7 := { stood := { row := flowDominatesUptoRow, standIns := [], harness := (true, "7f78731c44acd1f4e340aab1213062a0c39742402108cd497b79a6990c25ce68"), looks := false }, kinds := [], alts := [], laidByText := true, laidKinds := [.data], laidTests := true, laidLooks := .later }
def FlowDominatesUptoCardSaid : Prop := Claim7.holds Tryz.pinned (.plain (OpenSpec.upto flowDominatesSpec)) flowDominatesUptoCard

/-- THE SECOND FORM's CARD OF 'plumboblaw14.FlowOrders'. -/
def flowOrdersUptoCard : Claim7 := { stood := { row := flowOrdersUptoRow, standIns := [], harness := (true, "7f78731c44acd1f4e340aab1213062a0c39742402108cd497b79a6990c25ce68"), looks := false }, kinds := [], alts := [], laidByText := true, laidKinds := [.data], laidTests := true, laidLooks := .later }
def FlowOrdersUptoCardSaid : Prop := Claim7.holds Tryz.pinned (.plain (OpenSpec.upto flowOrdersSpec)) flowOrdersUptoCard
end Rows
end Go.Proofs.YtfeglcpipcjaeaaGreatDoor
