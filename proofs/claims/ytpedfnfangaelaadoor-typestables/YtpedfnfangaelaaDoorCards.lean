/-
  DERIVED. GIVEN WITH THE SEED: THE CARDS: each row of YtpedfnfangaelaaDoorRows.lean that lists a variable, with what it lists TIED to the program's text (the seventh form; the later family's looks); each row that meets fmt, with fmt's text TOLD by the authors' own Lean function (tested against real Go, not proved from fmt's source: count such statements apart). THE CARD IS WHAT COUNTS. Prove the row's statement (the work); the ties are given (YtpedfnfangaelaaDoorTie.lean); close each card by the builder's one call (the guide's Derived/Test/ToyasCard.lean, 'card_holds'). Laid BY PROGRAM, IN A SANDBOX (cutbox-door.mjs). By AI agents, Wed Nov 11 2026. No macro, syntax, notation, axiom, sorry.
-/
import Derived.Test.YtpedfnfangaelaaDoorRows
import GoSem.ClaimSeven
namespace Go.Proofs.YtpedfnfangaelaaDoor
namespace Rows

/-- THE TIED CARD OF 'plumboblaw6.TypesKnown'. -/
def typesKnownCard : Claim7 := { stood := { row := typesKnownRow, standIns := [], harness := (true, "29392686a52119d4eeb73c91770ab67103ffef7a474302fbb8fe089bd7741dec"), looks := false }, kinds := [], alts := [], laidByText := true, laidKinds := [.data, .pinned], laidTests := true, laidLooks := .later }
def TypesKnownCardSaid : Prop := Claim7.holds Tryd.pinned (.plain (OpenSpec.ofChange typesKnownSpec)) typesKnownCard

/-- THE TIED CARD OF 'plumboblaw6.TypesTables'. -/
def typesTablesCard : Claim7 := { stood := { row := typesTablesRow, standIns := [], harness := (true, "29392686a52119d4eeb73c91770ab67103ffef7a474302fbb8fe089bd7741dec"), looks := false }, kinds := [], alts := [], laidByText := true, laidKinds := [.data, .pinned], laidTests := true, laidLooks := .later }
def TypesTablesCardSaid : Prop := Claim7.holds Tryd.pinned (.plain (OpenSpec.ofChange typesTablesSpec)) typesTablesCard

/-- THE TIED CARD OF 'plumboblaw6.TypesJoins'. -/
def typesJoinsCard : Claim7 := { stood := { row := typesJoinsRow, standIns := [], harness := (true, "29392686a52119d4eeb73c91770ab67103ffef7a474302fbb8fe089bd7741dec"), looks := false }, kinds := [], alts := [], laidByText := true, laidKinds := [.data, .pinned], laidTests := true, laidLooks := .later }
def TypesJoinsCardSaid : Prop := Claim7.holds Tryd.pinned (.plain (OpenSpec.ofChange typesJoinsSpec)) typesJoinsCard

/-- THE TIED CARD OF 'plumboblaw6.TypesPlaces'. -/
def typesPlacesCard : Claim7 := { stood := { row := typesPlacesRow, standIns := [], harness := (true, "29392686a52119d4eeb73c91770ab67103ffef7a474302fbb8fe089bd7741dec"), looks := false }, kinds := [], alts := [], laidByText := true, laidKinds := [.data, .pinned], laidTests := true, laidLooks := .later }
def TypesPlacesCardSaid : Prop := Claim7.holds Tryd.pinned (.plain (OpenSpec.ofChange typesPlacesSpec)) typesPlacesCard

/-- THE SECOND FORM's CARD OF 'plumboblaw6.TypesKnown'. -/
def typesKnownUptoCard : Claim7 := { stood := { row := typesKnownUptoRow, standIns := [], harness := (true, "29392686a52119d4eeb73c91770ab67103ffef7a474302fbb8fe089bd7741dec"), looks := false }, kinds := [], alts := [], laidByText := true, laidKinds := [.data, .pinned], laidTests := true, laidLooks := .later }
def TypesKnownUptoCardSaid : Prop := Claim7.holds Tryd.pinned (.plain (OpenSpec.upto typesKnownSpec)) typesKnownUptoCard

/-- THE SECOND FORM's CARD OF 'plumboblaw6.TypesTables'. -/
def typesTablesUptoCard : Claim7 := { stood := { row := typesTablesUptoRow, standIns := [], harness := (true, "29392686a52119d4eeb73c91770ab67103ffef7a474302fbb8fe089bd7741dec"), looks := false }, kinds := [], alts := [], laidByText := true, laidKinds := [.data, .pinned], laidTests := true, laidLooks := .later }
def TypesTablesUptoCardSaid : Prop := Claim7.holds Tryd.pinned (.plain (OpenSpec.upto typesTablesSpec)) typesTablesUptoCard

/-- THE SECOND FORM's CARD OF 'plumboblaw6.TypesJoins'. -/
def typesJoinsUptoCard : Claim7 := { stood := { row := typesJoinsUptoRow, standIns := [], harness := (true, "29392686a52119d4eeb73c91770ab67103ffef7a474302fbb8fe089bd7741dec"), looks := false }, kinds := [], alts := [], laidByText := true, laidKinds := [.data, .pinned], laidTests := true, laidLooks := .later }
def TypesJoinsUptoCardSaid : Prop := Claim7.holds Tryd.pinned (.plain (OpenSpec.upto typesJoinsSpec)) typesJoinsUptoCard

/-- THE SECOND FORM's CARD OF 'plumboblaw6.TypesPlaces'. -/
def typesPlacesUptoCard : Claim7 := { stood := { row := typesPlacesUptoRow, standIns := [], harness := (true, "29392686a52119d4eeb73c91770ab67103ffef7a474302fbb8fe089bd7741dec"), looks := false }, kinds := [], alts := [], laidByText := true, laidKinds := [.data, .pinned], laidTests := true, laidLooks := .later }
def TypesPlacesUptoCardSaid : Prop := Claim7.holds Tryd.pinned (.plain (OpenSpec.upto typesPlacesSpec)) typesPlacesUptoCard
end Rows
end Go.Proofs.YtpedfnfangaelaaDoor
