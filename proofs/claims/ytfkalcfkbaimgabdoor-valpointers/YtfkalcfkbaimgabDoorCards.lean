/-
  DERIVED. GIVEN WITH THE SEED: THE CARDS: each row of YtfkalcfkbaimgabDoorRows.lean that lists a variable, with what it lists TIED to the program's text (the seventh form; the later family's looks); each row that meets fmt, with fmt's text TOLD by the authors' own Lean function (tested against real Go, not proved from fmt's source: count such statements apart). THE CARD IS WHAT COUNTS. Prove the row's statement (the work); the ties are given (YtfkalcfkbaimgabDoorTie.lean); close each card by the builder's one call (the guide's Derived/Test/ToyasCard.lean, 'card_holds'). Laid BY PROGRAM, IN A SANDBOX (cutbox-door.mjs). By AI agents, Wed Nov 11 2026. No macro, syntax, notation, axiom, sorry.
-/
import Derived.Test.YtfkalcfkbaimgabDoorRows
import GoSem.ClaimSeven
namespace Go.Proofs.YtfkalcfkbaimgabDoor
namespace Rows

/-- THE TIED CARD OF 'plumboblaw1.ValShifts'. -/
def valShiftsCard : Claim7 := { stood := { row := valShiftsRow, standIns := [], harness := (true, "6431ef41c5ed60f50f64033aaccf2b6f87d9b809db1196f6136aabae1e836a59"), looks := false }, kinds := [], alts := [], laidByText := true, laidKinds := [.data, .data, .data], laidTests := true, laidLooks := .later }
def ValShiftsCardSaid : Prop := Claim7.holds Tryd.pinned (.plain (OpenSpec.ofChange valShiftsSpec)) valShiftsCard

/-- THE TIED CARD OF 'plumboblaw1.ValPointers'. -/
def valPointersCard : Claim7 := { stood := { row := valPointersRow, standIns := [], harness := (true, "6431ef41c5ed60f50f64033aaccf2b6f87d9b809db1196f6136aabae1e836a59"), looks := false }, kinds := [], alts := [], laidByText := true, laidKinds := [.data, .data, .data], laidTests := true, laidLooks := .later }
def ValPointersCardSaid : Prop := Claim7.holds Tryd.pinned (.plain (OpenSpec.ofChange valPointersSpec)) valPointersCard

/-- THE SECOND FORM's CARD OF 'plumboblaw1.ValShifts'. -/
def valShiftsUptoCard : Claim7 := { stood := { row := valShiftsUptoRow, standIns := [], harness := (true, "6431ef41c5ed60f50f64033aaccf2b6f87d9b809db1196f6136aabae1e836a59"), looks := false }, kinds := [], alts := [], laidByText := true, laidKinds := [.data, .data, .data], laidTests := true, laidLooks := .later }
def ValShiftsUptoCardSaid : Prop := Claim7.holds Tryd.pinned (.plain (OpenSpec.upto valShiftsSpec)) valShiftsUptoCard

/-- THE SECOND FORM's CARD OF 'plumboblaw1.ValPointers'. -/
def valPointersUptoCard : Claim7 := { stood := { row := valPointersUptoRow, standIns := [], harness := (true, "6431ef41c5ed60f50f64033aaccf2b6f87d9b809db1196f6136aabae1e836a59"), looks := false }, kinds := [], alts := [], laidByText := true, laidKinds := [.data, .data, .data], laidTests := true, laidLooks := .later }
def ValPointersUptoCardSaid : Prop := Claim7.holds Tryd.pinned (.plain (OpenSpec.upto valPointersSpec)) valPointersUptoCard
end Rows
end Go.Proofs.YtfkalcfkbaimgabDoor
