/-
  DERIVED. GIVEN WITH THE SEED: THE CARDS: each row of YthieicjnenlpfaaGreatDoorRows.lean that lists a variable, with what it lists TIED to the program's text (the seventh form; the later family's looks); each row that meets fmt, with fmt's text TOLD by the authors' own Lean function (tested against real Go, not proved from fmt's source: count such statements apart). THE CARD IS WHAT COUNTS. Prove the row's statement (the work); the ties are given (YthieicjnenlpfaaGreatDoorTie.lean); close each card by the builder's one call (the guide's Derived/Test/ToyasCard.lean, 'card_holds'). Laid BY PROGRAM, IN A SANDBOX (cutbox-door.mjs). By AI agents, Wed Nov 11 2026. No macro, syntax, notation, axiom, sorry.
-/
import Derived.Test.YthieicjnenlpfaaGreatDoorRows
import GoSem.ClaimSeven
namespace Go.Proofs.YthieicjnenlpfaaGreatDoor
namespace Rows

/-- THE TIED CARD OF 'plumboblaw16.LtlGood'. -/
def ltlGoodCard : Claim7 := { stood := { row := ltlGoodRow, standIns := [], harness := (true, "264c978b1bc066c912cbe9cf550911522183dd7b61474e1494ad98b19185bede"), looks := false }, kinds := [], alts := [], laidByText := true, laidKinds := [.data, .data], laidTests := true, laidLooks := .later }
def LtlGoodCardSaid : Prop := Claim7.holds Tryz.pinned (.plain (OpenSpec.ofChange ltlGoodSpec)) ltlGoodCard

/-- THE SECOND FORM's CARD OF 'plumboblaw16.LtlGood'. -/
def ltlGoodUptoCard : Claim7 := { stood := { row := ltlGoodUptoRow, standIns := [], harness := (true, "264c978b1bc066c912cbe9cf550911522183dd7b61474e1494ad98b19185bede"), looks := false }, kinds := [], alts := [], laidByText := true, laidKinds := [.data, .data], laidTests := true, laidLooks := .later }
def LtlGoodUptoCardSaid : Prop := Claim7.holds Tryz.pinned (.plain (OpenSpec.upto ltlGoodSpec)) ltlGoodUptoCard
end Rows
end Go.Proofs.YthieicjnenlpfaaGreatDoor
