/-
  NARROWER THAN 'FOR EVERY INPUT', by the rows' own cells (each row's printed sentence says how): TypesKnown: laid · TypesTables: laid · TypesJoins: laid · TypesPlaces: laid.
  DERIVED. THE GIVEN ROWS OF THIS SEAT. 4 by the template 'for every input the law returns true; each argument reads behind the call as it read before'; 0 by the template 'total and deterministic' (their statements: YtpedfnfangaelaaDoorTotals.lean).
  GIVEN WITH THE SEED: the statements are not yours to turn. If you find one false, say at which input.
  Laid BY PROGRAM, IN A SANDBOX (cutbox-rows.mjs): the forced cells as the released guide's own fill.sh prints them over the translation abd8af27e72c852a… (all of the seat's roots in one cut). By AI agents, Wed Nov 11 2026. No macro, syntax, notation, axiom, sorry.
-/
import Derived.Test.YtpedfnfangaelaaDoorChecked
import GoSem.PinnedTables
import GoSem.Claim
import GoSem.ClaimJoined
import GoSem.ClaimMapViews
import Derived.JoinedTies
import Derived.KernelRfl
namespace Go.Proofs.YtpedfnfangaelaaDoor
/- THE CELL 'sum', in the pinned program and in every row, IS THE sha256 OF THE DUMP (.gsa) THAT YtpedfnfangaelaaDoorProg.lean LOADS. Nothing in Lean hashes anything: it is a label: what it is worth is what the hold of that sum in a sandbox is worth. -/
noncomputable def Tryd.pinned : Pinned := { name := "ytpedfnfangaelaadoor", sum := "abd8af27e72c852ad5217638e1b406b9690ab08b2f89eb830f5716a9ae9f2afd", checked := Tryd.checked }
namespace Rows
def none {H : Type} : Left H := { results := [], args := [] }

/- WHAT THE LISTED PACKAGE-LEVEL VARIABLES READ AS WHEN THE CALL BEGINS. Each datum BY PROGRAM (the guide's laid-datum.mjs) off the statement by which the dump's own 'gosem.cut.vars' lays the variable. In a bare row this is a premise. The card (YtpedfnfangaelaaDoorCards.lean) ties it to the program's text. -/
def laid_unicode_utf8_acceptRanges {H : Type} : DataW H := .agg [.agg [.lit (.int .u8 128), .lit (.int .u8 191)], .agg [.lit (.int .u8 160), .lit (.int .u8 191)], .agg [.lit (.int .u8 128), .lit (.int .u8 159)], .agg [.lit (.int .u8 144), .lit (.int .u8 191)], .agg [.lit (.int .u8 128), .lit (.int .u8 143)], .agg [.lit (.int .u8 0), .lit (.int .u8 0)], .agg [.lit (.int .u8 0), .lit (.int .u8 0)], .agg [.lit (.int .u8 0), .lit (.int .u8 0)], .agg [.lit (.int .u8 0), .lit (.int .u8 0)], .agg [.lit (.int .u8 0), .lit (.int .u8 0)], .agg [.lit (.int .u8 0), .lit (.int .u8 0)], .agg [.lit (.int .u8 0), .lit (.int .u8 0)], .agg [.lit (.int .u8 0), .lit (.int .u8 0)], .agg [.lit (.int .u8 0), .lit (.int .u8 0)], .agg [.lit (.int .u8 0), .lit (.int .u8 0)], .agg [.lit (.int .u8 0), .lit (.int .u8 0)]]
/-- One of Go's own tables, pinned by name: the form's constant. -/
def laid_unicode_utf8_first : DataW Unit := Go.Pinned.utf8First

/-- 'plumboblaw6.TypesKnown': WHATEVER THE INPUT: true; the input reads as it did. -/
def typesKnownSpec : ChangeSpec := { name := "typesKnown", fn := fun _ => fun
  | [] => { results := [.lit (.bool true)], args := [] }
  | _ => none }
def typesKnownRow : OpenClaim := { program := "ytpedfnfangaelaadoor", sum := "abd8af27e72c852ad5217638e1b406b9690ab08b2f89eb830f5716a9ae9f2afd", func := "plumbob/plumboblaw6.TypesKnown", spec := "typesKnown", inPlace := ["internal/bytealg.IndexByteString", "internal/bytealg.IndexString"], named := ["internal/bytealg.MaxLen", "unicode/utf8.first", "unicode/utf8.acceptRanges"], apart := false, laid := [("unicode/utf8.acceptRanges", laid_unicode_utf8_acceptRanges), ("unicode/utf8.first", laid_unicode_utf8_first)] }
def TypesKnownSaid : Prop := typesKnownRow.holds Tryd.pinned (OpenSpec.ofChange typesKnownSpec)

/-- ITS FALSE NEIGHBOUR: 'it returns false'. Refute it at one input. -/
def typesKnownWrong : ChangeSpec := { name := "typesKnown", fn := fun _ => fun
  | [] => { results := [.lit (.bool false)], args := [] }
  | _ => none }
def TypesKnownWrongFalsely : Prop := typesKnownRow.holds Tryd.pinned (OpenSpec.ofChange typesKnownWrong)

/-- 'plumboblaw6.TypesTables': WHATEVER THE INPUT: true; the input reads as it did. -/
def typesTablesSpec : ChangeSpec := { name := "typesTables", fn := fun _ => fun
  | [d1, d2] => { results := [.lit (.bool true)], args := [d1, d2] }
  | _ => none }
def typesTablesRow : OpenClaim := { program := "ytpedfnfangaelaadoor", sum := "abd8af27e72c852ad5217638e1b406b9690ab08b2f89eb830f5716a9ae9f2afd", func := "plumbob/plumboblaw6.TypesTables", spec := "typesTables", inPlace := ["internal/bytealg.IndexByteString", "internal/bytealg.IndexString"], recurses := true, named := ["internal/bytealg.MaxLen", "unicode/utf8.first", "unicode/utf8.acceptRanges"], apart := false, laid := [("unicode/utf8.acceptRanges", laid_unicode_utf8_acceptRanges), ("unicode/utf8.first", laid_unicode_utf8_first)] }
def TypesTablesSaid : Prop := typesTablesRow.holds Tryd.pinned (OpenSpec.ofChange typesTablesSpec)

/-- ITS FALSE NEIGHBOUR: 'it returns false'. Refute it at one input. -/
def typesTablesWrong : ChangeSpec := { name := "typesTables", fn := fun _ => fun
  | [d1, d2] => { results := [.lit (.bool false)], args := [d1, d2] }
  | _ => none }
def TypesTablesWrongFalsely : Prop := typesTablesRow.holds Tryd.pinned (OpenSpec.ofChange typesTablesWrong)

/-- 'plumboblaw6.TypesJoins': WHATEVER THE INPUT: true; the input reads as it did. -/
def typesJoinsSpec : ChangeSpec := { name := "typesJoins", fn := fun _ => fun
  | [d1, d2] => { results := [.lit (.bool true)], args := [d1, d2] }
  | _ => none }
def typesJoinsRow : OpenClaim := { program := "ytpedfnfangaelaadoor", sum := "abd8af27e72c852ad5217638e1b406b9690ab08b2f89eb830f5716a9ae9f2afd", func := "plumbob/plumboblaw6.TypesJoins", spec := "typesJoins", inPlace := ["internal/bytealg.IndexByteString", "internal/bytealg.IndexString"], named := ["internal/bytealg.MaxLen", "unicode/utf8.first", "unicode/utf8.acceptRanges"], apart := false, laid := [("unicode/utf8.acceptRanges", laid_unicode_utf8_acceptRanges), ("unicode/utf8.first", laid_unicode_utf8_first)] }
def TypesJoinsSaid : Prop := typesJoinsRow.holds Tryd.pinned (OpenSpec.ofChange typesJoinsSpec)

/-- ITS FALSE NEIGHBOUR: 'it returns false'. Refute it at one input. -/
def typesJoinsWrong : ChangeSpec := { name := "typesJoins", fn := fun _ => fun
  | [d1, d2] => { results := [.lit (.bool false)], args := [d1, d2] }
  | _ => none }
def TypesJoinsWrongFalsely : Prop := typesJoinsRow.holds Tryd.pinned (OpenSpec.ofChange typesJoinsWrong)

/-- 'plumboblaw6.TypesPlaces': WHATEVER THE INPUT: true; the input reads as it did. -/
def typesPlacesSpec : ChangeSpec := { name := "typesPlaces", fn := fun _ => fun
  | [d] => { results := [.lit (.bool true)], args := [d] }
  | _ => none }
def typesPlacesRow : OpenClaim := { program := "ytpedfnfangaelaadoor", sum := "abd8af27e72c852ad5217638e1b406b9690ab08b2f89eb830f5716a9ae9f2afd", func := "plumbob/plumboblaw6.TypesPlaces", spec := "typesPlaces", inPlace := ["internal/bytealg.IndexByteString", "internal/bytealg.IndexString"], named := ["internal/bytealg.MaxLen", "unicode/utf8.first", "unicode/utf8.acceptRanges"], apart := false, laid := [("unicode/utf8.acceptRanges", laid_unicode_utf8_acceptRanges), ("unicode/utf8.first", laid_unicode_utf8_first)] }
def TypesPlacesSaid : Prop := typesPlacesRow.holds Tryd.pinned (OpenSpec.ofChange typesPlacesSpec)

/-- ITS FALSE NEIGHBOUR: 'it returns false'. Refute it at one input. -/
def typesPlacesWrong : ChangeSpec := { name := "typesPlaces", fn := fun _ => fun
  | [d] => { results := [.lit (.bool false)], args := [d] }
  | _ => none }
def TypesPlacesWrongFalsely : Prop := typesPlacesRow.holds Tryd.pinned (OpenSpec.ofChange typesPlacesWrong)

/- THE SECOND FORM. 'bulk': how many values and letters a reading holds, each counted each time it is reached (what is shared counts as often as it is met; a slice's spare places count too). A statement '..UptoSaid' is the law's where the arguments, and the package variables that the reading takes, are together of bulk at most 1048576: NARROWER than '..Said'. Prove '..Said' where nothing that the law and all that it calls make is longer than what came in: it says more and counts as full. Else prove '..UptoSaid'. A law counts once. -/
mutual
def uptoBulk {H : Type} : DataW H → Nat
  | .lit (.string bytes) => bytes.length + 1
  | .lit _ => 1
  | .nil => 1
  | .ptr d => uptoBulk d + 1
  | .slice elems spare => uptoBulkAll elems + uptoBulkAll spare + 1
  | .agg parts => uptoBulkAll parts + 1
  | .iface _ d => uptoBulk d + 1
  | .map entries => uptoBulkEntries entries + 1
  | .held _ => 1
def uptoBulkAll {H : Type} : List (DataW H) → Nat
  | [] => 0
  | d :: r => uptoBulk d + uptoBulkAll r
def uptoBulkEntries {H : Type} : List (Lit × DataW H) → Nat
  | [] => 0
  | x :: r => uptoBulkEntry x + uptoBulkEntries r
def uptoBulkEntry {H : Type} : Lit × DataW H → Nat
  | (.string bytes, d) => bytes.length + uptoBulk d + 1
  | (_, d) => uptoBulk d + 1
 end
def uptoSmall : (H : Type) → List (DataW H) → Bool := fun _ ds => decide (uptoBulkAll ds ≤ 1048576)
def OpenSpec.upto (s : _root_.Go.ChangeSpec) : _root_.Go.OpenSpec := { _root_.Go.OpenSpec.ofChange s with cond := some uptoSmall }

/-- 'plumboblaw6.TypesKnown', WHERE WHAT IT READS IS OF BULK AT MOST 1048576: true; the input reads as it did. -/
def typesKnownUptoRow : OpenClaim := { program := "ytpedfnfangaelaadoor", sum := "abd8af27e72c852ad5217638e1b406b9690ab08b2f89eb830f5716a9ae9f2afd", func := "plumbob/plumboblaw6.TypesKnown", spec := "typesKnown", inPlace := ["internal/bytealg.IndexByteString", "internal/bytealg.IndexString"], named := ["internal/bytealg.MaxLen", "unicode/utf8.first", "unicode/utf8.acceptRanges"], apart := false, laid := [("unicode/utf8.acceptRanges", laid_unicode_utf8_acceptRanges), ("unicode/utf8.first", laid_unicode_utf8_first)], narrowed := true }
def TypesKnownUptoSaid : Prop := typesKnownUptoRow.holds Tryd.pinned (OpenSpec.upto typesKnownSpec)

/-- 'plumboblaw6.TypesTables', WHERE WHAT IT READS IS OF BULK AT MOST 1048576: true; the input reads as it did. -/
def typesTablesUptoRow : OpenClaim := { program := "ytpedfnfangaelaadoor", sum := "abd8af27e72c852ad5217638e1b406b9690ab08b2f89eb830f5716a9ae9f2afd", func := "plumbob/plumboblaw6.TypesTables", spec := "typesTables", inPlace := ["internal/bytealg.IndexByteString", "internal/bytealg.IndexString"], recurses := true, named := ["internal/bytealg.MaxLen", "unicode/utf8.first", "unicode/utf8.acceptRanges"], apart := false, laid := [("unicode/utf8.acceptRanges", laid_unicode_utf8_acceptRanges), ("unicode/utf8.first", laid_unicode_utf8_first)], narrowed := true }
def TypesTablesUptoSaid : Prop := typesTablesUptoRow.holds Tryd.pinned (OpenSpec.upto typesTablesSpec)

/-- 'plumboblaw6.TypesJoins', WHERE WHAT IT READS IS OF BULK AT MOST 1048576: true; the input reads as it did. -/
def typesJoinsUptoRow : OpenClaim := { program := "ytpedfnfangaelaadoor", sum := "abd8af27e72c852ad5217638e1b406b9690ab08b2f89eb830f5716a9ae9f2afd", func := "plumbob/plumboblaw6.TypesJoins", spec := "typesJoins", inPlace := ["internal/bytealg.IndexByteString", "internal/bytealg.IndexString"], named := ["internal/bytealg.MaxLen", "unicode/utf8.first", "unicode/utf8.acceptRanges"], apart := false, laid := [("unicode/utf8.acceptRanges", laid_unicode_utf8_acceptRanges), ("unicode/utf8.first", laid_unicode_utf8_first)], narrowed := true }
def TypesJoinsUptoSaid : Prop := typesJoinsUptoRow.holds Tryd.pinned (OpenSpec.upto typesJoinsSpec)

/-- 'plumboblaw6.TypesPlaces', WHERE WHAT IT READS IS OF BULK AT MOST 1048576: true; the input reads as it did. -/
def typesPlacesUptoRow : OpenClaim := { program := "ytpedfnfangaelaadoor", sum := "abd8af27e72c852ad5217638e1b406b9690ab08b2f89eb830f5716a9ae9f2afd", func := "plumbob/plumboblaw6.TypesPlaces", spec := "typesPlaces", inPlace := ["internal/bytealg.IndexByteString", "internal/bytealg.IndexString"], named := ["internal/bytealg.MaxLen", "unicode/utf8.first", "unicode/utf8.acceptRanges"], apart := false, laid := [("unicode/utf8.acceptRanges", laid_unicode_utf8_acceptRanges), ("unicode/utf8.first", laid_unicode_utf8_first)], narrowed := true }
def TypesPlacesUptoSaid : Prop := typesPlacesUptoRow.holds Tryd.pinned (OpenSpec.upto typesPlacesSpec)

end Rows
end Go.Proofs.YtpedfnfangaelaaDoor
