/-
  NARROWER THAN 'FOR EVERY INPUT', by the rows' own cells (each row's printed sentence says how): FnExactIsEntryName: laid · FnExactValidCatalogue: laid · FnExactFindEntry: laid · FnExactPreferredOf: laid · FnExactPathUp: laid · FnExactNarrowerOf: laid · FnExactSynonymsOf: laid · FnExactExpandEntry: laid · FnExactCommonBroader: laid · FnExactTopsOf: laid · FnExactAddEntry: laid.
  DERIVED. THE GIVEN ROWS OF THIS SEAT. 11 by the template 'for every input the law returns true; each argument reads behind the call as it read before'; 0 by the template 'total and deterministic' (their statements: YtcbcggnpbjcdfaaDoorTotals.lean).
  GIVEN WITH THE SEED: the statements are not yours to turn. If you find one false, say at which input.
  Laid BY PROGRAM, IN A SANDBOX (cutbox-rows.mjs): the forced cells as the released guide's own fill.sh prints them over the translation e973eb7ec566f704… (all of the seat's roots in one cut). By AI agents, Wed Nov 11 2026. No macro, syntax, notation, axiom, sorry.
-/
import Derived.Test.YtcbcggnpbjcdfaaDoorChecked
import GoSem.PinnedTables
import GoSem.Claim
import GoSem.ClaimJoined
import GoSem.ClaimMapViews
import Derived.JoinedTies
import Derived.KernelRfl
namespace Go.Proofs.YtcbcggnpbjcdfaaDoor
/- THE CELL 'sum', in the pinned program and in every row, IS THE sha256 OF THE DUMP (.gsa) THAT YtcbcggnpbjcdfaaDoorProg.lean LOADS. Nothing in Lean hashes anything: it is a label: what it is worth is what the hold of that sum in a sandbox is worth. -/
noncomputable def Tryd.pinned : Pinned := { name := "ytcbcggnpbjcdfaadoor", sum := "e973eb7ec566f704852aa13f044aa6c2d52aaf0d113fd62cc33bd1104e5f1c42", checked := Tryd.checked }
namespace Rows
def none {H : Type} : Left H := { results := [], args := [] }

/- WHAT THE LISTED PACKAGE-LEVEL VARIABLES READ AS WHEN THE CALL BEGINS. Each datum BY PROGRAM (the guide's laid-datum.mjs) off the statement by which the dump's own 'gosem.cut.vars' lays the variable. In a bare row this is a premise. The card (YtcbcggnpbjcdfaaDoorCards.lean) ties it to the program's text. -/
def laid_unicode_utf8_acceptRanges {H : Type} : DataW H := .agg [.agg [.lit (.int .u8 128), .lit (.int .u8 191)], .agg [.lit (.int .u8 160), .lit (.int .u8 191)], .agg [.lit (.int .u8 128), .lit (.int .u8 159)], .agg [.lit (.int .u8 144), .lit (.int .u8 191)], .agg [.lit (.int .u8 128), .lit (.int .u8 143)], .agg [.lit (.int .u8 0), .lit (.int .u8 0)], .agg [.lit (.int .u8 0), .lit (.int .u8 0)], .agg [.lit (.int .u8 0), .lit (.int .u8 0)], .agg [.lit (.int .u8 0), .lit (.int .u8 0)], .agg [.lit (.int .u8 0), .lit (.int .u8 0)], .agg [.lit (.int .u8 0), .lit (.int .u8 0)], .agg [.lit (.int .u8 0), .lit (.int .u8 0)], .agg [.lit (.int .u8 0), .lit (.int .u8 0)], .agg [.lit (.int .u8 0), .lit (.int .u8 0)], .agg [.lit (.int .u8 0), .lit (.int .u8 0)], .agg [.lit (.int .u8 0), .lit (.int .u8 0)]]
/-- One of Go's own tables, pinned by name: the form's constant. -/
def laid_unicode_utf8_first : DataW Unit := Go.Pinned.utf8First

/-- 'laws.FnExactIsEntryName': WHATEVER THE INPUT: true; the input reads as it did. -/
def fnExactIsEntryNameSpec : ChangeSpec := { name := "fnExactIsEntryName", fn := fun _ => fun
  | [d] => { results := [.lit (.bool true)], args := [d] }
  | _ => none }
def fnExactIsEntryNameRow : OpenClaim := { program := "ytcbcggnpbjcdfaadoor", sum := "e973eb7ec566f704852aa13f044aa6c2d52aaf0d113fd62cc33bd1104e5f1c42", func := "loop.example/g01261/laws.FnExactIsEntryName", spec := "fnExactIsEntryName", inPlace := ["internal/bytealg.IndexByteString", "internal/bytealg.IndexString"], unfollowed := true, recurses := true, named := ["unicode/utf8.first", "unicode/utf8.acceptRanges", "internal/bytealg.MaxLen"], plainKeys := false, apart := false, laid := [("unicode/utf8.acceptRanges", laid_unicode_utf8_acceptRanges), ("unicode/utf8.first", laid_unicode_utf8_first)] }
def FnExactIsEntryNameSaid : Prop := fnExactIsEntryNameRow.holds Tryd.pinned (OpenSpec.ofChange fnExactIsEntryNameSpec)

/-- ITS FALSE NEIGHBOUR: 'it returns false'. Refute it at one input. -/
def fnExactIsEntryNameWrong : ChangeSpec := { name := "fnExactIsEntryName", fn := fun _ => fun
  | [d] => { results := [.lit (.bool false)], args := [d] }
  | _ => none }
def FnExactIsEntryNameWrongFalsely : Prop := fnExactIsEntryNameRow.holds Tryd.pinned (OpenSpec.ofChange fnExactIsEntryNameWrong)

/-- 'laws.FnExactValidCatalogue': WHATEVER THE INPUT: true; the input reads as it did. -/
def fnExactValidCatalogueSpec : ChangeSpec := { name := "fnExactValidCatalogue", fn := fun _ => fun
  | [d] => { results := [.lit (.bool true)], args := [d] }
  | _ => none }
def fnExactValidCatalogueRow : OpenClaim := { program := "ytcbcggnpbjcdfaadoor", sum := "e973eb7ec566f704852aa13f044aa6c2d52aaf0d113fd62cc33bd1104e5f1c42", func := "loop.example/g01261/laws.FnExactValidCatalogue", spec := "fnExactValidCatalogue", inPlace := ["internal/bytealg.IndexByteString", "internal/bytealg.IndexString"], unfollowed := true, recurses := true, named := ["unicode/utf8.first", "unicode/utf8.acceptRanges", "internal/bytealg.MaxLen"], plainKeys := false, apart := false, laid := [("unicode/utf8.acceptRanges", laid_unicode_utf8_acceptRanges), ("unicode/utf8.first", laid_unicode_utf8_first)] }
def FnExactValidCatalogueSaid : Prop := fnExactValidCatalogueRow.holds Tryd.pinned (OpenSpec.ofChange fnExactValidCatalogueSpec)

/-- ITS FALSE NEIGHBOUR: 'it returns false'. Refute it at one input. -/
def fnExactValidCatalogueWrong : ChangeSpec := { name := "fnExactValidCatalogue", fn := fun _ => fun
  | [d] => { results := [.lit (.bool false)], args := [d] }
  | _ => none }
def FnExactValidCatalogueWrongFalsely : Prop := fnExactValidCatalogueRow.holds Tryd.pinned (OpenSpec.ofChange fnExactValidCatalogueWrong)

/-- 'laws.FnExactFindEntry': WHATEVER THE INPUT: true; the input reads as it did. -/
def fnExactFindEntrySpec : ChangeSpec := { name := "fnExactFindEntry", fn := fun _ => fun
  | [d1, d2] => { results := [.lit (.bool true)], args := [d1, d2] }
  | _ => none }
def fnExactFindEntryRow : OpenClaim := { program := "ytcbcggnpbjcdfaadoor", sum := "e973eb7ec566f704852aa13f044aa6c2d52aaf0d113fd62cc33bd1104e5f1c42", func := "loop.example/g01261/laws.FnExactFindEntry", spec := "fnExactFindEntry", inPlace := ["internal/bytealg.IndexByteString", "internal/bytealg.IndexString"], unfollowed := true, recurses := true, named := ["unicode/utf8.first", "unicode/utf8.acceptRanges", "internal/bytealg.MaxLen"], plainKeys := false, apart := false, laid := [("unicode/utf8.acceptRanges", laid_unicode_utf8_acceptRanges), ("unicode/utf8.first", laid_unicode_utf8_first)] }
def FnExactFindEntrySaid : Prop := fnExactFindEntryRow.holds Tryd.pinned (OpenSpec.ofChange fnExactFindEntrySpec)

/-- ITS FALSE NEIGHBOUR: 'it returns false'. Refute it at one input. -/
def fnExactFindEntryWrong : ChangeSpec := { name := "fnExactFindEntry", fn := fun _ => fun
  | [d1, d2] => { results := [.lit (.bool false)], args := [d1, d2] }
  | _ => none }
def FnExactFindEntryWrongFalsely : Prop := fnExactFindEntryRow.holds Tryd.pinned (OpenSpec.ofChange fnExactFindEntryWrong)

/-- 'laws.FnExactPreferredOf': WHATEVER THE INPUT: true; the input reads as it did. -/
def fnExactPreferredOfSpec : ChangeSpec := { name := "fnExactPreferredOf", fn := fun _ => fun
  | [d1, d2] => { results := [.lit (.bool true)], args := [d1, d2] }
  | _ => none }
def fnExactPreferredOfRow : OpenClaim := { program := "ytcbcggnpbjcdfaadoor", sum := "e973eb7ec566f704852aa13f044aa6c2d52aaf0d113fd62cc33bd1104e5f1c42", func := "loop.example/g01261/laws.FnExactPreferredOf", spec := "fnExactPreferredOf", inPlace := ["internal/bytealg.IndexByteString", "internal/bytealg.IndexString"], unfollowed := true, recurses := true, named := ["unicode/utf8.first", "unicode/utf8.acceptRanges", "internal/bytealg.MaxLen"], plainKeys := false, apart := false, laid := [("unicode/utf8.acceptRanges", laid_unicode_utf8_acceptRanges), ("unicode/utf8.first", laid_unicode_utf8_first)] }
def FnExactPreferredOfSaid : Prop := fnExactPreferredOfRow.holds Tryd.pinned (OpenSpec.ofChange fnExactPreferredOfSpec)

/-- ITS FALSE NEIGHBOUR: 'it returns false'. Refute it at one input. -/
def fnExactPreferredOfWrong : ChangeSpec := { name := "fnExactPreferredOf", fn := fun _ => fun
  | [d1, d2] => { results := [.lit (.bool false)], args := [d1, d2] }
  | _ => none }
def FnExactPreferredOfWrongFalsely : Prop := fnExactPreferredOfRow.holds Tryd.pinned (OpenSpec.ofChange fnExactPreferredOfWrong)

/-- 'laws.FnExactPathUp': WHATEVER THE INPUT: true; the input reads as it did. -/
def fnExactPathUpSpec : ChangeSpec := { name := "fnExactPathUp", fn := fun _ => fun
  | [d1, d2] => { results := [.lit (.bool true)], args := [d1, d2] }
  | _ => none }
def fnExactPathUpRow : OpenClaim := { program := "ytcbcggnpbjcdfaadoor", sum := "e973eb7ec566f704852aa13f044aa6c2d52aaf0d113fd62cc33bd1104e5f1c42", func := "loop.example/g01261/laws.FnExactPathUp", spec := "fnExactPathUp", inPlace := ["internal/bytealg.IndexByteString", "internal/bytealg.IndexString"], unfollowed := true, recurses := true, named := ["unicode/utf8.first", "unicode/utf8.acceptRanges", "internal/bytealg.MaxLen"], plainKeys := false, apart := false, laid := [("unicode/utf8.acceptRanges", laid_unicode_utf8_acceptRanges), ("unicode/utf8.first", laid_unicode_utf8_first)] }
def FnExactPathUpSaid : Prop := fnExactPathUpRow.holds Tryd.pinned (OpenSpec.ofChange fnExactPathUpSpec)

/-- ITS FALSE NEIGHBOUR: 'it returns false'. Refute it at one input. -/
def fnExactPathUpWrong : ChangeSpec := { name := "fnExactPathUp", fn := fun _ => fun
  | [d1, d2] => { results := [.lit (.bool false)], args := [d1, d2] }
  | _ => none }
def FnExactPathUpWrongFalsely : Prop := fnExactPathUpRow.holds Tryd.pinned (OpenSpec.ofChange fnExactPathUpWrong)

/-- 'laws.FnExactNarrowerOf': WHATEVER THE INPUT: true; the input reads as it did. -/
def fnExactNarrowerOfSpec : ChangeSpec := { name := "fnExactNarrowerOf", fn := fun _ => fun
  | [d1, d2] => { results := [.lit (.bool true)], args := [d1, d2] }
  | _ => none }
def fnExactNarrowerOfRow : OpenClaim := { program := "ytcbcggnpbjcdfaadoor", sum := "e973eb7ec566f704852aa13f044aa6c2d52aaf0d113fd62cc33bd1104e5f1c42", func := "loop.example/g01261/laws.FnExactNarrowerOf", spec := "fnExactNarrowerOf", inPlace := ["internal/bytealg.IndexByteString", "internal/bytealg.IndexString"], unfollowed := true, recurses := true, named := ["unicode/utf8.first", "unicode/utf8.acceptRanges", "internal/bytealg.MaxLen"], plainKeys := false, apart := false, laid := [("unicode/utf8.acceptRanges", laid_unicode_utf8_acceptRanges), ("unicode/utf8.first", laid_unicode_utf8_first)] }
def FnExactNarrowerOfSaid : Prop := fnExactNarrowerOfRow.holds Tryd.pinned (OpenSpec.ofChange fnExactNarrowerOfSpec)

/-- ITS FALSE NEIGHBOUR: 'it returns false'. Refute it at one input. -/
def fnExactNarrowerOfWrong : ChangeSpec := { name := "fnExactNarrowerOf", fn := fun _ => fun
  | [d1, d2] => { results := [.lit (.bool false)], args := [d1, d2] }
  | _ => none }
def FnExactNarrowerOfWrongFalsely : Prop := fnExactNarrowerOfRow.holds Tryd.pinned (OpenSpec.ofChange fnExactNarrowerOfWrong)

/-- 'laws.FnExactSynonymsOf': WHATEVER THE INPUT: true; the input reads as it did. -/
def fnExactSynonymsOfSpec : ChangeSpec := { name := "fnExactSynonymsOf", fn := fun _ => fun
  | [d1, d2] => { results := [.lit (.bool true)], args := [d1, d2] }
  | _ => none }
def fnExactSynonymsOfRow : OpenClaim := { program := "ytcbcggnpbjcdfaadoor", sum := "e973eb7ec566f704852aa13f044aa6c2d52aaf0d113fd62cc33bd1104e5f1c42", func := "loop.example/g01261/laws.FnExactSynonymsOf", spec := "fnExactSynonymsOf", inPlace := ["internal/bytealg.IndexByteString", "internal/bytealg.IndexString"], unfollowed := true, recurses := true, named := ["unicode/utf8.first", "unicode/utf8.acceptRanges", "internal/bytealg.MaxLen"], plainKeys := false, apart := false, laid := [("unicode/utf8.acceptRanges", laid_unicode_utf8_acceptRanges), ("unicode/utf8.first", laid_unicode_utf8_first)] }
def FnExactSynonymsOfSaid : Prop := fnExactSynonymsOfRow.holds Tryd.pinned (OpenSpec.ofChange fnExactSynonymsOfSpec)

/-- ITS FALSE NEIGHBOUR: 'it returns false'. Refute it at one input. -/
def fnExactSynonymsOfWrong : ChangeSpec := { name := "fnExactSynonymsOf", fn := fun _ => fun
  | [d1, d2] => { results := [.lit (.bool false)], args := [d1, d2] }
  | _ => none }
def FnExactSynonymsOfWrongFalsely : Prop := fnExactSynonymsOfRow.holds Tryd.pinned (OpenSpec.ofChange fnExactSynonymsOfWrong)

/-- 'laws.FnExactExpandEntry': WHATEVER THE INPUT: true; the input reads as it did. -/
def fnExactExpandEntrySpec : ChangeSpec := { name := "fnExactExpandEntry", fn := fun _ => fun
  | [d1, d2] => { results := [.lit (.bool true)], args := [d1, d2] }
  | _ => none }
def fnExactExpandEntryRow : OpenClaim := { program := "ytcbcggnpbjcdfaadoor", sum := "e973eb7ec566f704852aa13f044aa6c2d52aaf0d113fd62cc33bd1104e5f1c42", func := "loop.example/g01261/laws.FnExactExpandEntry", spec := "fnExactExpandEntry", inPlace := ["internal/bytealg.IndexByteString", "internal/bytealg.IndexString"], unfollowed := true, recurses := true, named := ["unicode/utf8.first", "unicode/utf8.acceptRanges", "internal/bytealg.MaxLen"], plainKeys := false, apart := false, laid := [("unicode/utf8.acceptRanges", laid_unicode_utf8_acceptRanges), ("unicode/utf8.first", laid_unicode_utf8_first)] }
def FnExactExpandEntrySaid : Prop := fnExactExpandEntryRow.holds Tryd.pinned (OpenSpec.ofChange fnExactExpandEntrySpec)

/-- ITS FALSE NEIGHBOUR: 'it returns false'. Refute it at one input. -/
def fnExactExpandEntryWrong : ChangeSpec := { name := "fnExactExpandEntry", fn := fun _ => fun
  | [d1, d2] => { results := [.lit (.bool false)], args := [d1, d2] }
  | _ => none }
def FnExactExpandEntryWrongFalsely : Prop := fnExactExpandEntryRow.holds Tryd.pinned (OpenSpec.ofChange fnExactExpandEntryWrong)

/-- 'laws.FnExactCommonBroader': WHATEVER THE INPUT: true; the input reads as it did. -/
def fnExactCommonBroaderSpec : ChangeSpec := { name := "fnExactCommonBroader", fn := fun _ => fun
  | [d1, d2, d3] => { results := [.lit (.bool true)], args := [d1, d2, d3] }
  | _ => none }
def fnExactCommonBroaderRow : OpenClaim := { program := "ytcbcggnpbjcdfaadoor", sum := "e973eb7ec566f704852aa13f044aa6c2d52aaf0d113fd62cc33bd1104e5f1c42", func := "loop.example/g01261/laws.FnExactCommonBroader", spec := "fnExactCommonBroader", inPlace := ["internal/bytealg.IndexByteString", "internal/bytealg.IndexString"], unfollowed := true, recurses := true, named := ["unicode/utf8.first", "unicode/utf8.acceptRanges", "internal/bytealg.MaxLen"], plainKeys := false, apart := false, laid := [("unicode/utf8.acceptRanges", laid_unicode_utf8_acceptRanges), ("unicode/utf8.first", laid_unicode_utf8_first)] }
def FnExactCommonBroaderSaid : Prop := fnExactCommonBroaderRow.holds Tryd.pinned (OpenSpec.ofChange fnExactCommonBroaderSpec)

/-- ITS FALSE NEIGHBOUR: 'it returns false'. Refute it at one input. -/
def fnExactCommonBroaderWrong : ChangeSpec := { name := "fnExactCommonBroader", fn := fun _ => fun
  | [d1, d2, d3] => { results := [.lit (.bool false)], args := [d1, d2, d3] }
  | _ => none }
def FnExactCommonBroaderWrongFalsely : Prop := fnExactCommonBroaderRow.holds Tryd.pinned (OpenSpec.ofChange fnExactCommonBroaderWrong)

/-- 'laws.FnExactTopsOf': WHATEVER THE INPUT: true; the input reads as it did. -/
def fnExactTopsOfSpec : ChangeSpec := { name := "fnExactTopsOf", fn := fun _ => fun
  | [d] => { results := [.lit (.bool true)], args := [d] }
  | _ => none }
def fnExactTopsOfRow : OpenClaim := { program := "ytcbcggnpbjcdfaadoor", sum := "e973eb7ec566f704852aa13f044aa6c2d52aaf0d113fd62cc33bd1104e5f1c42", func := "loop.example/g01261/laws.FnExactTopsOf", spec := "fnExactTopsOf", inPlace := ["internal/bytealg.IndexByteString", "internal/bytealg.IndexString"], unfollowed := true, recurses := true, named := ["unicode/utf8.first", "unicode/utf8.acceptRanges", "internal/bytealg.MaxLen"], plainKeys := false, apart := false, laid := [("unicode/utf8.acceptRanges", laid_unicode_utf8_acceptRanges), ("unicode/utf8.first", laid_unicode_utf8_first)] }
def FnExactTopsOfSaid : Prop := fnExactTopsOfRow.holds Tryd.pinned (OpenSpec.ofChange fnExactTopsOfSpec)

/-- ITS FALSE NEIGHBOUR: 'it returns false'. Refute it at one input. -/
def fnExactTopsOfWrong : ChangeSpec := { name := "fnExactTopsOf", fn := fun _ => fun
  | [d] => { results := [.lit (.bool false)], args := [d] }
  | _ => none }
def FnExactTopsOfWrongFalsely : Prop := fnExactTopsOfRow.holds Tryd.pinned (OpenSpec.ofChange fnExactTopsOfWrong)

/-- 'laws.FnExactAddEntry': WHATEVER THE INPUT: true; the input reads as it did. -/
def fnExactAddEntrySpec : ChangeSpec := { name := "fnExactAddEntry", fn := fun _ => fun
  | [d1, d2] => { results := [.lit (.bool true)], args := [d1, d2] }
  | _ => none }
def fnExactAddEntryRow : OpenClaim := { program := "ytcbcggnpbjcdfaadoor", sum := "e973eb7ec566f704852aa13f044aa6c2d52aaf0d113fd62cc33bd1104e5f1c42", func := "loop.example/g01261/laws.FnExactAddEntry", spec := "fnExactAddEntry", inPlace := ["internal/bytealg.IndexByteString", "internal/bytealg.IndexString"], unfollowed := true, recurses := true, named := ["unicode/utf8.first", "unicode/utf8.acceptRanges", "internal/bytealg.MaxLen"], plainKeys := false, apart := false, laid := [("unicode/utf8.acceptRanges", laid_unicode_utf8_acceptRanges), ("unicode/utf8.first", laid_unicode_utf8_first)] }
def FnExactAddEntrySaid : Prop := fnExactAddEntryRow.holds Tryd.pinned (OpenSpec.ofChange fnExactAddEntrySpec)

/-- ITS FALSE NEIGHBOUR: 'it returns false'. Refute it at one input. -/
def fnExactAddEntryWrong : ChangeSpec := { name := "fnExactAddEntry", fn := fun _ => fun
  | [d1, d2] => { results := [.lit (.bool false)], args := [d1, d2] }
  | _ => none }
def FnExactAddEntryWrongFalsely : Prop := fnExactAddEntryRow.holds Tryd.pinned (OpenSpec.ofChange fnExactAddEntryWrong)

/- THE SECOND FORM. 'bulk': how many values and letters a reading holds, each counted each time it is reached (what is shared counts as often as it is met; a slice's spare places count too). A statement '..UptoSaid' is the law's where the arguments, and the package variables that the reading takes, are together of bulk at most 1048576: NARROWER than '..Said'. Prove '..Said' where nothing that the law and all that it calls make is longer than what came in: it says more and counts as full. Else prove '..UptoSaid'. A law counts once. -/
mutual
def uptoBulk {H : Type} : DataW H → Nat
  | .lit (.string bytes) => bytes.length + 1
  | .lit _ => 1
  | .nil => 1
  | .ptr d => uptoBulk d + 1
  | .slice elems spare => uptoBulkAll elems + uptoBulkAll spare + 1
  | .agg parts => uptoBulkAll parts + 1
  | .iface _ d => uptoBulk d + 1
  | .map entries => uptoBulkEntries entries + 1
  | .held _ => 1
def uptoBulkAll {H : Type} : List (DataW H) → Nat
  | [] => 0
  | d :: r => uptoBulk d + uptoBulkAll r
def uptoBulkEntries {H : Type} : List (Lit × DataW H) → Nat
  | [] => 0
  | x :: r => uptoBulkEntry x + uptoBulkEntries r
def uptoBulkEntry {H : Type} : Lit × DataW H → Nat
  | (.string bytes, d) => bytes.length + uptoBulk d + 1
  | (_, d) => uptoBulk d + 1
 end
def uptoSmall : (H : Type) → List (DataW H) → Bool := fun _ ds => decide (uptoBulkAll ds ≤ 1048576)
def OpenSpec.upto (s : _root_.Go.ChangeSpec) : _root_.Go.OpenSpec := { _root_.Go.OpenSpec.ofChange s with cond := some uptoSmall }

/-- 'laws.FnExactIsEntryName', WHERE WHAT IT READS IS OF BULK AT MOST 1048576: true; the input reads as it did. -/
def fnExactIsEntryNameUptoRow : OpenClaim := { program := "ytcbcggnpbjcdfaadoor", sum := "e973eb7ec566f704852aa13f044aa6c2d52aaf0d113fd62cc33bd1104e5f1c42", func := "loop.example/g01261/laws.FnExactIsEntryName", spec := "fnExactIsEntryName", inPlace := ["internal/bytealg.IndexByteString", "internal/bytealg.IndexString"], unfollowed := true, recurses := true, named := ["unicode/utf8.first", "unicode/utf8.acceptRanges", "internal/bytealg.MaxLen"], plainKeys := false, apart := false, laid := [("unicode/utf8.acceptRanges", laid_unicode_utf8_acceptRanges), ("unicode/utf8.first", laid_unicode_utf8_first)], narrowed := true }
def FnExactIsEntryNameUptoSaid : Prop := fnExactIsEntryNameUptoRow.holds Tryd.pinned (OpenSpec.upto fnExactIsEntryNameSpec)

/-- 'laws.FnExactValidCatalogue', WHERE WHAT IT READS IS OF BULK AT MOST 1048576: true; the input reads as it did. -/
def fnExactValidCatalogueUptoRow : OpenClaim := { program := "ytcbcggnpbjcdfaadoor", sum := "e973eb7ec566f704852aa13f044aa6c2d52aaf0d113fd62cc33bd1104e5f1c42", func := "loop.example/g01261/laws.FnExactValidCatalogue", spec := "fnExactValidCatalogue", inPlace := ["internal/bytealg.IndexByteString", "internal/bytealg.IndexString"], unfollowed := true, recurses := true, named := ["unicode/utf8.first", "unicode/utf8.acceptRanges", "internal/bytealg.MaxLen"], plainKeys := false, apart := false, laid := [("unicode/utf8.acceptRanges", laid_unicode_utf8_acceptRanges), ("unicode/utf8.first", laid_unicode_utf8_first)], narrowed := true }
def FnExactValidCatalogueUptoSaid : Prop := fnExactValidCatalogueUptoRow.holds Tryd.pinned (OpenSpec.upto fnExactValidCatalogueSpec)

/-- 'laws.FnExactFindEntry', WHERE WHAT IT READS IS OF BULK AT MOST 1048576: true; the input reads as it did. -/
def fnExactFindEntryUptoRow : OpenClaim := { program := "ytcbcggnpbjcdfaadoor", sum := "e973eb7ec566f704852aa13f044aa6c2d52aaf0d113fd62cc33bd1104e5f1c42", func := "loop.example/g01261/laws.FnExactFindEntry", spec := "fnExactFindEntry", inPlace := ["internal/bytealg.IndexByteString", "internal/bytealg.IndexString"], unfollowed := true, recurses := true, named := ["unicode/utf8.first", "unicode/utf8.acceptRanges", "internal/bytealg.MaxLen"], plainKeys := false, apart := false, laid := [("unicode/utf8.acceptRanges", laid_unicode_utf8_acceptRanges), ("unicode/utf8.first", laid_unicode_utf8_first)], narrowed := true }
def FnExactFindEntryUptoSaid : Prop := fnExactFindEntryUptoRow.holds Tryd.pinned (OpenSpec.upto fnExactFindEntrySpec)

/-- 'laws.FnExactPreferredOf', WHERE WHAT IT READS IS OF BULK AT MOST 1048576: true; the input reads as it did. -/
def fnExactPreferredOfUptoRow : OpenClaim := { program := "ytcbcggnpbjcdfaadoor", sum := "e973eb7ec566f704852aa13f044aa6c2d52aaf0d113fd62cc33bd1104e5f1c42", func := "loop.example/g01261/laws.FnExactPreferredOf", spec := "fnExactPreferredOf", inPlace := ["internal/bytealg.IndexByteString", "internal/bytealg.IndexString"], unfollowed := true, recurses := true, named := ["unicode/utf8.first", "unicode/utf8.acceptRanges", "internal/bytealg.MaxLen"], plainKeys := false, apart := false, laid := [("unicode/utf8.acceptRanges", laid_unicode_utf8_acceptRanges), ("unicode/utf8.first", laid_unicode_utf8_first)], narrowed := true }
def FnExactPreferredOfUptoSaid : Prop := fnExactPreferredOfUptoRow.holds Tryd.pinned (OpenSpec.upto fnExactPreferredOfSpec)

/-- 'laws.FnExactPathUp', WHERE WHAT IT READS IS OF BULK AT MOST 1048576: true; the input reads as it did. -/
def fnExactPathUpUptoRow : OpenClaim := { program := "ytcbcggnpbjcdfaadoor", sum := "e973eb7ec566f704852aa13f044aa6c2d52aaf0d113fd62cc33bd1104e5f1c42", func := "loop.example/g01261/laws.FnExactPathUp", spec := "fnExactPathUp", inPlace := ["internal/bytealg.IndexByteString", "internal/bytealg.IndexString"], unfollowed := true, recurses := true, named := ["unicode/utf8.first", "unicode/utf8.acceptRanges", "internal/bytealg.MaxLen"], plainKeys := false, apart := false, laid := [("unicode/utf8.acceptRanges", laid_unicode_utf8_acceptRanges), ("unicode/utf8.first", laid_unicode_utf8_first)], narrowed := true }
def FnExactPathUpUptoSaid : Prop := fnExactPathUpUptoRow.holds Tryd.pinned (OpenSpec.upto fnExactPathUpSpec)

/-- 'laws.FnExactNarrowerOf', WHERE WHAT IT READS IS OF BULK AT MOST 1048576: true; the input reads as it did. -/
def fnExactNarrowerOfUptoRow : OpenClaim := { program := "ytcbcggnpbjcdfaadoor", sum := "e973eb7ec566f704852aa13f044aa6c2d52aaf0d113fd62cc33bd1104e5f1c42", func := "loop.example/g01261/laws.FnExactNarrowerOf", spec := "fnExactNarrowerOf", inPlace := ["internal/bytealg.IndexByteString", "internal/bytealg.IndexString"], unfollowed := true, recurses := true, named := ["unicode/utf8.first", "unicode/utf8.acceptRanges", "internal/bytealg.MaxLen"], plainKeys := false, apart := false, laid := [("unicode/utf8.acceptRanges", laid_unicode_utf8_acceptRanges), ("unicode/utf8.first", laid_unicode_utf8_first)], narrowed := true }
def FnExactNarrowerOfUptoSaid : Prop := fnExactNarrowerOfUptoRow.holds Tryd.pinned (OpenSpec.upto fnExactNarrowerOfSpec)

/-- 'laws.FnExactSynonymsOf', WHERE WHAT IT READS IS OF BULK AT MOST 1048576: true; the input reads as it did. -/
def fnExactSynonymsOfUptoRow : OpenClaim := { program := "ytcbcggnpbjcdfaadoor", sum := "e973eb7ec566f704852aa13f044aa6c2d52aaf0d113fd62cc33bd1104e5f1c42", func := "loop.example/g01261/laws.FnExactSynonymsOf", spec := "fnExactSynonymsOf", inPlace := ["internal/bytealg.IndexByteString", "internal/bytealg.IndexString"], unfollowed := true, recurses := true, named := ["unicode/utf8.first", "unicode/utf8.acceptRanges", "internal/bytealg.MaxLen"], plainKeys := false, apart := false, laid := [("unicode/utf8.acceptRanges", laid_unicode_utf8_acceptRanges), ("unicode/utf8.first", laid_unicode_utf8_first)], narrowed := true }
def FnExactSynonymsOfUptoSaid : Prop := fnExactSynonymsOfUptoRow.holds Tryd.pinned (OpenSpec.upto fnExactSynonymsOfSpec)

/-- 'laws.FnExactExpandEntry', WHERE WHAT IT READS IS OF BULK AT MOST 1048576: true; the input reads as it did. -/
def fnExactExpandEntryUptoRow : OpenClaim := { program := "ytcbcggnpbjcdfaadoor", sum := "e973eb7ec566f704852aa13f044aa6c2d52aaf0d113fd62cc33bd1104e5f1c42", func := "loop.example/g01261/laws.FnExactExpandEntry", spec := "fnExactExpandEntry", inPlace := ["internal/bytealg.IndexByteString", "internal/bytealg.IndexString"], unfollowed := true, recurses := true, named := ["unicode/utf8.first", "unicode/utf8.acceptRanges", "internal/bytealg.MaxLen"], plainKeys := false, apart := false, laid := [("unicode/utf8.acceptRanges", laid_unicode_utf8_acceptRanges), ("unicode/utf8.first", laid_unicode_utf8_first)], narrowed := true }
def FnExactExpandEntryUptoSaid : Prop := fnExactExpandEntryUptoRow.holds Tryd.pinned (OpenSpec.upto fnExactExpandEntrySpec)

/-- 'laws.FnExactCommonBroader', WHERE WHAT IT READS IS OF BULK AT MOST 1048576: true; the input reads as it did. -/
def fnExactCommonBroaderUptoRow : OpenClaim := { program := "ytcbcggnpbjcdfaadoor", sum := "e973eb7ec566f704852aa13f044aa6c2d52aaf0d113fd62cc33bd1104e5f1c42", func := "loop.example/g01261/laws.FnExactCommonBroader", spec := "fnExactCommonBroader", inPlace := ["internal/bytealg.IndexByteString", "internal/bytealg.IndexString"], unfollowed := true, recurses := true, named := ["unicode/utf8.first", "unicode/utf8.acceptRanges", "internal/bytealg.MaxLen"], plainKeys := false, apart := false, laid := [("unicode/utf8.acceptRanges", laid_unicode_utf8_acceptRanges), ("unicode/utf8.first", laid_unicode_utf8_first)], narrowed := true }
def FnExactCommonBroaderUptoSaid : Prop := fnExactCommonBroaderUptoRow.holds Tryd.pinned (OpenSpec.upto fnExactCommonBroaderSpec)

/-- 'laws.FnExactTopsOf', WHERE WHAT IT READS IS OF BULK AT MOST 1048576: true; the input reads as it did. -/
def fnExactTopsOfUptoRow : OpenClaim := { program := "ytcbcggnpbjcdfaadoor", sum := "e973eb7ec566f704852aa13f044aa6c2d52aaf0d113fd62cc33bd1104e5f1c42", func := "loop.example/g01261/laws.FnExactTopsOf", spec := "fnExactTopsOf", inPlace := ["internal/bytealg.IndexByteString", "internal/bytealg.IndexString"], unfollowed := true, recurses := true, named := ["unicode/utf8.first", "unicode/utf8.acceptRanges", "internal/bytealg.MaxLen"], plainKeys := false, apart := false, laid := [("unicode/utf8.acceptRanges", laid_unicode_utf8_acceptRanges), ("unicode/utf8.first", laid_unicode_utf8_first)], narrowed := true }
def FnExactTopsOfUptoSaid : Prop := fnExactTopsOfUptoRow.holds Tryd.pinned (OpenSpec.upto fnExactTopsOfSpec)

/-- 'laws.FnExactAddEntry', WHERE WHAT IT READS IS OF BULK AT MOST 1048576: true; the input reads as it did. -/
def fnExactAddEntryUptoRow : OpenClaim := { program := "ytcbcggnpbjcdfaadoor", sum := "e973eb7ec566f704852aa13f044aa6c2d52aaf0d113fd62cc33bd1104e5f1c42", func := "loop.example/g01261/laws.FnExactAddEntry", spec := "fnExactAddEntry", inPlace := ["internal/bytealg.IndexByteString", "internal/bytealg.IndexString"], unfollowed := true, recurses := true, named := ["unicode/utf8.first", "unicode/utf8.acceptRanges", "internal/bytealg.MaxLen"], plainKeys := false, apart := false, laid := [("unicode/utf8.acceptRanges", laid_unicode_utf8_acceptRanges), ("unicode/utf8.first", laid_unicode_utf8_first)], narrowed := true }
def FnExactAddEntryUptoSaid : Prop := fnExactAddEntryUptoRow.holds Tryd.pinned (OpenSpec.upto fnExactAddEntrySpec)

end Rows
end Go.Proofs.YtcbcggnpbjcdfaaDoor
