/-
  NARROWER THAN 'FOR EVERY INPUT', by the rows' own cells (each row's printed sentence says how): FnExactCardText: laid · FnExactMixText: laid · FnExactSchemeText: laid · FnExactDeckText: laid · FnExactEditsText: laid · FnExactCatalogueText: laid.
  DERIVED. THE GIVEN ROWS OF THIS SEAT. 6 by the template 'for every input the law returns true; each argument reads behind the call as it read before'; 0 by the template 'total and deterministic' (their statements: YtllhglakihfjmaaDoorTotals.lean).
  GIVEN WITH THE SEED: the statements are not yours to turn. If you find one false, say at which input.
  Laid BY PROGRAM, IN A SANDBOX (cutbox-rows.mjs): the forced cells as the released guide's own fill.sh prints them over the translation 7807e21c647b1ca3… (all of the seat's roots in one cut). By AI agents, Wed Nov 11 2026. No macro, syntax, notation, axiom, sorry.
-/
import Derived.Test.YtllhglakihfjmaaDoorChecked
import GoSem.PinnedTables
import GoSem.Claim
import GoSem.ClaimJoined
import GoSem.ClaimMapViews
import Derived.JoinedTies
import Derived.KernelRfl
namespace Go.Proofs.YtllhglakihfjmaaDoor
/- THE CELL 'sum', in the pinned program and in every row, IS THE sha256 OF THE DUMP (.gsa) THAT YtllhglakihfjmaaDoorProg.lean LOADS. Nothing in Lean hashes anything: it is a label: what it is worth is what the hold of that sum in a sandbox is worth. -/
noncomputable def Tryd.pinned : Pinned := { name := "ytllhglakihfjmaadoor", sum := "7807e21c647b1ca3ed7863dddd765f05fdc28a1746ef97d9202ea6781d3d1b32", checked := Tryd.checked }
namespace Rows
def none {H : Type} : Left H := { results := [], args := [] }

/- WHAT THE LISTED PACKAGE-LEVEL VARIABLES READ AS WHEN THE CALL BEGINS. Each datum BY PROGRAM (the guide's laid-datum.mjs) off the statement by which the dump's own 'gosem.cut.vars' lays the variable. In a bare row this is a premise. The card (YtllhglakihfjmaaDoorCards.lean) ties it to the program's text. -/
def laid_math_bits_deBruijn32tab {H : Type} : DataW H := .agg [.lit (.int .u8 0), .lit (.int .u8 1), .lit (.int .u8 28), .lit (.int .u8 2), .lit (.int .u8 29), .lit (.int .u8 14), .lit (.int .u8 24), .lit (.int .u8 3), .lit (.int .u8 30), .lit (.int .u8 22), .lit (.int .u8 20), .lit (.int .u8 15), .lit (.int .u8 25), .lit (.int .u8 17), .lit (.int .u8 4), .lit (.int .u8 8), .lit (.int .u8 31), .lit (.int .u8 27), .lit (.int .u8 13), .lit (.int .u8 23), .lit (.int .u8 21), .lit (.int .u8 19), .lit (.int .u8 16), .lit (.int .u8 7), .lit (.int .u8 26), .lit (.int .u8 12), .lit (.int .u8 18), .lit (.int .u8 6), .lit (.int .u8 11), .lit (.int .u8 5), .lit (.int .u8 10), .lit (.int .u8 9)]
def laid_math_bits_deBruijn64tab {H : Type} : DataW H := .agg [.lit (.int .u8 0), .lit (.int .u8 1), .lit (.int .u8 56), .lit (.int .u8 2), .lit (.int .u8 57), .lit (.int .u8 49), .lit (.int .u8 28), .lit (.int .u8 3), .lit (.int .u8 61), .lit (.int .u8 58), .lit (.int .u8 42), .lit (.int .u8 50), .lit (.int .u8 38), .lit (.int .u8 29), .lit (.int .u8 17), .lit (.int .u8 4), .lit (.int .u8 62), .lit (.int .u8 47), .lit (.int .u8 59), .lit (.int .u8 36), .lit (.int .u8 45), .lit (.int .u8 43), .lit (.int .u8 51), .lit (.int .u8 22), .lit (.int .u8 53), .lit (.int .u8 39), .lit (.int .u8 33), .lit (.int .u8 30), .lit (.int .u8 24), .lit (.int .u8 18), .lit (.int .u8 12), .lit (.int .u8 5), .lit (.int .u8 63), .lit (.int .u8 55), .lit (.int .u8 48), .lit (.int .u8 27), .lit (.int .u8 60), .lit (.int .u8 41), .lit (.int .u8 37), .lit (.int .u8 16), .lit (.int .u8 46), .lit (.int .u8 35), .lit (.int .u8 44), .lit (.int .u8 21), .lit (.int .u8 52), .lit (.int .u8 32), .lit (.int .u8 23), .lit (.int .u8 11), .lit (.int .u8 54), .lit (.int .u8 26), .lit (.int .u8 40), .lit (.int .u8 15), .lit (.int .u8 34), .lit (.int .u8 20), .lit (.int .u8 31), .lit (.int .u8 10), .lit (.int .u8 25), .lit (.int .u8 14), .lit (.int .u8 19), .lit (.int .u8 9), .lit (.int .u8 13), .lit (.int .u8 8), .lit (.int .u8 7), .lit (.int .u8 6)]
def laid_internal_strconv_uint64pow10 {H : Type} : DataW H := .agg [.lit (.int .u64 1), .lit (.int .u64 10), .lit (.int .u64 100), .lit (.int .u64 1000), .lit (.int .u64 10000), .lit (.int .u64 100000), .lit (.int .u64 1000000), .lit (.int .u64 10000000), .lit (.int .u64 100000000), .lit (.int .u64 1000000000), .lit (.int .u64 10000000000), .lit (.int .u64 100000000000), .lit (.int .u64 1000000000000), .lit (.int .u64 10000000000000), .lit (.int .u64 100000000000000), .lit (.int .u64 1000000000000000), .lit (.int .u64 10000000000000000), .lit (.int .u64 100000000000000000), .lit (.int .u64 1000000000000000000), .lit (.int .u64 10000000000000000000)]
def laid_loop_example_g01261_impl_kindWords {H : Type} : DataW H := .agg [.lit (.string [100, 105, 114, 101, 99, 116]), .lit (.string [115, 117, 109]), .lit (.string [112, 97, 105, 114, 115]), .lit (.string [98, 105, 110, 97, 114, 121])]
def laid_loop_example_g01261_impl_editWords {H : Type} : DataW H := .agg [.lit (.string []), .lit (.string [97, 100, 100]), .lit (.string [100, 114, 111, 112]), .lit (.string [110, 111, 116, 99, 104]), .lit (.string [102, 105, 108, 108])]
def laid_unicode_utf8_acceptRanges {H : Type} : DataW H := .agg [.agg [.lit (.int .u8 128), .lit (.int .u8 191)], .agg [.lit (.int .u8 160), .lit (.int .u8 191)], .agg [.lit (.int .u8 128), .lit (.int .u8 159)], .agg [.lit (.int .u8 144), .lit (.int .u8 191)], .agg [.lit (.int .u8 128), .lit (.int .u8 143)], .agg [.lit (.int .u8 0), .lit (.int .u8 0)], .agg [.lit (.int .u8 0), .lit (.int .u8 0)], .agg [.lit (.int .u8 0), .lit (.int .u8 0)], .agg [.lit (.int .u8 0), .lit (.int .u8 0)], .agg [.lit (.int .u8 0), .lit (.int .u8 0)], .agg [.lit (.int .u8 0), .lit (.int .u8 0)], .agg [.lit (.int .u8 0), .lit (.int .u8 0)], .agg [.lit (.int .u8 0), .lit (.int .u8 0)], .agg [.lit (.int .u8 0), .lit (.int .u8 0)], .agg [.lit (.int .u8 0), .lit (.int .u8 0)], .agg [.lit (.int .u8 0), .lit (.int .u8 0)]]
/-- One of Go's own tables, pinned by name: the form's constant. -/
def laid_unicode_utf8_first : DataW Unit := Go.Pinned.utf8First

/-- 'laws.FnExactCardText': WHATEVER THE INPUT: true; the input reads as it did. -/
def fnExactCardTextSpec : ChangeSpec := { name := "fnExactCardText", fn := fun _ => fun
  | [d] => { results := [.lit (.bool true)], args := [d] }
  | _ => none }
def fnExactCardTextRow : OpenClaim := { program := "ytllhglakihfjmaadoor", sum := "7807e21c647b1ca3ed7863dddd765f05fdc28a1746ef97d9202ea6781d3d1b32", func := "loop.example/g01261/laws.FnExactCardText", spec := "fnExactCardText", recurses := true, named := ["internal/strconv.uint64pow10", "math/bits.deBruijn32tab", "math/bits.deBruijn64tab"], apart := false, laid := [("math/bits.deBruijn32tab", laid_math_bits_deBruijn32tab), ("math/bits.deBruijn64tab", laid_math_bits_deBruijn64tab), ("internal/strconv.uint64pow10", laid_internal_strconv_uint64pow10)] }
def FnExactCardTextSaid : Prop := fnExactCardTextRow.holds Tryd.pinned (OpenSpec.ofChange fnExactCardTextSpec)

/-- ITS FALSE NEIGHBOUR: 'it returns false'. Refute it at one input. -/
def fnExactCardTextWrong : ChangeSpec := { name := "fnExactCardText", fn := fun _ => fun
  | [d] => { results := [.lit (.bool false)], args := [d] }
  | _ => none }
def FnExactCardTextWrongFalsely : Prop := fnExactCardTextRow.holds Tryd.pinned (OpenSpec.ofChange fnExactCardTextWrong)

/-- 'laws.FnExactMixText': WHATEVER THE INPUT: true; the input reads as it did. -/
def fnExactMixTextSpec : ChangeSpec := { name := "fnExactMixText", fn := fun _ => fun
  | [d] => { results := [.lit (.bool true)], args := [d] }
  | _ => none }
def fnExactMixTextRow : OpenClaim := { program := "ytllhglakihfjmaadoor", sum := "7807e21c647b1ca3ed7863dddd765f05fdc28a1746ef97d9202ea6781d3d1b32", func := "loop.example/g01261/laws.FnExactMixText", spec := "fnExactMixText", recurses := true, named := ["internal/strconv.uint64pow10", "math/bits.deBruijn32tab", "math/bits.deBruijn64tab"], apart := false, laid := [("math/bits.deBruijn32tab", laid_math_bits_deBruijn32tab), ("math/bits.deBruijn64tab", laid_math_bits_deBruijn64tab), ("internal/strconv.uint64pow10", laid_internal_strconv_uint64pow10)] }
def FnExactMixTextSaid : Prop := fnExactMixTextRow.holds Tryd.pinned (OpenSpec.ofChange fnExactMixTextSpec)

/-- ITS FALSE NEIGHBOUR: 'it returns false'. Refute it at one input. -/
def fnExactMixTextWrong : ChangeSpec := { name := "fnExactMixText", fn := fun _ => fun
  | [d] => { results := [.lit (.bool false)], args := [d] }
  | _ => none }
def FnExactMixTextWrongFalsely : Prop := fnExactMixTextRow.holds Tryd.pinned (OpenSpec.ofChange fnExactMixTextWrong)

/-- 'laws.FnExactSchemeText': WHATEVER THE INPUT: true; the input reads as it did. -/
def fnExactSchemeTextSpec : ChangeSpec := { name := "fnExactSchemeText", vars := ["loop.example/g01261/impl.kindWords"], fn := fun _ => fun
  | [d, g1] => { results := [.lit (.bool true)], args := [d], vars := [g1] }
  | _ => none }
def fnExactSchemeTextRow : OpenClaim := { program := "ytllhglakihfjmaadoor", sum := "7807e21c647b1ca3ed7863dddd765f05fdc28a1746ef97d9202ea6781d3d1b32", func := "loop.example/g01261/laws.FnExactSchemeText", spec := "fnExactSchemeText", unfollowed := true, recurses := true, named := ["loop.example/g01261/impl.kindWords", "internal/strconv.uint64pow10", "math/bits.deBruijn32tab", "math/bits.deBruijn64tab"], apart := false, laid := [("math/bits.deBruijn32tab", laid_math_bits_deBruijn32tab), ("math/bits.deBruijn64tab", laid_math_bits_deBruijn64tab), ("internal/strconv.uint64pow10", laid_internal_strconv_uint64pow10), ("loop.example/g01261/impl.kindWords", laid_loop_example_g01261_impl_kindWords)] }
def FnExactSchemeTextSaid : Prop := fnExactSchemeTextRow.holds Tryd.pinned (OpenSpec.ofChange fnExactSchemeTextSpec)

/-- ITS FALSE NEIGHBOUR: 'it returns false'. Refute it at one input. -/
def fnExactSchemeTextWrong : ChangeSpec := { name := "fnExactSchemeText", vars := ["loop.example/g01261/impl.kindWords"], fn := fun _ => fun
  | [d, g1] => { results := [.lit (.bool false)], args := [d], vars := [g1] }
  | _ => none }
def FnExactSchemeTextWrongFalsely : Prop := fnExactSchemeTextRow.holds Tryd.pinned (OpenSpec.ofChange fnExactSchemeTextWrong)

/-- 'laws.FnExactDeckText': WHATEVER THE INPUT: true; the input reads as it did. -/
def fnExactDeckTextSpec : ChangeSpec := { name := "fnExactDeckText", fn := fun _ => fun
  | [d] => { results := [.lit (.bool true)], args := [d] }
  | _ => none }
def fnExactDeckTextRow : OpenClaim := { program := "ytllhglakihfjmaadoor", sum := "7807e21c647b1ca3ed7863dddd765f05fdc28a1746ef97d9202ea6781d3d1b32", func := "loop.example/g01261/laws.FnExactDeckText", spec := "fnExactDeckText", inPlace := ["internal/abi.NoEscape"], recurses := true, named := ["internal/strconv.uint64pow10", "math/bits.deBruijn32tab", "math/bits.deBruijn64tab"], apart := false, laid := [("math/bits.deBruijn32tab", laid_math_bits_deBruijn32tab), ("math/bits.deBruijn64tab", laid_math_bits_deBruijn64tab), ("internal/strconv.uint64pow10", laid_internal_strconv_uint64pow10)] }
def FnExactDeckTextSaid : Prop := fnExactDeckTextRow.holds Tryd.pinned (OpenSpec.ofChange fnExactDeckTextSpec)

/-- ITS FALSE NEIGHBOUR: 'it returns false'. Refute it at one input. -/
def fnExactDeckTextWrong : ChangeSpec := { name := "fnExactDeckText", fn := fun _ => fun
  | [d] => { results := [.lit (.bool false)], args := [d] }
  | _ => none }
def FnExactDeckTextWrongFalsely : Prop := fnExactDeckTextRow.holds Tryd.pinned (OpenSpec.ofChange fnExactDeckTextWrong)

/-- 'laws.FnExactEditsText': WHATEVER THE INPUT: true; the input reads as it did. -/
def fnExactEditsTextSpec : ChangeSpec := { name := "fnExactEditsText", vars := ["loop.example/g01261/impl.editWords"], fn := fun _ => fun
  | [d, g1] => { results := [.lit (.bool true)], args := [d], vars := [g1] }
  | _ => none }
def fnExactEditsTextRow : OpenClaim := { program := "ytllhglakihfjmaadoor", sum := "7807e21c647b1ca3ed7863dddd765f05fdc28a1746ef97d9202ea6781d3d1b32", func := "loop.example/g01261/laws.FnExactEditsText", spec := "fnExactEditsText", inPlace := ["internal/abi.NoEscape"], recurses := true, named := ["loop.example/g01261/impl.editWords", "internal/strconv.uint64pow10", "math/bits.deBruijn32tab", "math/bits.deBruijn64tab"], apart := false, laid := [("math/bits.deBruijn32tab", laid_math_bits_deBruijn32tab), ("math/bits.deBruijn64tab", laid_math_bits_deBruijn64tab), ("internal/strconv.uint64pow10", laid_internal_strconv_uint64pow10), ("loop.example/g01261/impl.editWords", laid_loop_example_g01261_impl_editWords)] }
def FnExactEditsTextSaid : Prop := fnExactEditsTextRow.holds Tryd.pinned (OpenSpec.ofChange fnExactEditsTextSpec)

/-- ITS FALSE NEIGHBOUR: 'it returns false'. Refute it at one input. -/
def fnExactEditsTextWrong : ChangeSpec := { name := "fnExactEditsText", vars := ["loop.example/g01261/impl.editWords"], fn := fun _ => fun
  | [d, g1] => { results := [.lit (.bool false)], args := [d], vars := [g1] }
  | _ => none }
def FnExactEditsTextWrongFalsely : Prop := fnExactEditsTextRow.holds Tryd.pinned (OpenSpec.ofChange fnExactEditsTextWrong)

/-- 'laws.FnExactCatalogueText': WHATEVER THE INPUT: true; the input reads as it did. -/
def fnExactCatalogueTextSpec : ChangeSpec := { name := "fnExactCatalogueText", fn := fun _ => fun
  | [d] => { results := [.lit (.bool true)], args := [d] }
  | _ => none }
def fnExactCatalogueTextRow : OpenClaim := { program := "ytllhglakihfjmaadoor", sum := "7807e21c647b1ca3ed7863dddd765f05fdc28a1746ef97d9202ea6781d3d1b32", func := "loop.example/g01261/laws.FnExactCatalogueText", spec := "fnExactCatalogueText", inPlace := ["internal/bytealg.IndexByteString", "internal/bytealg.IndexString", "internal/abi.NoEscape"], unfollowed := true, recurses := true, named := ["unicode/utf8.first", "unicode/utf8.acceptRanges", "internal/bytealg.MaxLen"], apart := false, laid := [("unicode/utf8.acceptRanges", laid_unicode_utf8_acceptRanges), ("unicode/utf8.first", laid_unicode_utf8_first)] }
def FnExactCatalogueTextSaid : Prop := fnExactCatalogueTextRow.holds Tryd.pinned (OpenSpec.ofChange fnExactCatalogueTextSpec)

/-- ITS FALSE NEIGHBOUR: 'it returns false'. Refute it at one input. -/
def fnExactCatalogueTextWrong : ChangeSpec := { name := "fnExactCatalogueText", fn := fun _ => fun
  | [d] => { results := [.lit (.bool false)], args := [d] }
  | _ => none }
def FnExactCatalogueTextWrongFalsely : Prop := fnExactCatalogueTextRow.holds Tryd.pinned (OpenSpec.ofChange fnExactCatalogueTextWrong)

/- THE SECOND FORM. 'bulk': how many values and letters a reading holds, each counted each time it is reached (what is shared counts as often as it is met; a slice's spare places count too). A statement '..UptoSaid' is the law's where the arguments, and the package variables that the reading takes, are together of bulk at most 1048576: NARROWER than '..Said'. Prove '..Said' where nothing that the law and all that it calls make is longer than what came in: it says more and counts as full. Else prove '..UptoSaid'. A law counts once. -/
mutual
def uptoBulk {H : Type} : DataW H → Nat
  | .lit (.string bytes) => bytes.length + 1
  | .lit _ => 1
  | .nil => 1
  | .ptr d => uptoBulk d + 1
  | .slice elems spare => uptoBulkAll elems + uptoBulkAll spare + 1
  | .agg parts => uptoBulkAll parts + 1
  | .iface _ d => uptoBulk d + 1
  | .map entries => uptoBulkEntries entries + 1
  | .held _ => 1
def uptoBulkAll {H : Type} : List (DataW H) → Nat
  | [] => 0
  | d :: r => uptoBulk d + uptoBulkAll r
def uptoBulkEntries {H : Type} : List (Lit × DataW H) → Nat
  | [] => 0
  | x :: r => uptoBulkEntry x + uptoBulkEntries r
def uptoBulkEntry {H : Type} : Lit × DataW H → Nat
  | (.string bytes, d) => bytes.length + uptoBulk d + 1
  | (_, d) => uptoBulk d + 1
 end
def uptoSmall : (H : Type) → List (DataW H) → Bool := fun _ ds => decide (uptoBulkAll ds ≤ 1048576)
def OpenSpec.upto (s : _root_.Go.ChangeSpec) : _root_.Go.OpenSpec := { _root_.Go.OpenSpec.ofChange s with cond := some uptoSmall }

/-- 'laws.FnExactCardText', WHERE WHAT IT READS IS OF BULK AT MOST 1048576: true; the input reads as it did. -/
def fnExactCardTextUptoRow : OpenClaim := { program := "ytllhglakihfjmaadoor", sum := "7807e21c647b1ca3ed7863dddd765f05fdc28a1746ef97d9202ea6781d3d1b32", func := "loop.example/g01261/laws.FnExactCardText", spec := "fnExactCardText", recurses := true, named := ["internal/strconv.uint64pow10", "math/bits.deBruijn32tab", "math/bits.deBruijn64tab"], apart := false, laid := [("math/bits.deBruijn32tab", laid_math_bits_deBruijn32tab), ("math/bits.deBruijn64tab", laid_math_bits_deBruijn64tab), ("internal/strconv.uint64pow10", laid_internal_strconv_uint64pow10)], narrowed := true }
def FnExactCardTextUptoSaid : Prop := fnExactCardTextUptoRow.holds Tryd.pinned (OpenSpec.upto fnExactCardTextSpec)

/-- 'laws.FnExactMixText', WHERE WHAT IT READS IS OF BULK AT MOST 1048576: true; the input reads as it did. -/
def fnExactMixTextUptoRow : OpenClaim := { program := "ytllhglakihfjmaadoor", sum := "7807e21c647b1ca3ed7863dddd765f05fdc28a1746ef97d9202ea6781d3d1b32", func := "loop.example/g01261/laws.FnExactMixText", spec := "fnExactMixText", recurses := true, named := ["internal/strconv.uint64pow10", "math/bits.deBruijn32tab", "math/bits.deBruijn64tab"], apart := false, laid := [("math/bits.deBruijn32tab", laid_math_bits_deBruijn32tab), ("math/bits.deBruijn64tab", laid_math_bits_deBruijn64tab), ("internal/strconv.uint64pow10", laid_internal_strconv_uint64pow10)], narrowed := true }
def FnExactMixTextUptoSaid : Prop := fnExactMixTextUptoRow.holds Tryd.pinned (OpenSpec.upto fnExactMixTextSpec)

/-- 'laws.FnExactSchemeText', WHERE WHAT IT READS IS OF BULK AT MOST 1048576: true; the input reads as it did. -/
def fnExactSchemeTextUptoRow : OpenClaim := { program := "ytllhglakihfjmaadoor", sum := "7807e21c647b1ca3ed7863dddd765f05fdc28a1746ef97d9202ea6781d3d1b32", func := "loop.example/g01261/laws.FnExactSchemeText", spec := "fnExactSchemeText", unfollowed := true, recurses := true, named := ["loop.example/g01261/impl.kindWords", "internal/strconv.uint64pow10", "math/bits.deBruijn32tab", "math/bits.deBruijn64tab"], apart := false, laid := [("math/bits.deBruijn32tab", laid_math_bits_deBruijn32tab), ("math/bits.deBruijn64tab", laid_math_bits_deBruijn64tab), ("internal/strconv.uint64pow10", laid_internal_strconv_uint64pow10), ("loop.example/g01261/impl.kindWords", laid_loop_example_g01261_impl_kindWords)], narrowed := true }
def FnExactSchemeTextUptoSaid : Prop := fnExactSchemeTextUptoRow.holds Tryd.pinned (OpenSpec.upto fnExactSchemeTextSpec)

/-- 'laws.FnExactDeckText', WHERE WHAT IT READS IS OF BULK AT MOST 1048576: true; the input reads as it did. -/
def fnExactDeckTextUptoRow : OpenClaim := { program := "ytllhglakihfjmaadoor", sum := "7807e21c647b1ca3ed7863dddd765f05fdc28a1746ef97d9202ea6781d3d1b32", func := "loop.example/g01261/laws.FnExactDeckText", spec := "fnExactDeckText", inPlace := ["internal/abi.NoEscape"], recurses := true, named := ["internal/strconv.uint64pow10", "math/bits.deBruijn32tab", "math/bits.deBruijn64tab"], apart := false, laid := [("math/bits.deBruijn32tab", laid_math_bits_deBruijn32tab), ("math/bits.deBruijn64tab", laid_math_bits_deBruijn64tab), ("internal/strconv.uint64pow10", laid_internal_strconv_uint64pow10)], narrowed := true }
def FnExactDeckTextUptoSaid : Prop := fnExactDeckTextUptoRow.holds Tryd.pinned (OpenSpec.upto fnExactDeckTextSpec)

/-- 'laws.FnExactEditsText', WHERE WHAT IT READS IS OF BULK AT MOST 1048576: true; the input reads as it did. -/
def fnExactEditsTextUptoRow : OpenClaim := { program := "ytllhglakihfjmaadoor", sum := "7807e21c647b1ca3ed7863dddd765f05fdc28a1746ef97d9202ea6781d3d1b32", func := "loop.example/g01261/laws.FnExactEditsText", spec := "fnExactEditsText", inPlace := ["internal/abi.NoEscape"], recurses := true, named := ["loop.example/g01261/impl.editWords", "internal/strconv.uint64pow10", "math/bits.deBruijn32tab", "math/bits.deBruijn64tab"], apart := false, laid := [("math/bits.deBruijn32tab", laid_math_bits_deBruijn32tab), ("math/bits.deBruijn64tab", laid_math_bits_deBruijn64tab), ("internal/strconv.uint64pow10", laid_internal_strconv_uint64pow10), ("loop.example/g01261/impl.editWords", laid_loop_example_g01261_impl_editWords)], narrowed := true }
def FnExactEditsTextUptoSaid : Prop := fnExactEditsTextUptoRow.holds Tryd.pinned (OpenSpec.upto fnExactEditsTextSpec)

/-- 'laws.FnExactCatalogueText', WHERE WHAT IT READS IS OF BULK AT MOST 1048576: true; the input reads as it did. -/
def fnExactCatalogueTextUptoRow : OpenClaim := { program := "ytllhglakihfjmaadoor", sum := "7807e21c647b1ca3ed7863dddd765f05fdc28a1746ef97d9202ea6781d3d1b32", func := "loop.example/g01261/laws.FnExactCatalogueText", spec := "fnExactCatalogueText", inPlace := ["internal/bytealg.IndexByteString", "internal/bytealg.IndexString", "internal/abi.NoEscape"], unfollowed := true, recurses := true, named := ["unicode/utf8.first", "unicode/utf8.acceptRanges", "internal/bytealg.MaxLen"], apart := false, laid := [("unicode/utf8.acceptRanges", laid_unicode_utf8_acceptRanges), ("unicode/utf8.first", laid_unicode_utf8_first)], narrowed := true }
def FnExactCatalogueTextUptoSaid : Prop := fnExactCatalogueTextUptoRow.holds Tryd.pinned (OpenSpec.upto fnExactCatalogueTextSpec)

end Rows
end Go.Proofs.YtllhglakihfjmaaDoor
