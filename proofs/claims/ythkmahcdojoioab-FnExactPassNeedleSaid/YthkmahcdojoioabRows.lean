/-
  No cell of these rows narrows 'for every input' (looked for: loops, veiled, ifaces, maps, wideKeys, modest, calm, conditions, laid).
  DERIVED. THE GIVEN ROWS OF THIS SEAT. 12 by the template 'for every input the law returns true; each argument reads behind the call as it read before'; 0 by the template 'total and deterministic' (their statements: YthkmahcdojoioabTotals.lean).
  GIVEN WITH THE SEED: the statements are not yours to turn. If you find one false, say at which input.
  Laid BY PROGRAM, IN A SANDBOX (cutbox-rows.mjs): the forced cells as the released guide's own fill.sh prints them over the translation a4235f2c7fddfb1d… (all of the seat's roots in one cut). By AI agents, Wed Nov 11 2026. No macro, syntax, notation, axiom, sorry.
-/
import Derived.Test.YthkmahcdojoioabChecked
import GoSem.Claim
import GoSem.ClaimJoined
import GoSem.ClaimMapViews
import Derived.JoinedTies
import Derived.KernelRfl
namespace Go.Proofs.Ythkmahcdojoioab
/- THE CELL 'sum', in the pinned program and in every row, IS THE sha256 OF THE DUMP (.gsa) THAT YthkmahcdojoioabProg.lean LOADS. Nothing in Lean hashes anything: it is a label: what it is worth is what the hold of that sum in a sandbox is worth. -/
noncomputable def Try.pinned : Pinned := { name := "ythkmahcdojoioab", sum := "a4235f2c7fddfb1d789d7063721aac724b5712188790490464a9ec296d59f4fa", checked := Try.checked }
namespace Rows
def none {H : Type} : Left H := { results := [], args := [] }

/-- 'laws.FnExactIsSorted': WHATEVER THE INPUT: true; the input reads as it did. -/
def fnExactIsSortedSpec : ChangeSpec := { name := "fnExactIsSorted", fn := fun _ => fun
  | [d1, d2] => { results := [.lit (.bool true)], args := [d1, d2] }
  | _ => none }
def fnExactIsSortedRow : OpenClaim := { program := "ythkmahcdojoioab", sum := "a4235f2c7fddfb1d789d7063721aac724b5712188790490464a9ec296d59f4fa", func := "loop.example/g01261/laws.FnExactIsSorted", spec := "fnExactIsSorted", unfollowed := true, recurses := true, apart := false }
def FnExactIsSortedSaid : Prop := fnExactIsSortedRow.holds Try.pinned (OpenSpec.ofChange fnExactIsSortedSpec)

/-- ITS FALSE NEIGHBOUR: 'it returns false'. Refute it at one input. -/
def fnExactIsSortedWrong : ChangeSpec := { name := "fnExactIsSorted", fn := fun _ => fun
  | [d1, d2] => { results := [.lit (.bool false)], args := [d1, d2] }
  | _ => none }
def FnExactIsSortedWrongFalsely : Prop := fnExactIsSortedRow.holds Try.pinned (OpenSpec.ofChange fnExactIsSortedWrong)

/-- 'laws.FnExactFirstFrom': WHATEVER THE INPUT: true; the input reads as it did. -/
def fnExactFirstFromSpec : ChangeSpec := { name := "fnExactFirstFrom", fn := fun _ => fun
  | [d1, d2, d3] => { results := [.lit (.bool true)], args := [d1, d2, d3] }
  | _ => none }
def fnExactFirstFromRow : OpenClaim := { program := "ythkmahcdojoioab", sum := "a4235f2c7fddfb1d789d7063721aac724b5712188790490464a9ec296d59f4fa", func := "loop.example/g01261/laws.FnExactFirstFrom", spec := "fnExactFirstFrom", unfollowed := true, recurses := true, apart := false }
def FnExactFirstFromSaid : Prop := fnExactFirstFromRow.holds Try.pinned (OpenSpec.ofChange fnExactFirstFromSpec)

/-- ITS FALSE NEIGHBOUR: 'it returns false'. Refute it at one input. -/
def fnExactFirstFromWrong : ChangeSpec := { name := "fnExactFirstFrom", fn := fun _ => fun
  | [d1, d2, d3] => { results := [.lit (.bool false)], args := [d1, d2, d3] }
  | _ => none }
def FnExactFirstFromWrongFalsely : Prop := fnExactFirstFromRow.holds Try.pinned (OpenSpec.ofChange fnExactFirstFromWrong)

/-- 'laws.FnExactAnswerOf': WHATEVER THE INPUT: true; the input reads as it did. -/
def fnExactAnswerOfSpec : ChangeSpec := { name := "fnExactAnswerOf", fn := fun _ => fun
  | [d1, d2] => { results := [.lit (.bool true)], args := [d1, d2] }
  | _ => none }
def fnExactAnswerOfRow : OpenClaim := { program := "ythkmahcdojoioab", sum := "a4235f2c7fddfb1d789d7063721aac724b5712188790490464a9ec296d59f4fa", func := "loop.example/g01261/laws.FnExactAnswerOf", spec := "fnExactAnswerOf", unfollowed := true, recurses := true, apart := false }
def FnExactAnswerOfSaid : Prop := fnExactAnswerOfRow.holds Try.pinned (OpenSpec.ofChange fnExactAnswerOfSpec)

/-- ITS FALSE NEIGHBOUR: 'it returns false'. Refute it at one input. -/
def fnExactAnswerOfWrong : ChangeSpec := { name := "fnExactAnswerOf", fn := fun _ => fun
  | [d1, d2] => { results := [.lit (.bool false)], args := [d1, d2] }
  | _ => none }
def FnExactAnswerOfWrongFalsely : Prop := fnExactAnswerOfRow.holds Try.pinned (OpenSpec.ofChange fnExactAnswerOfWrong)

/-- 'laws.FnExactAnyOf': WHATEVER THE INPUT: true; the input reads as it did. -/
def fnExactAnyOfSpec : ChangeSpec := { name := "fnExactAnyOf", fn := fun _ => fun
  | [d1, d2] => { results := [.lit (.bool true)], args := [d1, d2] }
  | _ => none }
def fnExactAnyOfRow : OpenClaim := { program := "ythkmahcdojoioab", sum := "a4235f2c7fddfb1d789d7063721aac724b5712188790490464a9ec296d59f4fa", func := "loop.example/g01261/laws.FnExactAnyOf", spec := "fnExactAnyOf", unfollowed := true, recurses := true, apart := false }
def FnExactAnyOfSaid : Prop := fnExactAnyOfRow.holds Try.pinned (OpenSpec.ofChange fnExactAnyOfSpec)

/-- ITS FALSE NEIGHBOUR: 'it returns false'. Refute it at one input. -/
def fnExactAnyOfWrong : ChangeSpec := { name := "fnExactAnyOf", fn := fun _ => fun
  | [d1, d2] => { results := [.lit (.bool false)], args := [d1, d2] }
  | _ => none }
def FnExactAnyOfWrongFalsely : Prop := fnExactAnyOfRow.holds Try.pinned (OpenSpec.ofChange fnExactAnyOfWrong)

/-- 'laws.FnExactPassNeedle': WHATEVER THE INPUT: true; the input reads as it did. -/
def fnExactPassNeedleSpec : ChangeSpec := { name := "fnExactPassNeedle", fn := fun _ => fun
  | [d1, d2] => { results := [.lit (.bool true)], args := [d1, d2] }
  | _ => none }
def fnExactPassNeedleRow : OpenClaim := { program := "ythkmahcdojoioab", sum := "a4235f2c7fddfb1d789d7063721aac724b5712188790490464a9ec296d59f4fa", func := "loop.example/g01261/laws.FnExactPassNeedle", spec := "fnExactPassNeedle", unfollowed := true, recurses := true, apart := false }
def FnExactPassNeedleSaid : Prop := fnExactPassNeedleRow.holds Try.pinned (OpenSpec.ofChange fnExactPassNeedleSpec)

/-- ITS FALSE NEIGHBOUR: 'it returns false'. Refute it at one input. -/
def fnExactPassNeedleWrong : ChangeSpec := { name := "fnExactPassNeedle", fn := fun _ => fun
  | [d1, d2] => { results := [.lit (.bool false)], args := [d1, d2] }
  | _ => none }
def FnExactPassNeedleWrongFalsely : Prop := fnExactPassNeedleRow.holds Try.pinned (OpenSpec.ofChange fnExactPassNeedleWrong)

/-- 'laws.FnExactSplitDeck': WHATEVER THE INPUT: true; the input reads as it did. -/
def fnExactSplitDeckSpec : ChangeSpec := { name := "fnExactSplitDeck", fn := fun _ => fun
  | [d1, d2] => { results := [.lit (.bool true)], args := [d1, d2] }
  | _ => none }
def fnExactSplitDeckRow : OpenClaim := { program := "ythkmahcdojoioab", sum := "a4235f2c7fddfb1d789d7063721aac724b5712188790490464a9ec296d59f4fa", func := "loop.example/g01261/laws.FnExactSplitDeck", spec := "fnExactSplitDeck", unfollowed := true, recurses := true, apart := false }
def FnExactSplitDeckSaid : Prop := fnExactSplitDeckRow.holds Try.pinned (OpenSpec.ofChange fnExactSplitDeckSpec)

/-- ITS FALSE NEIGHBOUR: 'it returns false'. Refute it at one input. -/
def fnExactSplitDeckWrong : ChangeSpec := { name := "fnExactSplitDeck", fn := fun _ => fun
  | [d1, d2] => { results := [.lit (.bool false)], args := [d1, d2] }
  | _ => none }
def FnExactSplitDeckWrongFalsely : Prop := fnExactSplitDeckRow.holds Try.pinned (OpenSpec.ofChange fnExactSplitDeckWrong)

/-- 'laws.FnExactPassMany': WHATEVER THE INPUT: true; the input reads as it did. -/
def fnExactPassManySpec : ChangeSpec := { name := "fnExactPassMany", fn := fun _ => fun
  | [d1, d2] => { results := [.lit (.bool true)], args := [d1, d2] }
  | _ => none }
def fnExactPassManyRow : OpenClaim := { program := "ythkmahcdojoioab", sum := "a4235f2c7fddfb1d789d7063721aac724b5712188790490464a9ec296d59f4fa", func := "loop.example/g01261/laws.FnExactPassMany", spec := "fnExactPassMany", unfollowed := true, recurses := true, apart := false }
def FnExactPassManySaid : Prop := fnExactPassManyRow.holds Try.pinned (OpenSpec.ofChange fnExactPassManySpec)

/-- ITS FALSE NEIGHBOUR: 'it returns false'. Refute it at one input. -/
def fnExactPassManyWrong : ChangeSpec := { name := "fnExactPassMany", fn := fun _ => fun
  | [d1, d2] => { results := [.lit (.bool false)], args := [d1, d2] }
  | _ => none }
def FnExactPassManyWrongFalsely : Prop := fnExactPassManyRow.holds Try.pinned (OpenSpec.ofChange fnExactPassManyWrong)

/-- 'laws.FnExactFewestNeedles': WHATEVER THE INPUT: true; the input reads as it did. -/
def fnExactFewestNeedlesSpec : ChangeSpec := { name := "fnExactFewestNeedles", fn := fun _ => fun
  | [d1, d2] => { results := [.lit (.bool true)], args := [d1, d2] }
  | _ => none }
def fnExactFewestNeedlesRow : OpenClaim := { program := "ythkmahcdojoioab", sum := "a4235f2c7fddfb1d789d7063721aac724b5712188790490464a9ec296d59f4fa", func := "loop.example/g01261/laws.FnExactFewestNeedles", spec := "fnExactFewestNeedles", unfollowed := true, recurses := true, apart := false }
def FnExactFewestNeedlesSaid : Prop := fnExactFewestNeedlesRow.holds Try.pinned (OpenSpec.ofChange fnExactFewestNeedlesSpec)

/-- ITS FALSE NEIGHBOUR: 'it returns false'. Refute it at one input. -/
def fnExactFewestNeedlesWrong : ChangeSpec := { name := "fnExactFewestNeedles", fn := fun _ => fun
  | [d1, d2] => { results := [.lit (.bool false)], args := [d1, d2] }
  | _ => none }
def FnExactFewestNeedlesWrongFalsely : Prop := fnExactFewestNeedlesRow.holds Try.pinned (OpenSpec.ofChange fnExactFewestNeedlesWrong)

/-- 'laws.FnExactValidScheme': WHATEVER THE INPUT: true; the input reads as it did. -/
def fnExactValidSchemeSpec : ChangeSpec := { name := "fnExactValidScheme", fn := fun _ => fun
  | [d] => { results := [.lit (.bool true)], args := [d] }
  | _ => none }
def fnExactValidSchemeRow : OpenClaim := { program := "ythkmahcdojoioab", sum := "a4235f2c7fddfb1d789d7063721aac724b5712188790490464a9ec296d59f4fa", func := "loop.example/g01261/laws.FnExactValidScheme", spec := "fnExactValidScheme", unfollowed := true, recurses := true, apart := false }
def FnExactValidSchemeSaid : Prop := fnExactValidSchemeRow.holds Try.pinned (OpenSpec.ofChange fnExactValidSchemeSpec)

/-- ITS FALSE NEIGHBOUR: 'it returns false'. Refute it at one input. -/
def fnExactValidSchemeWrong : ChangeSpec := { name := "fnExactValidScheme", fn := fun _ => fun
  | [d] => { results := [.lit (.bool false)], args := [d] }
  | _ => none }
def FnExactValidSchemeWrongFalsely : Prop := fnExactValidSchemeRow.holds Try.pinned (OpenSpec.ofChange fnExactValidSchemeWrong)

/-- 'laws.FnExactFieldOfHole': WHATEVER THE INPUT: true; the input reads as it did. -/
def fnExactFieldOfHoleSpec : ChangeSpec := { name := "fnExactFieldOfHole", fn := fun _ => fun
  | [d1, d2] => { results := [.lit (.bool true)], args := [d1, d2] }
  | _ => none }
def fnExactFieldOfHoleRow : OpenClaim := { program := "ythkmahcdojoioab", sum := "a4235f2c7fddfb1d789d7063721aac724b5712188790490464a9ec296d59f4fa", func := "loop.example/g01261/laws.FnExactFieldOfHole", spec := "fnExactFieldOfHole", unfollowed := true, recurses := true, apart := false }
def FnExactFieldOfHoleSaid : Prop := fnExactFieldOfHoleRow.holds Try.pinned (OpenSpec.ofChange fnExactFieldOfHoleSpec)

/-- ITS FALSE NEIGHBOUR: 'it returns false'. Refute it at one input. -/
def fnExactFieldOfHoleWrong : ChangeSpec := { name := "fnExactFieldOfHole", fn := fun _ => fun
  | [d1, d2] => { results := [.lit (.bool false)], args := [d1, d2] }
  | _ => none }
def FnExactFieldOfHoleWrongFalsely : Prop := fnExactFieldOfHoleRow.holds Try.pinned (OpenSpec.ofChange fnExactFieldOfHoleWrong)

/-- 'laws.FnExactSortDeck': WHATEVER THE INPUT: true; the input reads as it did. -/
def fnExactSortDeckSpec : ChangeSpec := { name := "fnExactSortDeck", fn := fun _ => fun
  | [d1, d2] => { results := [.lit (.bool true)], args := [d1, d2] }
  | _ => none }
def fnExactSortDeckRow : OpenClaim := { program := "ythkmahcdojoioab", sum := "a4235f2c7fddfb1d789d7063721aac724b5712188790490464a9ec296d59f4fa", func := "loop.example/g01261/laws.FnExactSortDeck", spec := "fnExactSortDeck", unfollowed := true, recurses := true, apart := false }
def FnExactSortDeckSaid : Prop := fnExactSortDeckRow.holds Try.pinned (OpenSpec.ofChange fnExactSortDeckSpec)

/-- ITS FALSE NEIGHBOUR: 'it returns false'. Refute it at one input. -/
def fnExactSortDeckWrong : ChangeSpec := { name := "fnExactSortDeck", fn := fun _ => fun
  | [d1, d2] => { results := [.lit (.bool false)], args := [d1, d2] }
  | _ => none }
def FnExactSortDeckWrongFalsely : Prop := fnExactSortDeckRow.holds Try.pinned (OpenSpec.ofChange fnExactSortDeckWrong)

/-- 'laws.FnExactMergeDecks': WHATEVER THE INPUT: true; the input reads as it did. -/
def fnExactMergeDecksSpec : ChangeSpec := { name := "fnExactMergeDecks", fn := fun _ => fun
  | [d1, d2, d3] => { results := [.lit (.bool true)], args := [d1, d2, d3] }
  | _ => none }
def fnExactMergeDecksRow : OpenClaim := { program := "ythkmahcdojoioab", sum := "a4235f2c7fddfb1d789d7063721aac724b5712188790490464a9ec296d59f4fa", func := "loop.example/g01261/laws.FnExactMergeDecks", spec := "fnExactMergeDecks", unfollowed := true, recurses := true, apart := false }
def FnExactMergeDecksSaid : Prop := fnExactMergeDecksRow.holds Try.pinned (OpenSpec.ofChange fnExactMergeDecksSpec)

/-- ITS FALSE NEIGHBOUR: 'it returns false'. Refute it at one input. -/
def fnExactMergeDecksWrong : ChangeSpec := { name := "fnExactMergeDecks", fn := fun _ => fun
  | [d1, d2, d3] => { results := [.lit (.bool false)], args := [d1, d2, d3] }
  | _ => none }
def FnExactMergeDecksWrongFalsely : Prop := fnExactMergeDecksRow.holds Try.pinned (OpenSpec.ofChange fnExactMergeDecksWrong)

/- THE SECOND FORM. 'bulk': how many values and letters a reading holds, each counted each time it is reached (what is shared counts as often as it is met; a slice's spare places count too). A statement '..UptoSaid' is the law's where the arguments, and the package variables that the reading takes, are together of bulk at most 1048576: NARROWER than '..Said'. Prove '..Said' where nothing that the law and all that it calls make is longer than what came in: it says more and counts as full. Else prove '..UptoSaid'. A law counts once. -/
mutual
def uptoBulk {H : Type} : DataW H → Nat
  | .lit (.string bytes) => bytes.length + 1
  | .lit _ => 1
  | .nil => 1
  | .ptr d => uptoBulk d + 1
  | .slice elems spare => uptoBulkAll elems + uptoBulkAll spare + 1
  | .agg parts => uptoBulkAll parts + 1
  | .iface _ d => uptoBulk d + 1
  | .map entries => uptoBulkEntries entries + 1
  | .held _ => 1
def uptoBulkAll {H : Type} : List (DataW H) → Nat
  | [] => 0
  | d :: r => uptoBulk d + uptoBulkAll r
def uptoBulkEntries {H : Type} : List (Lit × DataW H) → Nat
  | [] => 0
  | x :: r => uptoBulkEntry x + uptoBulkEntries r
def uptoBulkEntry {H : Type} : Lit × DataW H → Nat
  | (.string bytes, d) => bytes.length + uptoBulk d + 1
  | (_, d) => uptoBulk d + 1
 end
def uptoSmall : (H : Type) → List (DataW H) → Bool := fun _ ds => decide (uptoBulkAll ds ≤ 1048576)
def OpenSpec.upto (s : _root_.Go.ChangeSpec) : _root_.Go.OpenSpec := { _root_.Go.OpenSpec.ofChange s with cond := some uptoSmall }

/-- 'laws.FnExactIsSorted', WHERE WHAT IT READS IS OF BULK AT MOST 1048576: true; the input reads as it did. -/
def fnExactIsSortedUptoRow : OpenClaim := { program := "ythkmahcdojoioab", sum := "a4235f2c7fddfb1d789d7063721aac724b5712188790490464a9ec296d59f4fa", func := "loop.example/g01261/laws.FnExactIsSorted", spec := "fnExactIsSorted", unfollowed := true, recurses := true, apart := false, narrowed := true }
def FnExactIsSortedUptoSaid : Prop := fnExactIsSortedUptoRow.holds Try.pinned (OpenSpec.upto fnExactIsSortedSpec)

/-- 'laws.FnExactFirstFrom', WHERE WHAT IT READS IS OF BULK AT MOST 1048576: true; the input reads as it did. -/
def fnExactFirstFromUptoRow : OpenClaim := { program := "ythkmahcdojoioab", sum := "a4235f2c7fddfb1d789d7063721aac724b5712188790490464a9ec296d59f4fa", func := "loop.example/g01261/laws.FnExactFirstFrom", spec := "fnExactFirstFrom", unfollowed := true, recurses := true, apart := false, narrowed := true }
def FnExactFirstFromUptoSaid : Prop := fnExactFirstFromUptoRow.holds Try.pinned (OpenSpec.upto fnExactFirstFromSpec)

/-- 'laws.FnExactAnswerOf', WHERE WHAT IT READS IS OF BULK AT MOST 1048576: true; the input reads as it did. -/
def fnExactAnswerOfUptoRow : OpenClaim := { program := "ythkmahcdojoioab", sum := "a4235f2c7fddfb1d789d7063721aac724b5712188790490464a9ec296d59f4fa", func := "loop.example/g01261/laws.FnExactAnswerOf", spec := "fnExactAnswerOf", unfollowed := true, recurses := true, apart := false, narrowed := true }
def FnExactAnswerOfUptoSaid : Prop := fnExactAnswerOfUptoRow.holds Try.pinned (OpenSpec.upto fnExactAnswerOfSpec)

/-- 'laws.FnExactAnyOf', WHERE WHAT IT READS IS OF BULK AT MOST 1048576: true; the input reads as it did. -/
def fnExactAnyOfUptoRow : OpenClaim := { program := "ythkmahcdojoioab", sum := "a4235f2c7fddfb1d789d7063721aac724b5712188790490464a9ec296d59f4fa", func := "loop.example/g01261/laws.FnExactAnyOf", spec := "fnExactAnyOf", unfollowed := true, recurses := true, apart := false, narrowed := true }
def FnExactAnyOfUptoSaid : Prop := fnExactAnyOfUptoRow.holds Try.pinned (OpenSpec.upto fnExactAnyOfSpec)

/-- 'laws.FnExactPassNeedle', WHERE WHAT IT READS IS OF BULK AT MOST 1048576: true; the input reads as it did. -/
def fnExactPassNeedleUptoRow : OpenClaim := { program := "ythkmahcdojoioab", sum := "a4235f2c7fddfb1d789d7063721aac724b5712188790490464a9ec296d59f4fa", func := "loop.example/g01261/laws.FnExactPassNeedle", spec := "fnExactPassNeedle", unfollowed := true, recurses := true, apart := false, narrowed := true }
def FnExactPassNeedleUptoSaid : Prop := fnExactPassNeedleUptoRow.holds Try.pinned (OpenSpec.upto fnExactPassNeedleSpec)

/-- 'laws.FnExactSplitDeck', WHERE WHAT IT READS IS OF BULK AT MOST 1048576: true; the input reads as it did. -/
def fnExactSplitDeckUptoRow : OpenClaim := { program := "ythkmahcdojoioab", sum := "a4235f2c7fddfb1d789d7063721aac724b5712188790490464a9ec296d59f4fa", func := "loop.example/g01261/laws.FnExactSplitDeck", spec := "fnExactSplitDeck", unfollowed := true, recurses := true, apart := false, narrowed := true }
def FnExactSplitDeckUptoSaid : Prop := fnExactSplitDeckUptoRow.holds Try.pinned (OpenSpec.upto fnExactSplitDeckSpec)

/-- 'laws.FnExactPassMany', WHERE WHAT IT READS IS OF BULK AT MOST 1048576: true; the input reads as it did. -/
def fnExactPassManyUptoRow : OpenClaim := { program := "ythkmahcdojoioab", sum := "a4235f2c7fddfb1d789d7063721aac724b5712188790490464a9ec296d59f4fa", func := "loop.example/g01261/laws.FnExactPassMany", spec := "fnExactPassMany", unfollowed := true, recurses := true, apart := false, narrowed := true }
def FnExactPassManyUptoSaid : Prop := fnExactPassManyUptoRow.holds Try.pinned (OpenSpec.upto fnExactPassManySpec)

/-- 'laws.FnExactFewestNeedles', WHERE WHAT IT READS IS OF BULK AT MOST 1048576: true; the input reads as it did. -/
def fnExactFewestNeedlesUptoRow : OpenClaim := { program := "ythkmahcdojoioab", sum := "a4235f2c7fddfb1d789d7063721aac724b5712188790490464a9ec296d59f4fa", func := "loop.example/g01261/laws.FnExactFewestNeedles", spec := "fnExactFewestNeedles", unfollowed := true, recurses := true, apart := false, narrowed := true }
def FnExactFewestNeedlesUptoSaid : Prop := fnExactFewestNeedlesUptoRow.holds Try.pinned (OpenSpec.upto fnExactFewestNeedlesSpec)

/-- 'laws.FnExactValidScheme', WHERE WHAT IT READS IS OF BULK AT MOST 1048576: true; the input reads as it did. -/
def fnExactValidSchemeUptoRow : OpenClaim := { program := "ythkmahcdojoioab", sum := "a4235f2c7fddfb1d789d7063721aac724b5712188790490464a9ec296d59f4fa", func := "loop.example/g01261/laws.FnExactValidScheme", spec := "fnExactValidScheme", unfollowed := true, recurses := true, apart := false, narrowed := true }
def FnExactValidSchemeUptoSaid : Prop := fnExactValidSchemeUptoRow.holds Try.pinned (OpenSpec.upto fnExactValidSchemeSpec)

/-- 'laws.FnExactFieldOfHole', WHERE WHAT IT READS IS OF BULK AT MOST 1048576: true; the input reads as it did. -/
def fnExactFieldOfHoleUptoRow : OpenClaim := { program := "ythkmahcdojoioab", sum := "a4235f2c7fddfb1d789d7063721aac724b5712188790490464a9ec296d59f4fa", func := "loop.example/g01261/laws.FnExactFieldOfHole", spec := "fnExactFieldOfHole", unfollowed := true, recurses := true, apart := false, narrowed := true }
def FnExactFieldOfHoleUptoSaid : Prop := fnExactFieldOfHoleUptoRow.holds Try.pinned (OpenSpec.upto fnExactFieldOfHoleSpec)

/-- 'laws.FnExactSortDeck', WHERE WHAT IT READS IS OF BULK AT MOST 1048576: true; the input reads as it did. -/
def fnExactSortDeckUptoRow : OpenClaim := { program := "ythkmahcdojoioab", sum := "a4235f2c7fddfb1d789d7063721aac724b5712188790490464a9ec296d59f4fa", func := "loop.example/g01261/laws.FnExactSortDeck", spec := "fnExactSortDeck", unfollowed := true, recurses := true, apart := false, narrowed := true }
def FnExactSortDeckUptoSaid : Prop := fnExactSortDeckUptoRow.holds Try.pinned (OpenSpec.upto fnExactSortDeckSpec)

/-- 'laws.FnExactMergeDecks', WHERE WHAT IT READS IS OF BULK AT MOST 1048576: true; the input reads as it did. -/
def fnExactMergeDecksUptoRow : OpenClaim := { program := "ythkmahcdojoioab", sum := "a4235f2c7fddfb1d789d7063721aac724b5712188790490464a9ec296d59f4fa", func := "loop.example/g01261/laws.FnExactMergeDecks", spec := "fnExactMergeDecks", unfollowed := true, recurses := true, apart := false, narrowed := true }
def FnExactMergeDecksUptoSaid : Prop := fnExactMergeDecksUptoRow.holds Try.pinned (OpenSpec.upto fnExactMergeDecksSpec)

end Rows
end Go.Proofs.Ythkmahcdojoioab
