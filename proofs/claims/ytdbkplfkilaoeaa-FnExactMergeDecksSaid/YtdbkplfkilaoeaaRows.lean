/-
  No cell of these rows narrows 'for every input' (looked for: loops, veiled, ifaces, maps, wideKeys, modest, calm, conditions, laid).
  DERIVED. THE GIVEN ROWS OF THIS SEAT. 4 by the template 'for every input the law returns true; each argument reads behind the call as it read before'; 0 by the template 'total and deterministic' (their statements: YtdbkplfkilaoeaaTotals.lean).
  GIVEN WITH THE SEED: the statements are not yours to turn. If you find one false, say at which input.
  Laid BY PROGRAM, IN A SANDBOX (cutbox-rows.mjs): the forced cells as the released guide's own fill.sh prints them over the translation 6ce0c22b359ea419… (all of the seat's roots in one cut). By AI agents, Wed Nov 11 2026. No macro, syntax, notation, axiom, sorry.
-/
import Derived.Test.YtdbkplfkilaoeaaChecked
import GoSem.Claim
import GoSem.ClaimJoined
import GoSem.ClaimMapViews
import Derived.JoinedTies
import Derived.KernelRfl
namespace Go.Proofs.Ytdbkplfkilaoeaa
/- THE CELL 'sum', in the pinned program and in every row, IS THE sha256 OF THE DUMP (.gsa) THAT YtdbkplfkilaoeaaProg.lean LOADS. Nothing in Lean hashes anything: it is a label: what it is worth is what the hold of that sum in a sandbox is worth. -/
noncomputable def Try.pinned : Pinned := { name := "ytdbkplfkilaoeaa", sum := "6ce0c22b359ea419831bc4f492474e61a426641a020bf6f13f191f087f567797", checked := Try.checked }
namespace Rows
def none {H : Type} : Left H := { results := [], args := [] }

/-- 'laws.FnExactSplitDeck': WHATEVER THE INPUT: true; the input reads as it did. -/
def fnExactSplitDeckSpec : ChangeSpec := { name := "fnExactSplitDeck", fn := fun _ => fun
  | [d1, d2] => { results := [.lit (.bool true)], args := [d1, d2] }
  | _ => none }
def fnExactSplitDeckRow : OpenClaim := { program := "ytdbkplfkilaoeaa", sum := "6ce0c22b359ea419831bc4f492474e61a426641a020bf6f13f191f087f567797", func := "loop.example/g01261/laws.FnExactSplitDeck", spec := "fnExactSplitDeck", unfollowed := true, recurses := true, plainKeys := false, apart := false }
def FnExactSplitDeckSaid : Prop := fnExactSplitDeckRow.holds Try.pinned (OpenSpec.ofChange fnExactSplitDeckSpec)

/-- ITS FALSE NEIGHBOUR: 'it returns false'. Refute it at one input. -/
def fnExactSplitDeckWrong : ChangeSpec := { name := "fnExactSplitDeck", fn := fun _ => fun
  | [d1, d2] => { results := [.lit (.bool false)], args := [d1, d2] }
  | _ => none }
def FnExactSplitDeckWrongFalsely : Prop := fnExactSplitDeckRow.holds Try.pinned (OpenSpec.ofChange fnExactSplitDeckWrong)

/-- 'laws.FnExactMergeDecks': WHATEVER THE INPUT: true; the input reads as it did. -/
def fnExactMergeDecksSpec : ChangeSpec := { name := "fnExactMergeDecks", fn := fun _ => fun
  | [d1, d2, d3] => { results := [.lit (.bool true)], args := [d1, d2, d3] }
  | _ => none }
def fnExactMergeDecksRow : OpenClaim := { program := "ytdbkplfkilaoeaa", sum := "6ce0c22b359ea419831bc4f492474e61a426641a020bf6f13f191f087f567797", func := "loop.example/g01261/laws.FnExactMergeDecks", spec := "fnExactMergeDecks", unfollowed := true, recurses := true, plainKeys := false, apart := false }
def FnExactMergeDecksSaid : Prop := fnExactMergeDecksRow.holds Try.pinned (OpenSpec.ofChange fnExactMergeDecksSpec)

/-- ITS FALSE NEIGHBOUR: 'it returns false'. Refute it at one input. -/
def fnExactMergeDecksWrong : ChangeSpec := { name := "fnExactMergeDecks", fn := fun _ => fun
  | [d1, d2, d3] => { results := [.lit (.bool false)], args := [d1, d2, d3] }
  | _ => none }
def FnExactMergeDecksWrongFalsely : Prop := fnExactMergeDecksRow.holds Try.pinned (OpenSpec.ofChange fnExactMergeDecksWrong)

/-- 'laws.FnExactValueIn': WHATEVER THE INPUT: true; the input reads as it did. -/
def fnExactValueInSpec : ChangeSpec := { name := "fnExactValueIn", fn := fun _ => fun
  | [d1, d2] => { results := [.lit (.bool true)], args := [d1, d2] }
  | _ => none }
def fnExactValueInRow : OpenClaim := { program := "ytdbkplfkilaoeaa", sum := "6ce0c22b359ea419831bc4f492474e61a426641a020bf6f13f191f087f567797", func := "loop.example/g01261/laws.FnExactValueIn", spec := "fnExactValueIn", unfollowed := true, recurses := true, plainKeys := false, apart := false }
def FnExactValueInSaid : Prop := fnExactValueInRow.holds Try.pinned (OpenSpec.ofChange fnExactValueInSpec)

/-- ITS FALSE NEIGHBOUR: 'it returns false'. Refute it at one input. -/
def fnExactValueInWrong : ChangeSpec := { name := "fnExactValueIn", fn := fun _ => fun
  | [d1, d2] => { results := [.lit (.bool false)], args := [d1, d2] }
  | _ => none }
def FnExactValueInWrongFalsely : Prop := fnExactValueInRow.holds Try.pinned (OpenSpec.ofChange fnExactValueInWrong)

/-- 'laws.FnExactShareOf': WHATEVER THE INPUT: true; the input reads as it did. -/
def fnExactShareOfSpec : ChangeSpec := { name := "fnExactShareOf", fn := fun _ => fun
  | [d1, d2] => { results := [.lit (.bool true)], args := [d1, d2] }
  | _ => none }
def fnExactShareOfRow : OpenClaim := { program := "ytdbkplfkilaoeaa", sum := "6ce0c22b359ea419831bc4f492474e61a426641a020bf6f13f191f087f567797", func := "loop.example/g01261/laws.FnExactShareOf", spec := "fnExactShareOf", plainKeys := false, apart := false }
def FnExactShareOfSaid : Prop := fnExactShareOfRow.holds Try.pinned (OpenSpec.ofChange fnExactShareOfSpec)

/-- ITS FALSE NEIGHBOUR: 'it returns false'. Refute it at one input. -/
def fnExactShareOfWrong : ChangeSpec := { name := "fnExactShareOf", fn := fun _ => fun
  | [d1, d2] => { results := [.lit (.bool false)], args := [d1, d2] }
  | _ => none }
def FnExactShareOfWrongFalsely : Prop := fnExactShareOfRow.holds Try.pinned (OpenSpec.ofChange fnExactShareOfWrong)

/- THE SECOND FORM. 'bulk': how many values and letters a reading holds, each counted each time it is reached (what is shared counts as often as it is met; a slice's spare places count too). A statement '..UptoSaid' is the law's where the arguments, and the package variables that the reading takes, are together of bulk at most 1048576: NARROWER than '..Said'. Prove '..Said' where nothing that the law and all that it calls make is longer than what came in: it says more and counts as full. Else prove '..UptoSaid'. A law counts once. -/
mutual
def uptoBulk {H : Type} : DataW H → Nat
  | .lit (.string bytes) => bytes.length + 1
  | .lit _ => 1
  | .nil => 1
  | .ptr d => uptoBulk d + 1
  | .slice elems spare => uptoBulkAll elems + uptoBulkAll spare + 1
  | .agg parts => uptoBulkAll parts + 1
  | .iface _ d => uptoBulk d + 1
  | .map entries => uptoBulkEntries entries + 1
  | .held _ => 1
def uptoBulkAll {H : Type} : List (DataW H) → Nat
  | [] => 0
  | d :: r => uptoBulk d + uptoBulkAll r
def uptoBulkEntries {H : Type} : List (Lit × DataW H) → Nat
  | [] => 0
  | x :: r => uptoBulkEntry x + uptoBulkEntries r
def uptoBulkEntry {H : Type} : Lit × DataW H → Nat
  | (.string bytes, d) => bytes.length + uptoBulk d + 1
  | (_, d) => uptoBulk d + 1
 end
def uptoSmall : (H : Type) → List (DataW H) → Bool := fun _ ds => decide (uptoBulkAll ds ≤ 1048576)
def OpenSpec.upto (s : _root_.Go.ChangeSpec) : _root_.Go.OpenSpec := { _root_.Go.OpenSpec.ofChange s with cond := some uptoSmall }

/-- 'laws.FnExactSplitDeck', WHERE WHAT IT READS IS OF BULK AT MOST 1048576: true; the input reads as it did. -/
def fnExactSplitDeckUptoRow : OpenClaim := { program := "ytdbkplfkilaoeaa", sum := "6ce0c22b359ea419831bc4f492474e61a426641a020bf6f13f191f087f567797", func := "loop.example/g01261/laws.FnExactSplitDeck", spec := "fnExactSplitDeck", unfollowed := true, recurses := true, plainKeys := false, apart := false, narrowed := true }
def FnExactSplitDeckUptoSaid : Prop := fnExactSplitDeckUptoRow.holds Try.pinned (OpenSpec.upto fnExactSplitDeckSpec)

/-- 'laws.FnExactMergeDecks', WHERE WHAT IT READS IS OF BULK AT MOST 1048576: true; the input reads as it did. -/
def fnExactMergeDecksUptoRow : OpenClaim := { program := "ytdbkplfkilaoeaa", sum := "6ce0c22b359ea419831bc4f492474e61a426641a020bf6f13f191f087f567797", func := "loop.example/g01261/laws.FnExactMergeDecks", spec := "fnExactMergeDecks", unfollowed := true, recurses := true, plainKeys := false, apart := false, narrowed := true }
def FnExactMergeDecksUptoSaid : Prop := fnExactMergeDecksUptoRow.holds Try.pinned (OpenSpec.upto fnExactMergeDecksSpec)

/-- 'laws.FnExactValueIn', WHERE WHAT IT READS IS OF BULK AT MOST 1048576: true; the input reads as it did. -/
def fnExactValueInUptoRow : OpenClaim := { program := "ytdbkplfkilaoeaa", sum := "6ce0c22b359ea419831bc4f492474e61a426641a020bf6f13f191f087f567797", func := "loop.example/g01261/laws.FnExactValueIn", spec := "fnExactValueIn", unfollowed := true, recurses := true, plainKeys := false, apart := false, narrowed := true }
def FnExactValueInUptoSaid : Prop := fnExactValueInUptoRow.holds Try.pinned (OpenSpec.upto fnExactValueInSpec)

/-- 'laws.FnExactShareOf', WHERE WHAT IT READS IS OF BULK AT MOST 1048576: true; the input reads as it did. -/
def fnExactShareOfUptoRow : OpenClaim := { program := "ytdbkplfkilaoeaa", sum := "6ce0c22b359ea419831bc4f492474e61a426641a020bf6f13f191f087f567797", func := "loop.example/g01261/laws.FnExactShareOf", spec := "fnExactShareOf", plainKeys := false, apart := false, narrowed := true }
def FnExactShareOfUptoSaid : Prop := fnExactShareOfUptoRow.holds Try.pinned (OpenSpec.upto fnExactShareOfSpec)

end Rows
end Go.Proofs.Ytdbkplfkilaoeaa
