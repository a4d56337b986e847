/-
  No cell of these rows narrows 'for every input' (looked for: loops, veiled, ifaces, maps, wideKeys, modest, calm, conditions, laid).
  DERIVED. THE GIVEN ROWS OF THIS SEAT. 12 by the template 'for every input the law returns true; each argument reads behind the call as it read before'; 0 by the template 'total and deterministic' (their statements: YtljabggcdomfgaaTotals.lean).
  GIVEN WITH THE SEED: the statements are not yours to turn. If you find one false, say at which input.
  Laid BY PROGRAM, IN A SANDBOX (cutbox-rows.mjs): the forced cells as the released guide's own fill.sh prints them over the translation bef9a688b5f4f3dc… (all of the seat's roots in one cut). By AI agents, Wed Nov 11 2026. No macro, syntax, notation, axiom, sorry.
-/
import Derived.Test.YtljabggcdomfgaaChecked
import GoSem.Claim
import GoSem.ClaimJoined
import GoSem.ClaimMapViews
import Derived.JoinedTies
import Derived.KernelRfl
namespace Go.Proofs.Ytljabggcdomfgaa
/- THE CELL 'sum', in the pinned program and in every row, IS THE sha256 OF THE DUMP (.gsa) THAT YtljabggcdomfgaaProg.lean LOADS. Nothing in Lean hashes anything: it is a label: what it is worth is what the hold of that sum in a sandbox is worth. -/
noncomputable def Try.pinned : Pinned := { name := "ytljabggcdomfgaa", sum := "bef9a688b5f4f3dc51d370f8668eed7fbfb366bf0db9212e56126360bdd29395", checked := Try.checked }
namespace Rows
def none {H : Type} : Left H := { results := [], args := [] }

/-- 'laws.FnExactPartOf': WHATEVER THE INPUT: true; the input reads as it did. -/
def fnExactPartOfSpec : ChangeSpec := { name := "fnExactPartOf", fn := fun _ => fun
  | [d] => { results := [.lit (.bool true)], args := [d] }
  | _ => none }
def fnExactPartOfRow : OpenClaim := { program := "ytljabggcdomfgaa", sum := "bef9a688b5f4f3dc51d370f8668eed7fbfb366bf0db9212e56126360bdd29395", func := "loop.example/g01261/laws.FnExactPartOf", spec := "fnExactPartOf", unfollowed := true, recurses := true, apart := false }
def FnExactPartOfSaid : Prop := fnExactPartOfRow.holds Try.pinned (OpenSpec.ofChange fnExactPartOfSpec)

/-- ITS FALSE NEIGHBOUR: 'it returns false'. Refute it at one input. -/
def fnExactPartOfWrong : ChangeSpec := { name := "fnExactPartOf", fn := fun _ => fun
  | [d] => { results := [.lit (.bool false)], args := [d] }
  | _ => none }
def FnExactPartOfWrongFalsely : Prop := fnExactPartOfRow.holds Try.pinned (OpenSpec.ofChange fnExactPartOfWrong)

/-- 'laws.FnExactClearField': WHATEVER THE INPUT: true; the input reads as it did. -/
def fnExactClearFieldSpec : ChangeSpec := { name := "fnExactClearField", fn := fun _ => fun
  | [d1, d2] => { results := [.lit (.bool true)], args := [d1, d2] }
  | _ => none }
def fnExactClearFieldRow : OpenClaim := { program := "ytljabggcdomfgaa", sum := "bef9a688b5f4f3dc51d370f8668eed7fbfb366bf0db9212e56126360bdd29395", func := "loop.example/g01261/laws.FnExactClearField", spec := "fnExactClearField", unfollowed := true, recurses := true, apart := false }
def FnExactClearFieldSaid : Prop := fnExactClearFieldRow.holds Try.pinned (OpenSpec.ofChange fnExactClearFieldSpec)

/-- ITS FALSE NEIGHBOUR: 'it returns false'. Refute it at one input. -/
def fnExactClearFieldWrong : ChangeSpec := { name := "fnExactClearField", fn := fun _ => fun
  | [d1, d2] => { results := [.lit (.bool false)], args := [d1, d2] }
  | _ => none }
def FnExactClearFieldWrongFalsely : Prop := fnExactClearFieldRow.holds Try.pinned (OpenSpec.ofChange fnExactClearFieldWrong)

/-- 'laws.FnExactHolesIn': WHATEVER THE INPUT: true; the input reads as it did. -/
def fnExactHolesInSpec : ChangeSpec := { name := "fnExactHolesIn", fn := fun _ => fun
  | [d] => { results := [.lit (.bool true)], args := [d] }
  | _ => none }
def fnExactHolesInRow : OpenClaim := { program := "ytljabggcdomfgaa", sum := "bef9a688b5f4f3dc51d370f8668eed7fbfb366bf0db9212e56126360bdd29395", func := "loop.example/g01261/laws.FnExactHolesIn", spec := "fnExactHolesIn", apart := false }
def FnExactHolesInSaid : Prop := fnExactHolesInRow.holds Try.pinned (OpenSpec.ofChange fnExactHolesInSpec)

/-- ITS FALSE NEIGHBOUR: 'it returns false'. Refute it at one input. -/
def fnExactHolesInWrong : ChangeSpec := { name := "fnExactHolesIn", fn := fun _ => fun
  | [d] => { results := [.lit (.bool false)], args := [d] }
  | _ => none }
def FnExactHolesInWrongFalsely : Prop := fnExactHolesInRow.holds Try.pinned (OpenSpec.ofChange fnExactHolesInWrong)

/-- 'laws.FnExactValidQuery': WHATEVER THE INPUT: true; the input reads as it did. -/
def fnExactValidQuerySpec : ChangeSpec := { name := "fnExactValidQuery", fn := fun _ => fun
  | [d] => { results := [.lit (.bool true)], args := [d] }
  | _ => none }
def fnExactValidQueryRow : OpenClaim := { program := "ytljabggcdomfgaa", sum := "bef9a688b5f4f3dc51d370f8668eed7fbfb366bf0db9212e56126360bdd29395", func := "loop.example/g01261/laws.FnExactValidQuery", spec := "fnExactValidQuery", apart := false }
def FnExactValidQuerySaid : Prop := fnExactValidQueryRow.holds Try.pinned (OpenSpec.ofChange fnExactValidQuerySpec)

/-- ITS FALSE NEIGHBOUR: 'it returns false'. Refute it at one input. -/
def fnExactValidQueryWrong : ChangeSpec := { name := "fnExactValidQuery", fn := fun _ => fun
  | [d] => { results := [.lit (.bool false)], args := [d] }
  | _ => none }
def FnExactValidQueryWrongFalsely : Prop := fnExactValidQueryRow.holds Try.pinned (OpenSpec.ofChange fnExactValidQueryWrong)

/-- 'laws.FnExactDropsCard': WHATEVER THE INPUT: true; the input reads as it did. -/
def fnExactDropsCardSpec : ChangeSpec := { name := "fnExactDropsCard", fn := fun _ => fun
  | [d1, d2] => { results := [.lit (.bool true)], args := [d1, d2] }
  | _ => none }
def fnExactDropsCardRow : OpenClaim := { program := "ytljabggcdomfgaa", sum := "bef9a688b5f4f3dc51d370f8668eed7fbfb366bf0db9212e56126360bdd29395", func := "loop.example/g01261/laws.FnExactDropsCard", spec := "fnExactDropsCard", unfollowed := true, recurses := true, apart := false }
def FnExactDropsCardSaid : Prop := fnExactDropsCardRow.holds Try.pinned (OpenSpec.ofChange fnExactDropsCardSpec)

/-- ITS FALSE NEIGHBOUR: 'it returns false'. Refute it at one input. -/
def fnExactDropsCardWrong : ChangeSpec := { name := "fnExactDropsCard", fn := fun _ => fun
  | [d1, d2] => { results := [.lit (.bool false)], args := [d1, d2] }
  | _ => none }
def FnExactDropsCardWrongFalsely : Prop := fnExactDropsCardRow.holds Try.pinned (OpenSpec.ofChange fnExactDropsCardWrong)

/-- 'laws.FnExactBothQueries': WHATEVER THE INPUT: true; the input reads as it did. -/
def fnExactBothQueriesSpec : ChangeSpec := { name := "fnExactBothQueries", fn := fun _ => fun
  | [d1, d2] => { results := [.lit (.bool true)], args := [d1, d2] }
  | _ => none }
def fnExactBothQueriesRow : OpenClaim := { program := "ytljabggcdomfgaa", sum := "bef9a688b5f4f3dc51d370f8668eed7fbfb366bf0db9212e56126360bdd29395", func := "loop.example/g01261/laws.FnExactBothQueries", spec := "fnExactBothQueries", apart := false }
def FnExactBothQueriesSaid : Prop := fnExactBothQueriesRow.holds Try.pinned (OpenSpec.ofChange fnExactBothQueriesSpec)

/-- ITS FALSE NEIGHBOUR: 'it returns false'. Refute it at one input. -/
def fnExactBothQueriesWrong : ChangeSpec := { name := "fnExactBothQueries", fn := fun _ => fun
  | [d1, d2] => { results := [.lit (.bool false)], args := [d1, d2] }
  | _ => none }
def FnExactBothQueriesWrongFalsely : Prop := fnExactBothQueriesRow.holds Try.pinned (OpenSpec.ofChange fnExactBothQueriesWrong)

/-- 'laws.FnExactPassesOf': WHATEVER THE INPUT: true; the input reads as it did. -/
def fnExactPassesOfSpec : ChangeSpec := { name := "fnExactPassesOf", fn := fun _ => fun
  | [d] => { results := [.lit (.bool true)], args := [d] }
  | _ => none }
def fnExactPassesOfRow : OpenClaim := { program := "ytljabggcdomfgaa", sum := "bef9a688b5f4f3dc51d370f8668eed7fbfb366bf0db9212e56126360bdd29395", func := "loop.example/g01261/laws.FnExactPassesOf", spec := "fnExactPassesOf", apart := false }
def FnExactPassesOfSaid : Prop := fnExactPassesOfRow.holds Try.pinned (OpenSpec.ofChange fnExactPassesOfSpec)

/-- ITS FALSE NEIGHBOUR: 'it returns false'. Refute it at one input. -/
def fnExactPassesOfWrong : ChangeSpec := { name := "fnExactPassesOf", fn := fun _ => fun
  | [d] => { results := [.lit (.bool false)], args := [d] }
  | _ => none }
def FnExactPassesOfWrongFalsely : Prop := fnExactPassesOfRow.holds Try.pinned (OpenSpec.ofChange fnExactPassesOfWrong)

/-- 'laws.FnExactHolesToSort': WHATEVER THE INPUT: true; the input reads as it did. -/
def fnExactHolesToSortSpec : ChangeSpec := { name := "fnExactHolesToSort", fn := fun _ => fun
  | [d] => { results := [.lit (.bool true)], args := [d] }
  | _ => none }
def fnExactHolesToSortRow : OpenClaim := { program := "ytljabggcdomfgaa", sum := "bef9a688b5f4f3dc51d370f8668eed7fbfb366bf0db9212e56126360bdd29395", func := "loop.example/g01261/laws.FnExactHolesToSort", spec := "fnExactHolesToSort", unfollowed := true, recurses := true, apart := false }
def FnExactHolesToSortSaid : Prop := fnExactHolesToSortRow.holds Try.pinned (OpenSpec.ofChange fnExactHolesToSortSpec)

/-- ITS FALSE NEIGHBOUR: 'it returns false'. Refute it at one input. -/
def fnExactHolesToSortWrong : ChangeSpec := { name := "fnExactHolesToSort", fn := fun _ => fun
  | [d] => { results := [.lit (.bool false)], args := [d] }
  | _ => none }
def FnExactHolesToSortWrongFalsely : Prop := fnExactHolesToSortRow.holds Try.pinned (OpenSpec.ofChange fnExactHolesToSortWrong)

/-- 'laws.FnExactKeyOf': WHATEVER THE INPUT: true; the input reads as it did. -/
def fnExactKeyOfSpec : ChangeSpec := { name := "fnExactKeyOf", fn := fun _ => fun
  | [d1, d2] => { results := [.lit (.bool true)], args := [d1, d2] }
  | _ => none }
def fnExactKeyOfRow : OpenClaim := { program := "ytljabggcdomfgaa", sum := "bef9a688b5f4f3dc51d370f8668eed7fbfb366bf0db9212e56126360bdd29395", func := "loop.example/g01261/laws.FnExactKeyOf", spec := "fnExactKeyOf", unfollowed := true, recurses := true, apart := false }
def FnExactKeyOfSaid : Prop := fnExactKeyOfRow.holds Try.pinned (OpenSpec.ofChange fnExactKeyOfSpec)

/-- ITS FALSE NEIGHBOUR: 'it returns false'. Refute it at one input. -/
def fnExactKeyOfWrong : ChangeSpec := { name := "fnExactKeyOf", fn := fun _ => fun
  | [d1, d2] => { results := [.lit (.bool false)], args := [d1, d2] }
  | _ => none }
def FnExactKeyOfWrongFalsely : Prop := fnExactKeyOfRow.holds Try.pinned (OpenSpec.ofChange fnExactKeyOfWrong)

/-- 'laws.FnExactQueryFor': WHATEVER THE INPUT: true; the input reads as it did. -/
def fnExactQueryForSpec : ChangeSpec := { name := "fnExactQueryFor", fn := fun _ => fun
  | [d1, d2] => { results := [.lit (.bool true)], args := [d1, d2] }
  | _ => none }
def fnExactQueryForRow : OpenClaim := { program := "ytljabggcdomfgaa", sum := "bef9a688b5f4f3dc51d370f8668eed7fbfb366bf0db9212e56126360bdd29395", func := "loop.example/g01261/laws.FnExactQueryFor", spec := "fnExactQueryFor", unfollowed := true, recurses := true, apart := false }
def FnExactQueryForSaid : Prop := fnExactQueryForRow.holds Try.pinned (OpenSpec.ofChange fnExactQueryForSpec)

/-- ITS FALSE NEIGHBOUR: 'it returns false'. Refute it at one input. -/
def fnExactQueryForWrong : ChangeSpec := { name := "fnExactQueryFor", fn := fun _ => fun
  | [d1, d2] => { results := [.lit (.bool false)], args := [d1, d2] }
  | _ => none }
def FnExactQueryForWrongFalsely : Prop := fnExactQueryForRow.holds Try.pinned (OpenSpec.ofChange fnExactQueryForWrong)

/-- 'laws.FnMasks': WHATEVER THE INPUT: true; the input reads as it did. -/
def fnMasksSpec : ChangeSpec := { name := "fnMasks", fn := fun _ => fun
  | [d1, d2] => { results := [.lit (.bool true)], args := [d1, d2] }
  | _ => none }
def fnMasksRow : OpenClaim := { program := "ytljabggcdomfgaa", sum := "bef9a688b5f4f3dc51d370f8668eed7fbfb366bf0db9212e56126360bdd29395", func := "loop.example/g01261/laws.FnMasks", spec := "fnMasks", apart := false }
def FnMasksSaid : Prop := fnMasksRow.holds Try.pinned (OpenSpec.ofChange fnMasksSpec)

/-- ITS FALSE NEIGHBOUR: 'it returns false'. Refute it at one input. -/
def fnMasksWrong : ChangeSpec := { name := "fnMasks", fn := fun _ => fun
  | [d1, d2] => { results := [.lit (.bool false)], args := [d1, d2] }
  | _ => none }
def FnMasksWrongFalsely : Prop := fnMasksRow.holds Try.pinned (OpenSpec.ofChange fnMasksWrong)

/-- 'laws.FnExactSameDeck': WHATEVER THE INPUT: true; the input reads as it did. -/
def fnExactSameDeckSpec : ChangeSpec := { name := "fnExactSameDeck", fn := fun _ => fun
  | [d1, d2] => { results := [.lit (.bool true)], args := [d1, d2] }
  | _ => none }
def fnExactSameDeckRow : OpenClaim := { program := "ytljabggcdomfgaa", sum := "bef9a688b5f4f3dc51d370f8668eed7fbfb366bf0db9212e56126360bdd29395", func := "loop.example/g01261/laws.FnExactSameDeck", spec := "fnExactSameDeck", apart := false }
def FnExactSameDeckSaid : Prop := fnExactSameDeckRow.holds Try.pinned (OpenSpec.ofChange fnExactSameDeckSpec)

/-- ITS FALSE NEIGHBOUR: 'it returns false'. Refute it at one input. -/
def fnExactSameDeckWrong : ChangeSpec := { name := "fnExactSameDeck", fn := fun _ => fun
  | [d1, d2] => { results := [.lit (.bool false)], args := [d1, d2] }
  | _ => none }
def FnExactSameDeckWrongFalsely : Prop := fnExactSameDeckRow.holds Try.pinned (OpenSpec.ofChange fnExactSameDeckWrong)

/- THE SECOND FORM. 'bulk': how many values and letters a reading holds, each counted each time it is reached (what is shared counts as often as it is met; a slice's spare places count too). A statement '..UptoSaid' is the law's where the arguments, and the package variables that the reading takes, are together of bulk at most 1048576: NARROWER than '..Said'. Prove '..Said' where nothing that the law and all that it calls make is longer than what came in: it says more and counts as full. Else prove '..UptoSaid'. A law counts once. -/
mutual
def uptoBulk {H : Type} : DataW H → Nat
  | .lit (.string bytes) => bytes.length + 1
  | .lit _ => 1
  | .nil => 1
  | .ptr d => uptoBulk d + 1
  | .slice elems spare => uptoBulkAll elems + uptoBulkAll spare + 1
  | .agg parts => uptoBulkAll parts + 1
  | .iface _ d => uptoBulk d + 1
  | .map entries => uptoBulkEntries entries + 1
  | .held _ => 1
def uptoBulkAll {H : Type} : List (DataW H) → Nat
  | [] => 0
  | d :: r => uptoBulk d + uptoBulkAll r
def uptoBulkEntries {H : Type} : List (Lit × DataW H) → Nat
  | [] => 0
  | x :: r => uptoBulkEntry x + uptoBulkEntries r
def uptoBulkEntry {H : Type} : Lit × DataW H → Nat
  | (.string bytes, d) => bytes.length + uptoBulk d + 1
  | (_, d) => uptoBulk d + 1
 end
def uptoSmall : (H : Type) → List (DataW H) → Bool := fun _ ds => decide (uptoBulkAll ds ≤ 1048576)
def OpenSpec.upto (s : _root_.Go.ChangeSpec) : _root_.Go.OpenSpec := { _root_.Go.OpenSpec.ofChange s with cond := some uptoSmall }

/-- 'laws.FnExactPartOf', WHERE WHAT IT READS IS OF BULK AT MOST 1048576: true; the input reads as it did. -/
def fnExactPartOfUptoRow : OpenClaim := { program := "ytljabggcdomfgaa", sum := "bef9a688b5f4f3dc51d370f8668eed7fbfb366bf0db9212e56126360bdd29395", func := "loop.example/g01261/laws.FnExactPartOf", spec := "fnExactPartOf", unfollowed := true, recurses := true, apart := false, narrowed := true }
def FnExactPartOfUptoSaid : Prop := fnExactPartOfUptoRow.holds Try.pinned (OpenSpec.upto fnExactPartOfSpec)

/-- 'laws.FnExactClearField', WHERE WHAT IT READS IS OF BULK AT MOST 1048576: true; the input reads as it did. -/
def fnExactClearFieldUptoRow : OpenClaim := { program := "ytljabggcdomfgaa", sum := "bef9a688b5f4f3dc51d370f8668eed7fbfb366bf0db9212e56126360bdd29395", func := "loop.example/g01261/laws.FnExactClearField", spec := "fnExactClearField", unfollowed := true, recurses := true, apart := false, narrowed := true }
def FnExactClearFieldUptoSaid : Prop := fnExactClearFieldUptoRow.holds Try.pinned (OpenSpec.upto fnExactClearFieldSpec)

/-- 'laws.FnExactHolesIn', WHERE WHAT IT READS IS OF BULK AT MOST 1048576: true; the input reads as it did. -/
def fnExactHolesInUptoRow : OpenClaim := { program := "ytljabggcdomfgaa", sum := "bef9a688b5f4f3dc51d370f8668eed7fbfb366bf0db9212e56126360bdd29395", func := "loop.example/g01261/laws.FnExactHolesIn", spec := "fnExactHolesIn", apart := false, narrowed := true }
def FnExactHolesInUptoSaid : Prop := fnExactHolesInUptoRow.holds Try.pinned (OpenSpec.upto fnExactHolesInSpec)

/-- 'laws.FnExactValidQuery', WHERE WHAT IT READS IS OF BULK AT MOST 1048576: true; the input reads as it did. -/
def fnExactValidQueryUptoRow : OpenClaim := { program := "ytljabggcdomfgaa", sum := "bef9a688b5f4f3dc51d370f8668eed7fbfb366bf0db9212e56126360bdd29395", func := "loop.example/g01261/laws.FnExactValidQuery", spec := "fnExactValidQuery", apart := false, narrowed := true }
def FnExactValidQueryUptoSaid : Prop := fnExactValidQueryUptoRow.holds Try.pinned (OpenSpec.upto fnExactValidQuerySpec)

/-- 'laws.FnExactDropsCard', WHERE WHAT IT READS IS OF BULK AT MOST 1048576: true; the input reads as it did. -/
def fnExactDropsCardUptoRow : OpenClaim := { program := "ytljabggcdomfgaa", sum := "bef9a688b5f4f3dc51d370f8668eed7fbfb366bf0db9212e56126360bdd29395", func := "loop.example/g01261/laws.FnExactDropsCard", spec := "fnExactDropsCard", unfollowed := true, recurses := true, apart := false, narrowed := true }
def FnExactDropsCardUptoSaid : Prop := fnExactDropsCardUptoRow.holds Try.pinned (OpenSpec.upto fnExactDropsCardSpec)

/-- 'laws.FnExactBothQueries', WHERE WHAT IT READS IS OF BULK AT MOST 1048576: true; the input reads as it did. -/
def fnExactBothQueriesUptoRow : OpenClaim := { program := "ytljabggcdomfgaa", sum := "bef9a688b5f4f3dc51d370f8668eed7fbfb366bf0db9212e56126360bdd29395", func := "loop.example/g01261/laws.FnExactBothQueries", spec := "fnExactBothQueries", apart := false, narrowed := true }
def FnExactBothQueriesUptoSaid : Prop := fnExactBothQueriesUptoRow.holds Try.pinned (OpenSpec.upto fnExactBothQueriesSpec)

/-- 'laws.FnExactPassesOf', WHERE WHAT IT READS IS OF BULK AT MOST 1048576: true; the input reads as it did. -/
def fnExactPassesOfUptoRow : OpenClaim := { program := "ytljabggcdomfgaa", sum := "bef9a688b5f4f3dc51d370f8668eed7fbfb366bf0db9212e56126360bdd29395", func := "loop.example/g01261/laws.FnExactPassesOf", spec := "fnExactPassesOf", apart := false, narrowed := true }
def FnExactPassesOfUptoSaid : Prop := fnExactPassesOfUptoRow.holds Try.pinned (OpenSpec.upto fnExactPassesOfSpec)

/-- 'laws.FnExactHolesToSort', WHERE WHAT IT READS IS OF BULK AT MOST 1048576: true; the input reads as it did. -/
def fnExactHolesToSortUptoRow : OpenClaim := { program := "ytljabggcdomfgaa", sum := "bef9a688b5f4f3dc51d370f8668eed7fbfb366bf0db9212e56126360bdd29395", func := "loop.example/g01261/laws.FnExactHolesToSort", spec := "fnExactHolesToSort", unfollowed := true, recurses := true, apart := false, narrowed := true }
def FnExactHolesToSortUptoSaid : Prop := fnExactHolesToSortUptoRow.holds Try.pinned (OpenSpec.upto fnExactHolesToSortSpec)

/-- 'laws.FnExactKeyOf', WHERE WHAT IT READS IS OF BULK AT MOST 1048576: true; the input reads as it did. -/
def fnExactKeyOfUptoRow : OpenClaim := { program := "ytljabggcdomfgaa", sum := "bef9a688b5f4f3dc51d370f8668eed7fbfb366bf0db9212e56126360bdd29395", func := "loop.example/g01261/laws.FnExactKeyOf", spec := "fnExactKeyOf", unfollowed := true, recurses := true, apart := false, narrowed := true }
def FnExactKeyOfUptoSaid : Prop := fnExactKeyOfUptoRow.holds Try.pinned (OpenSpec.upto fnExactKeyOfSpec)

/-- 'laws.FnExactQueryFor', WHERE WHAT IT READS IS OF BULK AT MOST 1048576: true; the input reads as it did. -/
def fnExactQueryForUptoRow : OpenClaim := { program := "ytljabggcdomfgaa", sum := "bef9a688b5f4f3dc51d370f8668eed7fbfb366bf0db9212e56126360bdd29395", func := "loop.example/g01261/laws.FnExactQueryFor", spec := "fnExactQueryFor", unfollowed := true, recurses := true, apart := false, narrowed := true }
def FnExactQueryForUptoSaid : Prop := fnExactQueryForUptoRow.holds Try.pinned (OpenSpec.upto fnExactQueryForSpec)

/-- 'laws.FnMasks', WHERE WHAT IT READS IS OF BULK AT MOST 1048576: true; the input reads as it did. -/
def fnMasksUptoRow : OpenClaim := { program := "ytljabggcdomfgaa", sum := "bef9a688b5f4f3dc51d370f8668eed7fbfb366bf0db9212e56126360bdd29395", func := "loop.example/g01261/laws.FnMasks", spec := "fnMasks", apart := false, narrowed := true }
def FnMasksUptoSaid : Prop := fnMasksUptoRow.holds Try.pinned (OpenSpec.upto fnMasksSpec)

/-- 'laws.FnExactSameDeck', WHERE WHAT IT READS IS OF BULK AT MOST 1048576: true; the input reads as it did. -/
def fnExactSameDeckUptoRow : OpenClaim := { program := "ytljabggcdomfgaa", sum := "bef9a688b5f4f3dc51d370f8668eed7fbfb366bf0db9212e56126360bdd29395", func := "loop.example/g01261/laws.FnExactSameDeck", spec := "fnExactSameDeck", apart := false, narrowed := true }
def FnExactSameDeckUptoSaid : Prop := fnExactSameDeckUptoRow.holds Try.pinned (OpenSpec.upto fnExactSameDeckSpec)

end Rows
end Go.Proofs.Ytljabggcdomfgaa
