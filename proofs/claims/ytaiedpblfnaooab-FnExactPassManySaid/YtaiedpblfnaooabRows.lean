/-
  No cell of these rows narrows 'for every input' (looked for: loops, veiled, ifaces, maps, wideKeys, modest, calm, conditions, laid).
  DERIVED. THE GIVEN ROWS OF THIS SEAT. 12 by the template 'for every input the law returns true; each argument reads behind the call as it read before'; 0 by the template 'total and deterministic' (their statements: YtaiedpblfnaooabTotals.lean).
  GIVEN WITH THE SEED: the statements are not yours to turn. If you find one false, say at which input.
  Laid BY PROGRAM, IN A SANDBOX (cutbox-rows.mjs): the forced cells as the released guide's own fill.sh prints them over the translation 94ff1f70a012c4ec… (all of the seat's roots in one cut). By AI agents, Wed Nov 11 2026. No macro, syntax, notation, axiom, sorry.
-/
import Derived.Test.YtaiedpblfnaooabChecked
import GoSem.Claim
import GoSem.ClaimJoined
import GoSem.ClaimMapViews
import Derived.JoinedTies
import Derived.KernelRfl
namespace Go.Proofs.Ytaiedpblfnaooab
/- THE CELL 'sum', in the pinned program and in every row, IS THE sha256 OF THE DUMP (.gsa) THAT YtaiedpblfnaooabProg.lean LOADS. Nothing in Lean hashes anything: it is a label: what it is worth is what the hold of that sum in a sandbox is worth. -/
noncomputable def Try.pinned : Pinned := { name := "ytaiedpblfnaooab", sum := "94ff1f70a012c4ec84d2919be96e9b3fb8c30d1e7b32db0348523fb8a3d27ad0", checked := Try.checked }
namespace Rows
def none {H : Type} : Left H := { results := [], args := [] }

/-- 'laws.FnExactMostOf': WHATEVER THE INPUT: true; the input reads as it did. -/
def fnExactMostOfSpec : ChangeSpec := { name := "fnExactMostOf", fn := fun _ => fun
  | [d] => { results := [.lit (.bool true)], args := [d] }
  | _ => none }
def fnExactMostOfRow : OpenClaim := { program := "ytaiedpblfnaooab", sum := "94ff1f70a012c4ec84d2919be96e9b3fb8c30d1e7b32db0348523fb8a3d27ad0", func := "loop.example/g01261/laws.FnExactMostOf", spec := "fnExactMostOf", unfollowed := true, recurses := true, leaving := true, apart := false }
def FnExactMostOfSaid : Prop := fnExactMostOfRow.holds Try.pinned (OpenSpec.ofChange fnExactMostOfSpec)

/-- ITS FALSE NEIGHBOUR: 'it returns false'. Refute it at one input. -/
def fnExactMostOfWrong : ChangeSpec := { name := "fnExactMostOf", fn := fun _ => fun
  | [d] => { results := [.lit (.bool false)], args := [d] }
  | _ => none }
def FnExactMostOfWrongFalsely : Prop := fnExactMostOfRow.holds Try.pinned (OpenSpec.ofChange fnExactMostOfWrong)

/-- 'laws.FnExactPassMany': WHATEVER THE INPUT: true; the input reads as it did. -/
def fnExactPassManySpec : ChangeSpec := { name := "fnExactPassMany", fn := fun _ => fun
  | [d1, d2] => { results := [.lit (.bool true)], args := [d1, d2] }
  | _ => none }
def fnExactPassManyRow : OpenClaim := { program := "ytaiedpblfnaooab", sum := "94ff1f70a012c4ec84d2919be96e9b3fb8c30d1e7b32db0348523fb8a3d27ad0", func := "loop.example/g01261/laws.FnExactPassMany", spec := "fnExactPassMany", unfollowed := true, recurses := true, leaving := true, apart := false }
def FnExactPassManySaid : Prop := fnExactPassManyRow.holds Try.pinned (OpenSpec.ofChange fnExactPassManySpec)

/-- ITS FALSE NEIGHBOUR: 'it returns false'. Refute it at one input. -/
def fnExactPassManyWrong : ChangeSpec := { name := "fnExactPassMany", fn := fun _ => fun
  | [d1, d2] => { results := [.lit (.bool false)], args := [d1, d2] }
  | _ => none }
def FnExactPassManyWrongFalsely : Prop := fnExactPassManyRow.holds Try.pinned (OpenSpec.ofChange fnExactPassManyWrong)

/-- 'laws.FnExactHolesToSort': WHATEVER THE INPUT: true; the input reads as it did. -/
def fnExactHolesToSortSpec : ChangeSpec := { name := "fnExactHolesToSort", fn := fun _ => fun
  | [d] => { results := [.lit (.bool true)], args := [d] }
  | _ => none }
def fnExactHolesToSortRow : OpenClaim := { program := "ytaiedpblfnaooab", sum := "94ff1f70a012c4ec84d2919be96e9b3fb8c30d1e7b32db0348523fb8a3d27ad0", func := "loop.example/g01261/laws.FnExactHolesToSort", spec := "fnExactHolesToSort", unfollowed := true, recurses := true, leaving := true, apart := false }
def FnExactHolesToSortSaid : Prop := fnExactHolesToSortRow.holds Try.pinned (OpenSpec.ofChange fnExactHolesToSortSpec)

/-- ITS FALSE NEIGHBOUR: 'it returns false'. Refute it at one input. -/
def fnExactHolesToSortWrong : ChangeSpec := { name := "fnExactHolesToSort", fn := fun _ => fun
  | [d] => { results := [.lit (.bool false)], args := [d] }
  | _ => none }
def FnExactHolesToSortWrongFalsely : Prop := fnExactHolesToSortRow.holds Try.pinned (OpenSpec.ofChange fnExactHolesToSortWrong)

/-- 'laws.FnExactKeyOf': WHATEVER THE INPUT: true; the input reads as it did. -/
def fnExactKeyOfSpec : ChangeSpec := { name := "fnExactKeyOf", fn := fun _ => fun
  | [d1, d2] => { results := [.lit (.bool true)], args := [d1, d2] }
  | _ => none }
def fnExactKeyOfRow : OpenClaim := { program := "ytaiedpblfnaooab", sum := "94ff1f70a012c4ec84d2919be96e9b3fb8c30d1e7b32db0348523fb8a3d27ad0", func := "loop.example/g01261/laws.FnExactKeyOf", spec := "fnExactKeyOf", unfollowed := true, recurses := true, leaving := true, apart := false }
def FnExactKeyOfSaid : Prop := fnExactKeyOfRow.holds Try.pinned (OpenSpec.ofChange fnExactKeyOfSpec)

/-- ITS FALSE NEIGHBOUR: 'it returns false'. Refute it at one input. -/
def fnExactKeyOfWrong : ChangeSpec := { name := "fnExactKeyOf", fn := fun _ => fun
  | [d1, d2] => { results := [.lit (.bool false)], args := [d1, d2] }
  | _ => none }
def FnExactKeyOfWrongFalsely : Prop := fnExactKeyOfRow.holds Try.pinned (OpenSpec.ofChange fnExactKeyOfWrong)

/-- 'laws.FnExactSortDeck': WHATEVER THE INPUT: true; the input reads as it did. -/
def fnExactSortDeckSpec : ChangeSpec := { name := "fnExactSortDeck", fn := fun _ => fun
  | [d1, d2] => { results := [.lit (.bool true)], args := [d1, d2] }
  | _ => none }
def fnExactSortDeckRow : OpenClaim := { program := "ytaiedpblfnaooab", sum := "94ff1f70a012c4ec84d2919be96e9b3fb8c30d1e7b32db0348523fb8a3d27ad0", func := "loop.example/g01261/laws.FnExactSortDeck", spec := "fnExactSortDeck", unfollowed := true, recurses := true, leaving := true, apart := false }
def FnExactSortDeckSaid : Prop := fnExactSortDeckRow.holds Try.pinned (OpenSpec.ofChange fnExactSortDeckSpec)

/-- ITS FALSE NEIGHBOUR: 'it returns false'. Refute it at one input. -/
def fnExactSortDeckWrong : ChangeSpec := { name := "fnExactSortDeck", fn := fun _ => fun
  | [d1, d2] => { results := [.lit (.bool false)], args := [d1, d2] }
  | _ => none }
def FnExactSortDeckWrongFalsely : Prop := fnExactSortDeckRow.holds Try.pinned (OpenSpec.ofChange fnExactSortDeckWrong)

/-- 'laws.FnExactWordHoles': WHATEVER THE INPUT: true; the input reads as it did. -/
def fnExactWordHolesSpec : ChangeSpec := { name := "fnExactWordHoles", fn := fun _ => fun
  | [d1, d2] => { results := [.lit (.bool true)], args := [d1, d2] }
  | _ => none }
def fnExactWordHolesRow : OpenClaim := { program := "ytaiedpblfnaooab", sum := "94ff1f70a012c4ec84d2919be96e9b3fb8c30d1e7b32db0348523fb8a3d27ad0", func := "loop.example/g01261/laws.FnExactWordHoles", spec := "fnExactWordHoles", apart := false }
def FnExactWordHolesSaid : Prop := fnExactWordHolesRow.holds Try.pinned (OpenSpec.ofChange fnExactWordHolesSpec)

/-- ITS FALSE NEIGHBOUR: 'it returns false'. Refute it at one input. -/
def fnExactWordHolesWrong : ChangeSpec := { name := "fnExactWordHoles", fn := fun _ => fun
  | [d1, d2] => { results := [.lit (.bool false)], args := [d1, d2] }
  | _ => none }
def FnExactWordHolesWrongFalsely : Prop := fnExactWordHolesRow.holds Try.pinned (OpenSpec.ofChange fnExactWordHolesWrong)

/-- 'laws.FnExactAddWords': WHATEVER THE INPUT: true; the input reads as it did. -/
def fnExactAddWordsSpec : ChangeSpec := { name := "fnExactAddWords", fn := fun _ => fun
  | [d1, d2, d3] => { results := [.lit (.bool true)], args := [d1, d2, d3] }
  | _ => none }
def fnExactAddWordsRow : OpenClaim := { program := "ytaiedpblfnaooab", sum := "94ff1f70a012c4ec84d2919be96e9b3fb8c30d1e7b32db0348523fb8a3d27ad0", func := "loop.example/g01261/laws.FnExactAddWords", spec := "fnExactAddWords", apart := false }
def FnExactAddWordsSaid : Prop := fnExactAddWordsRow.holds Try.pinned (OpenSpec.ofChange fnExactAddWordsSpec)

/-- ITS FALSE NEIGHBOUR: 'it returns false'. Refute it at one input. -/
def fnExactAddWordsWrong : ChangeSpec := { name := "fnExactAddWords", fn := fun _ => fun
  | [d1, d2, d3] => { results := [.lit (.bool false)], args := [d1, d2, d3] }
  | _ => none }
def FnExactAddWordsWrongFalsely : Prop := fnExactAddWordsRow.holds Try.pinned (OpenSpec.ofChange fnExactAddWordsWrong)

/-- 'laws.FnExactNeedlesFor': WHATEVER THE INPUT: true; the input reads as it did. -/
def fnExactNeedlesForSpec : ChangeSpec := { name := "fnExactNeedlesFor", fn := fun _ => fun
  | [d1, d2] => { results := [.lit (.bool true)], args := [d1, d2] }
  | _ => none }
def fnExactNeedlesForRow : OpenClaim := { program := "ytaiedpblfnaooab", sum := "94ff1f70a012c4ec84d2919be96e9b3fb8c30d1e7b32db0348523fb8a3d27ad0", func := "loop.example/g01261/laws.FnExactNeedlesFor", spec := "fnExactNeedlesFor", apart := false }
def FnExactNeedlesForSaid : Prop := fnExactNeedlesForRow.holds Try.pinned (OpenSpec.ofChange fnExactNeedlesForSpec)

/-- ITS FALSE NEIGHBOUR: 'it returns false'. Refute it at one input. -/
def fnExactNeedlesForWrong : ChangeSpec := { name := "fnExactNeedlesFor", fn := fun _ => fun
  | [d1, d2] => { results := [.lit (.bool false)], args := [d1, d2] }
  | _ => none }
def FnExactNeedlesForWrongFalsely : Prop := fnExactNeedlesForRow.holds Try.pinned (OpenSpec.ofChange fnExactNeedlesForWrong)

/-- 'laws.FnExactFullestOf': WHATEVER THE INPUT: true; the input reads as it did. -/
def fnExactFullestOfSpec : ChangeSpec := { name := "fnExactFullestOf", fn := fun _ => fun
  | [d1, d2] => { results := [.lit (.bool true)], args := [d1, d2] }
  | _ => none }
def fnExactFullestOfRow : OpenClaim := { program := "ytaiedpblfnaooab", sum := "94ff1f70a012c4ec84d2919be96e9b3fb8c30d1e7b32db0348523fb8a3d27ad0", func := "loop.example/g01261/laws.FnExactFullestOf", spec := "fnExactFullestOf", apart := false }
def FnExactFullestOfSaid : Prop := fnExactFullestOfRow.holds Try.pinned (OpenSpec.ofChange fnExactFullestOfSpec)

/-- ITS FALSE NEIGHBOUR: 'it returns false'. Refute it at one input. -/
def fnExactFullestOfWrong : ChangeSpec := { name := "fnExactFullestOf", fn := fun _ => fun
  | [d1, d2] => { results := [.lit (.bool false)], args := [d1, d2] }
  | _ => none }
def FnExactFullestOfWrongFalsely : Prop := fnExactFullestOfRow.holds Try.pinned (OpenSpec.ofChange fnExactFullestOfWrong)

/-- 'laws.FnExactMakeAnswer': WHATEVER THE INPUT: true; the input reads as it did. -/
def fnExactMakeAnswerSpec : ChangeSpec := { name := "fnExactMakeAnswer", fn := fun _ => fun
  | [d1, d2] => { results := [.lit (.bool true)], args := [d1, d2] }
  | _ => none }
def fnExactMakeAnswerRow : OpenClaim := { program := "ytaiedpblfnaooab", sum := "94ff1f70a012c4ec84d2919be96e9b3fb8c30d1e7b32db0348523fb8a3d27ad0", func := "loop.example/g01261/laws.FnExactMakeAnswer", spec := "fnExactMakeAnswer", apart := false }
def FnExactMakeAnswerSaid : Prop := fnExactMakeAnswerRow.holds Try.pinned (OpenSpec.ofChange fnExactMakeAnswerSpec)

/-- ITS FALSE NEIGHBOUR: 'it returns false'. Refute it at one input. -/
def fnExactMakeAnswerWrong : ChangeSpec := { name := "fnExactMakeAnswer", fn := fun _ => fun
  | [d1, d2] => { results := [.lit (.bool false)], args := [d1, d2] }
  | _ => none }
def FnExactMakeAnswerWrongFalsely : Prop := fnExactMakeAnswerRow.holds Try.pinned (OpenSpec.ofChange fnExactMakeAnswerWrong)

/-- 'laws.FnExactSameAnswer': WHATEVER THE INPUT: true; the input reads as it did. -/
def fnExactSameAnswerSpec : ChangeSpec := { name := "fnExactSameAnswer", fn := fun _ => fun
  | [d1, d2] => { results := [.lit (.bool true)], args := [d1, d2] }
  | _ => none }
def fnExactSameAnswerRow : OpenClaim := { program := "ytaiedpblfnaooab", sum := "94ff1f70a012c4ec84d2919be96e9b3fb8c30d1e7b32db0348523fb8a3d27ad0", func := "loop.example/g01261/laws.FnExactSameAnswer", spec := "fnExactSameAnswer", apart := false }
def FnExactSameAnswerSaid : Prop := fnExactSameAnswerRow.holds Try.pinned (OpenSpec.ofChange fnExactSameAnswerSpec)

/-- ITS FALSE NEIGHBOUR: 'it returns false'. Refute it at one input. -/
def fnExactSameAnswerWrong : ChangeSpec := { name := "fnExactSameAnswer", fn := fun _ => fun
  | [d1, d2] => { results := [.lit (.bool false)], args := [d1, d2] }
  | _ => none }
def FnExactSameAnswerWrongFalsely : Prop := fnExactSameAnswerRow.holds Try.pinned (OpenSpec.ofChange fnExactSameAnswerWrong)

/-- 'laws.FnExactCheckAnswer': WHATEVER THE INPUT: true; the input reads as it did. -/
def fnExactCheckAnswerSpec : ChangeSpec := { name := "fnExactCheckAnswer", fn := fun _ => fun
  | [d1, d2] => { results := [.lit (.bool true)], args := [d1, d2] }
  | _ => none }
def fnExactCheckAnswerRow : OpenClaim := { program := "ytaiedpblfnaooab", sum := "94ff1f70a012c4ec84d2919be96e9b3fb8c30d1e7b32db0348523fb8a3d27ad0", func := "loop.example/g01261/laws.FnExactCheckAnswer", spec := "fnExactCheckAnswer", unfollowed := true, recurses := true, leaving := true, apart := false }
def FnExactCheckAnswerSaid : Prop := fnExactCheckAnswerRow.holds Try.pinned (OpenSpec.ofChange fnExactCheckAnswerSpec)

/-- ITS FALSE NEIGHBOUR: 'it returns false'. Refute it at one input. -/
def fnExactCheckAnswerWrong : ChangeSpec := { name := "fnExactCheckAnswer", fn := fun _ => fun
  | [d1, d2] => { results := [.lit (.bool false)], args := [d1, d2] }
  | _ => none }
def FnExactCheckAnswerWrongFalsely : Prop := fnExactCheckAnswerRow.holds Try.pinned (OpenSpec.ofChange fnExactCheckAnswerWrong)

/- THE SECOND FORM. 'bulk': how many values and letters a reading holds, each counted each time it is reached (what is shared counts as often as it is met; a slice's spare places count too). A statement '..UptoSaid' is the law's where the arguments, and the package variables that the reading takes, are together of bulk at most 1048576: NARROWER than '..Said'. Prove '..Said' where nothing that the law and all that it calls make is longer than what came in: it says more and counts as full. Else prove '..UptoSaid'. A law counts once. -/
mutual
def uptoBulk {H : Type} : DataW H → Nat
  | .lit (.string bytes) => bytes.length + 1
  | .lit _ => 1
  | .nil => 1
  | .ptr d => uptoBulk d + 1
  | .slice elems spare => uptoBulkAll elems + uptoBulkAll spare + 1
  | .agg parts => uptoBulkAll parts + 1
  | .iface _ d => uptoBulk d + 1
  | .map entries => uptoBulkEntries entries + 1
  | .held _ => 1
def uptoBulkAll {H : Type} : List (DataW H) → Nat
  | [] => 0
  | d :: r => uptoBulk d + uptoBulkAll r
def uptoBulkEntries {H : Type} : List (Lit × DataW H) → Nat
  | [] => 0
  | x :: r => uptoBulkEntry x + uptoBulkEntries r
def uptoBulkEntry {H : Type} : Lit × DataW H → Nat
  | (.string bytes, d) => bytes.length + uptoBulk d + 1
  | (_, d) => uptoBulk d + 1
 end
def uptoSmall : (H : Type) → List (DataW H) → Bool := fun _ ds => decide (uptoBulkAll ds ≤ 1048576)
def OpenSpec.upto (s : _root_.Go.ChangeSpec) : _root_.Go.OpenSpec := { _root_.Go.OpenSpec.ofChange s with cond := some uptoSmall }

/-- 'laws.FnExactMostOf', WHERE WHAT IT READS IS OF BULK AT MOST 1048576: true; the input reads as it did. -/
def fnExactMostOfUptoRow : OpenClaim := { program := "ytaiedpblfnaooab", sum := "94ff1f70a012c4ec84d2919be96e9b3fb8c30d1e7b32db0348523fb8a3d27ad0", func := "loop.example/g01261/laws.FnExactMostOf", spec := "fnExactMostOf", unfollowed := true, recurses := true, leaving := true, apart := false, narrowed := true }
def FnExactMostOfUptoSaid : Prop := fnExactMostOfUptoRow.holds Try.pinned (OpenSpec.upto fnExactMostOfSpec)

/-- 'laws.FnExactPassMany', WHERE WHAT IT READS IS OF BULK AT MOST 1048576: true; the input reads as it did. -/
def fnExactPassManyUptoRow : OpenClaim := { program := "ytaiedpblfnaooab", sum := "94ff1f70a012c4ec84d2919be96e9b3fb8c30d1e7b32db0348523fb8a3d27ad0", func := "loop.example/g01261/laws.FnExactPassMany", spec := "fnExactPassMany", unfollowed := true, recurses := true, leaving := true, apart := false, narrowed := true }
def FnExactPassManyUptoSaid : Prop := fnExactPassManyUptoRow.holds Try.pinned (OpenSpec.upto fnExactPassManySpec)

/-- 'laws.FnExactHolesToSort', WHERE WHAT IT READS IS OF BULK AT MOST 1048576: true; the input reads as it did. -/
def fnExactHolesToSortUptoRow : OpenClaim := { program := "ytaiedpblfnaooab", sum := "94ff1f70a012c4ec84d2919be96e9b3fb8c30d1e7b32db0348523fb8a3d27ad0", func := "loop.example/g01261/laws.FnExactHolesToSort", spec := "fnExactHolesToSort", unfollowed := true, recurses := true, leaving := true, apart := false, narrowed := true }
def FnExactHolesToSortUptoSaid : Prop := fnExactHolesToSortUptoRow.holds Try.pinned (OpenSpec.upto fnExactHolesToSortSpec)

/-- 'laws.FnExactKeyOf', WHERE WHAT IT READS IS OF BULK AT MOST 1048576: true; the input reads as it did. -/
def fnExactKeyOfUptoRow : OpenClaim := { program := "ytaiedpblfnaooab", sum := "94ff1f70a012c4ec84d2919be96e9b3fb8c30d1e7b32db0348523fb8a3d27ad0", func := "loop.example/g01261/laws.FnExactKeyOf", spec := "fnExactKeyOf", unfollowed := true, recurses := true, leaving := true, apart := false, narrowed := true }
def FnExactKeyOfUptoSaid : Prop := fnExactKeyOfUptoRow.holds Try.pinned (OpenSpec.upto fnExactKeyOfSpec)

/-- 'laws.FnExactSortDeck', WHERE WHAT IT READS IS OF BULK AT MOST 1048576: true; the input reads as it did. -/
def fnExactSortDeckUptoRow : OpenClaim := { program := "ytaiedpblfnaooab", sum := "94ff1f70a012c4ec84d2919be96e9b3fb8c30d1e7b32db0348523fb8a3d27ad0", func := "loop.example/g01261/laws.FnExactSortDeck", spec := "fnExactSortDeck", unfollowed := true, recurses := true, leaving := true, apart := false, narrowed := true }
def FnExactSortDeckUptoSaid : Prop := fnExactSortDeckUptoRow.holds Try.pinned (OpenSpec.upto fnExactSortDeckSpec)

/-- 'laws.FnExactWordHoles', WHERE WHAT IT READS IS OF BULK AT MOST 1048576: true; the input reads as it did. -/
def fnExactWordHolesUptoRow : OpenClaim := { program := "ytaiedpblfnaooab", sum := "94ff1f70a012c4ec84d2919be96e9b3fb8c30d1e7b32db0348523fb8a3d27ad0", func := "loop.example/g01261/laws.FnExactWordHoles", spec := "fnExactWordHoles", apart := false, narrowed := true }
def FnExactWordHolesUptoSaid : Prop := fnExactWordHolesUptoRow.holds Try.pinned (OpenSpec.upto fnExactWordHolesSpec)

/-- 'laws.FnExactAddWords', WHERE WHAT IT READS IS OF BULK AT MOST 1048576: true; the input reads as it did. -/
def fnExactAddWordsUptoRow : OpenClaim := { program := "ytaiedpblfnaooab", sum := "94ff1f70a012c4ec84d2919be96e9b3fb8c30d1e7b32db0348523fb8a3d27ad0", func := "loop.example/g01261/laws.FnExactAddWords", spec := "fnExactAddWords", apart := false, narrowed := true }
def FnExactAddWordsUptoSaid : Prop := fnExactAddWordsUptoRow.holds Try.pinned (OpenSpec.upto fnExactAddWordsSpec)

/-- 'laws.FnExactNeedlesFor', WHERE WHAT IT READS IS OF BULK AT MOST 1048576: true; the input reads as it did. -/
def fnExactNeedlesForUptoRow : OpenClaim := { program := "ytaiedpblfnaooab", sum := "94ff1f70a012c4ec84d2919be96e9b3fb8c30d1e7b32db0348523fb8a3d27ad0", func := "loop.example/g01261/laws.FnExactNeedlesFor", spec := "fnExactNeedlesFor", apart := false, narrowed := true }
def FnExactNeedlesForUptoSaid : Prop := fnExactNeedlesForUptoRow.holds Try.pinned (OpenSpec.upto fnExactNeedlesForSpec)

/-- 'laws.FnExactFullestOf', WHERE WHAT IT READS IS OF BULK AT MOST 1048576: true; the input reads as it did. -/
def fnExactFullestOfUptoRow : OpenClaim := { program := "ytaiedpblfnaooab", sum := "94ff1f70a012c4ec84d2919be96e9b3fb8c30d1e7b32db0348523fb8a3d27ad0", func := "loop.example/g01261/laws.FnExactFullestOf", spec := "fnExactFullestOf", apart := false, narrowed := true }
def FnExactFullestOfUptoSaid : Prop := fnExactFullestOfUptoRow.holds Try.pinned (OpenSpec.upto fnExactFullestOfSpec)

/-- 'laws.FnExactMakeAnswer', WHERE WHAT IT READS IS OF BULK AT MOST 1048576: true; the input reads as it did. -/
def fnExactMakeAnswerUptoRow : OpenClaim := { program := "ytaiedpblfnaooab", sum := "94ff1f70a012c4ec84d2919be96e9b3fb8c30d1e7b32db0348523fb8a3d27ad0", func := "loop.example/g01261/laws.FnExactMakeAnswer", spec := "fnExactMakeAnswer", apart := false, narrowed := true }
def FnExactMakeAnswerUptoSaid : Prop := fnExactMakeAnswerUptoRow.holds Try.pinned (OpenSpec.upto fnExactMakeAnswerSpec)

/-- 'laws.FnExactSameAnswer', WHERE WHAT IT READS IS OF BULK AT MOST 1048576: true; the input reads as it did. -/
def fnExactSameAnswerUptoRow : OpenClaim := { program := "ytaiedpblfnaooab", sum := "94ff1f70a012c4ec84d2919be96e9b3fb8c30d1e7b32db0348523fb8a3d27ad0", func := "loop.example/g01261/laws.FnExactSameAnswer", spec := "fnExactSameAnswer", apart := false, narrowed := true }
def FnExactSameAnswerUptoSaid : Prop := fnExactSameAnswerUptoRow.holds Try.pinned (OpenSpec.upto fnExactSameAnswerSpec)

/-- 'laws.FnExactCheckAnswer', WHERE WHAT IT READS IS OF BULK AT MOST 1048576: true; the input reads as it did. -/
def fnExactCheckAnswerUptoRow : OpenClaim := { program := "ytaiedpblfnaooab", sum := "94ff1f70a012c4ec84d2919be96e9b3fb8c30d1e7b32db0348523fb8a3d27ad0", func := "loop.example/g01261/laws.FnExactCheckAnswer", spec := "fnExactCheckAnswer", unfollowed := true, recurses := true, leaving := true, apart := false, narrowed := true }
def FnExactCheckAnswerUptoSaid : Prop := fnExactCheckAnswerUptoRow.holds Try.pinned (OpenSpec.upto fnExactCheckAnswerSpec)

end Rows
end Go.Proofs.Ytaiedpblfnaooab
