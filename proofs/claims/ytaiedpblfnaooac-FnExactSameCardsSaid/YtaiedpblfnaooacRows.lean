/-
  No cell of these rows narrows 'for every input' (looked for: loops, veiled, ifaces, maps, wideKeys, modest, calm, conditions, laid).
  DERIVED. THE GIVEN ROWS OF THIS SEAT. 9 by the template 'for every input the law returns true; each argument reads behind the call as it read before'; 0 by the template 'total and deterministic' (their statements: YtaiedpblfnaooacTotals.lean).
  GIVEN WITH THE SEED: the statements are not yours to turn. If you find one false, say at which input.
  Laid BY PROGRAM, IN A SANDBOX (cutbox-rows.mjs): the forced cells as the released guide's own fill.sh prints them over the translation 7d5e28fcbe23abb2… (all of the seat's roots in one cut). By AI agents, Wed Nov 11 2026. No macro, syntax, notation, axiom, sorry.
-/
import Derived.Test.YtaiedpblfnaooacChecked
import GoSem.Claim
import GoSem.ClaimJoined
import GoSem.ClaimMapViews
import Derived.JoinedTies
import Derived.KernelRfl
namespace Go.Proofs.Ytaiedpblfnaooac
/- THE CELL 'sum', in the pinned program and in every row, IS THE sha256 OF THE DUMP (.gsa) THAT YtaiedpblfnaooacProg.lean LOADS. Nothing in Lean hashes anything: it is a label: what it is worth is what the hold of that sum in a sandbox is worth. -/
noncomputable def Try.pinned : Pinned := { name := "ytaiedpblfnaooac", sum := "7d5e28fcbe23abb2ff46ecfd0a4100b33a5effe2353a0695a6a3f0bf2d558ac3", checked := Try.checked }
namespace Rows
def none {H : Type} : Left H := { results := [], args := [] }

/-- 'laws.FnExactFirstFault': WHATEVER THE INPUT: true; the input reads as it did. -/
def fnExactFirstFaultSpec : ChangeSpec := { name := "fnExactFirstFault", fn := fun _ => fun
  | [d1, d2] => { results := [.lit (.bool true)], args := [d1, d2] }
  | _ => none }
def fnExactFirstFaultRow : OpenClaim := { program := "ytaiedpblfnaooac", sum := "7d5e28fcbe23abb2ff46ecfd0a4100b33a5effe2353a0695a6a3f0bf2d558ac3", func := "loop.example/g01261/laws.FnExactFirstFault", spec := "fnExactFirstFault", unfollowed := true, recurses := true, plainKeys := false, leaving := true, apart := false }
def FnExactFirstFaultSaid : Prop := fnExactFirstFaultRow.holds Try.pinned (OpenSpec.ofChange fnExactFirstFaultSpec)

/-- ITS FALSE NEIGHBOUR: 'it returns false'. Refute it at one input. -/
def fnExactFirstFaultWrong : ChangeSpec := { name := "fnExactFirstFault", fn := fun _ => fun
  | [d1, d2] => { results := [.lit (.bool false)], args := [d1, d2] }
  | _ => none }
def FnExactFirstFaultWrongFalsely : Prop := fnExactFirstFaultRow.holds Try.pinned (OpenSpec.ofChange fnExactFirstFaultWrong)

/-- 'laws.FnExactHashCard': WHATEVER THE INPUT: true; the input reads as it did. -/
def fnExactHashCardSpec : ChangeSpec := { name := "fnExactHashCard", fn := fun _ => fun
  | [d] => { results := [.lit (.bool true)], args := [d] }
  | _ => none }
def fnExactHashCardRow : OpenClaim := { program := "ytaiedpblfnaooac", sum := "7d5e28fcbe23abb2ff46ecfd0a4100b33a5effe2353a0695a6a3f0bf2d558ac3", func := "loop.example/g01261/laws.FnExactHashCard", spec := "fnExactHashCard", plainKeys := false, apart := false }
def FnExactHashCardSaid : Prop := fnExactHashCardRow.holds Try.pinned (OpenSpec.ofChange fnExactHashCardSpec)

/-- ITS FALSE NEIGHBOUR: 'it returns false'. Refute it at one input. -/
def fnExactHashCardWrong : ChangeSpec := { name := "fnExactHashCard", fn := fun _ => fun
  | [d] => { results := [.lit (.bool false)], args := [d] }
  | _ => none }
def FnExactHashCardWrongFalsely : Prop := fnExactHashCardRow.holds Try.pinned (OpenSpec.ofChange fnExactHashCardWrong)

/-- 'laws.FnExactCheckOfDeck': WHATEVER THE INPUT: true; the input reads as it did. -/
def fnExactCheckOfDeckSpec : ChangeSpec := { name := "fnExactCheckOfDeck", fn := fun _ => fun
  | [d] => { results := [.lit (.bool true)], args := [d] }
  | _ => none }
def fnExactCheckOfDeckRow : OpenClaim := { program := "ytaiedpblfnaooac", sum := "7d5e28fcbe23abb2ff46ecfd0a4100b33a5effe2353a0695a6a3f0bf2d558ac3", func := "loop.example/g01261/laws.FnExactCheckOfDeck", spec := "fnExactCheckOfDeck", plainKeys := false, apart := false }
def FnExactCheckOfDeckSaid : Prop := fnExactCheckOfDeckRow.holds Try.pinned (OpenSpec.ofChange fnExactCheckOfDeckSpec)

/-- ITS FALSE NEIGHBOUR: 'it returns false'. Refute it at one input. -/
def fnExactCheckOfDeckWrong : ChangeSpec := { name := "fnExactCheckOfDeck", fn := fun _ => fun
  | [d] => { results := [.lit (.bool false)], args := [d] }
  | _ => none }
def FnExactCheckOfDeckWrongFalsely : Prop := fnExactCheckOfDeckRow.holds Try.pinned (OpenSpec.ofChange fnExactCheckOfDeckWrong)

/-- 'laws.FnExactSameCards': WHATEVER THE INPUT: true; the input reads as it did. -/
def fnExactSameCardsSpec : ChangeSpec := { name := "fnExactSameCards", fn := fun _ => fun
  | [d1, d2] => { results := [.lit (.bool true)], args := [d1, d2] }
  | _ => none }
def fnExactSameCardsRow : OpenClaim := { program := "ytaiedpblfnaooac", sum := "7d5e28fcbe23abb2ff46ecfd0a4100b33a5effe2353a0695a6a3f0bf2d558ac3", func := "loop.example/g01261/laws.FnExactSameCards", spec := "fnExactSameCards", plainKeys := false, apart := false }
def FnExactSameCardsSaid : Prop := fnExactSameCardsRow.holds Try.pinned (OpenSpec.ofChange fnExactSameCardsSpec)

/-- ITS FALSE NEIGHBOUR: 'it returns false'. Refute it at one input. -/
def fnExactSameCardsWrong : ChangeSpec := { name := "fnExactSameCards", fn := fun _ => fun
  | [d1, d2] => { results := [.lit (.bool false)], args := [d1, d2] }
  | _ => none }
def FnExactSameCardsWrongFalsely : Prop := fnExactSameCardsRow.holds Try.pinned (OpenSpec.ofChange fnExactSameCardsWrong)

/-- 'laws.FnExactDuplicatesOf': WHATEVER THE INPUT: true; the input reads as it did. -/
def fnExactDuplicatesOfSpec : ChangeSpec := { name := "fnExactDuplicatesOf", fn := fun _ => fun
  | [d] => { results := [.lit (.bool true)], args := [d] }
  | _ => none }
def fnExactDuplicatesOfRow : OpenClaim := { program := "ytaiedpblfnaooac", sum := "7d5e28fcbe23abb2ff46ecfd0a4100b33a5effe2353a0695a6a3f0bf2d558ac3", func := "loop.example/g01261/laws.FnExactDuplicatesOf", spec := "fnExactDuplicatesOf", plainKeys := false, apart := false }
def FnExactDuplicatesOfSaid : Prop := fnExactDuplicatesOfRow.holds Try.pinned (OpenSpec.ofChange fnExactDuplicatesOfSpec)

/-- ITS FALSE NEIGHBOUR: 'it returns false'. Refute it at one input. -/
def fnExactDuplicatesOfWrong : ChangeSpec := { name := "fnExactDuplicatesOf", fn := fun _ => fun
  | [d] => { results := [.lit (.bool false)], args := [d] }
  | _ => none }
def FnExactDuplicatesOfWrongFalsely : Prop := fnExactDuplicatesOfRow.holds Try.pinned (OpenSpec.ofChange fnExactDuplicatesOfWrong)

/-- 'laws.FnExactDistanceOf': WHATEVER THE INPUT: true; the input reads as it did. -/
def fnExactDistanceOfSpec : ChangeSpec := { name := "fnExactDistanceOf", fn := fun _ => fun
  | [d1, d2] => { results := [.lit (.bool true)], args := [d1, d2] }
  | _ => none }
def fnExactDistanceOfRow : OpenClaim := { program := "ytaiedpblfnaooac", sum := "7d5e28fcbe23abb2ff46ecfd0a4100b33a5effe2353a0695a6a3f0bf2d558ac3", func := "loop.example/g01261/laws.FnExactDistanceOf", spec := "fnExactDistanceOf", plainKeys := false, apart := false }
def FnExactDistanceOfSaid : Prop := fnExactDistanceOfRow.holds Try.pinned (OpenSpec.ofChange fnExactDistanceOfSpec)

/-- ITS FALSE NEIGHBOUR: 'it returns false'. Refute it at one input. -/
def fnExactDistanceOfWrong : ChangeSpec := { name := "fnExactDistanceOf", fn := fun _ => fun
  | [d1, d2] => { results := [.lit (.bool false)], args := [d1, d2] }
  | _ => none }
def FnExactDistanceOfWrongFalsely : Prop := fnExactDistanceOfRow.holds Try.pinned (OpenSpec.ofChange fnExactDistanceOfWrong)

/-- 'laws.FnExactNearestCards': WHATEVER THE INPUT: true; the input reads as it did. -/
def fnExactNearestCardsSpec : ChangeSpec := { name := "fnExactNearestCards", fn := fun _ => fun
  | [d1, d2] => { results := [.lit (.bool true)], args := [d1, d2] }
  | _ => none }
def fnExactNearestCardsRow : OpenClaim := { program := "ytaiedpblfnaooac", sum := "7d5e28fcbe23abb2ff46ecfd0a4100b33a5effe2353a0695a6a3f0bf2d558ac3", func := "loop.example/g01261/laws.FnExactNearestCards", spec := "fnExactNearestCards", plainKeys := false, apart := false }
def FnExactNearestCardsSaid : Prop := fnExactNearestCardsRow.holds Try.pinned (OpenSpec.ofChange fnExactNearestCardsSpec)

/-- ITS FALSE NEIGHBOUR: 'it returns false'. Refute it at one input. -/
def fnExactNearestCardsWrong : ChangeSpec := { name := "fnExactNearestCards", fn := fun _ => fun
  | [d1, d2] => { results := [.lit (.bool false)], args := [d1, d2] }
  | _ => none }
def FnExactNearestCardsWrongFalsely : Prop := fnExactNearestCardsRow.holds Try.pinned (OpenSpec.ofChange fnExactNearestCardsWrong)

/-- 'laws.FnExactEditsBetween': WHATEVER THE INPUT: true; the input reads as it did. -/
def fnExactEditsBetweenSpec : ChangeSpec := { name := "fnExactEditsBetween", fn := fun _ => fun
  | [d1, d2] => { results := [.lit (.bool true)], args := [d1, d2] }
  | _ => none }
def fnExactEditsBetweenRow : OpenClaim := { program := "ytaiedpblfnaooac", sum := "7d5e28fcbe23abb2ff46ecfd0a4100b33a5effe2353a0695a6a3f0bf2d558ac3", func := "loop.example/g01261/laws.FnExactEditsBetween", spec := "fnExactEditsBetween", plainKeys := false, apart := false }
def FnExactEditsBetweenSaid : Prop := fnExactEditsBetweenRow.holds Try.pinned (OpenSpec.ofChange fnExactEditsBetweenSpec)

/-- ITS FALSE NEIGHBOUR: 'it returns false'. Refute it at one input. -/
def fnExactEditsBetweenWrong : ChangeSpec := { name := "fnExactEditsBetween", fn := fun _ => fun
  | [d1, d2] => { results := [.lit (.bool false)], args := [d1, d2] }
  | _ => none }
def FnExactEditsBetweenWrongFalsely : Prop := fnExactEditsBetweenRow.holds Try.pinned (OpenSpec.ofChange fnExactEditsBetweenWrong)

/-- 'laws.FnExactUndoEdits': WHATEVER THE INPUT: true; the input reads as it did. -/
def fnExactUndoEditsSpec : ChangeSpec := { name := "fnExactUndoEdits", fn := fun _ => fun
  | [d] => { results := [.lit (.bool true)], args := [d] }
  | _ => none }
def fnExactUndoEditsRow : OpenClaim := { program := "ytaiedpblfnaooac", sum := "7d5e28fcbe23abb2ff46ecfd0a4100b33a5effe2353a0695a6a3f0bf2d558ac3", func := "loop.example/g01261/laws.FnExactUndoEdits", spec := "fnExactUndoEdits", unfollowed := true, recurses := true, plainKeys := false, leaving := true, apart := false }
def FnExactUndoEditsSaid : Prop := fnExactUndoEditsRow.holds Try.pinned (OpenSpec.ofChange fnExactUndoEditsSpec)

/-- ITS FALSE NEIGHBOUR: 'it returns false'. Refute it at one input. -/
def fnExactUndoEditsWrong : ChangeSpec := { name := "fnExactUndoEdits", fn := fun _ => fun
  | [d] => { results := [.lit (.bool false)], args := [d] }
  | _ => none }
def FnExactUndoEditsWrongFalsely : Prop := fnExactUndoEditsRow.holds Try.pinned (OpenSpec.ofChange fnExactUndoEditsWrong)

/- THE SECOND FORM. 'bulk': how many values and letters a reading holds, each counted each time it is reached (what is shared counts as often as it is met; a slice's spare places count too). A statement '..UptoSaid' is the law's where the arguments, and the package variables that the reading takes, are together of bulk at most 1048576: NARROWER than '..Said'. Prove '..Said' where nothing that the law and all that it calls make is longer than what came in: it says more and counts as full. Else prove '..UptoSaid'. A law counts once. -/
mutual
def uptoBulk {H : Type} : DataW H → Nat
  | .lit (.string bytes) => bytes.length + 1
  | .lit _ => 1
  | .nil => 1
  | .ptr d => uptoBulk d + 1
  | .slice elems spare => uptoBulkAll elems + uptoBulkAll spare + 1
  | .agg parts => uptoBulkAll parts + 1
  | .iface _ d => uptoBulk d + 1
  | .map entries => uptoBulkEntries entries + 1
  | .held _ => 1
def uptoBulkAll {H : Type} : List (DataW H) → Nat
  | [] => 0
  | d :: r => uptoBulk d + uptoBulkAll r
def uptoBulkEntries {H : Type} : List (Lit × DataW H) → Nat
  | [] => 0
  | x :: r => uptoBulkEntry x + uptoBulkEntries r
def uptoBulkEntry {H : Type} : Lit × DataW H → Nat
  | (.string bytes, d) => bytes.length + uptoBulk d + 1
  | (_, d) => uptoBulk d + 1
 end
def uptoSmall : (H : Type) → List (DataW H) → Bool := fun _ ds => decide (uptoBulkAll ds ≤ 1048576)
def OpenSpec.upto (s : _root_.Go.ChangeSpec) : _root_.Go.OpenSpec := { _root_.Go.OpenSpec.ofChange s with cond := some uptoSmall }

/-- 'laws.FnExactFirstFault', WHERE WHAT IT READS IS OF BULK AT MOST 1048576: true; the input reads as it did. -/
def fnExactFirstFaultUptoRow : OpenClaim := { program := "ytaiedpblfnaooac", sum := "7d5e28fcbe23abb2ff46ecfd0a4100b33a5effe2353a0695a6a3f0bf2d558ac3", func := "loop.example/g01261/laws.FnExactFirstFault", spec := "fnExactFirstFault", unfollowed := true, recurses := true, plainKeys := false, leaving := true, apart := false, narrowed := true }
def FnExactFirstFaultUptoSaid : Prop := fnExactFirstFaultUptoRow.holds Try.pinned (OpenSpec.upto fnExactFirstFaultSpec)

/-- 'laws.FnExactHashCard', WHERE WHAT IT READS IS OF BULK AT MOST 1048576: true; the input reads as it did. -/
def fnExactHashCardUptoRow : OpenClaim := { program := "ytaiedpblfnaooac", sum := "7d5e28fcbe23abb2ff46ecfd0a4100b33a5effe2353a0695a6a3f0bf2d558ac3", func := "loop.example/g01261/laws.FnExactHashCard", spec := "fnExactHashCard", plainKeys := false, apart := false, narrowed := true }
def FnExactHashCardUptoSaid : Prop := fnExactHashCardUptoRow.holds Try.pinned (OpenSpec.upto fnExactHashCardSpec)

/-- 'laws.FnExactCheckOfDeck', WHERE WHAT IT READS IS OF BULK AT MOST 1048576: true; the input reads as it did. -/
def fnExactCheckOfDeckUptoRow : OpenClaim := { program := "ytaiedpblfnaooac", sum := "7d5e28fcbe23abb2ff46ecfd0a4100b33a5effe2353a0695a6a3f0bf2d558ac3", func := "loop.example/g01261/laws.FnExactCheckOfDeck", spec := "fnExactCheckOfDeck", plainKeys := false, apart := false, narrowed := true }
def FnExactCheckOfDeckUptoSaid : Prop := fnExactCheckOfDeckUptoRow.holds Try.pinned (OpenSpec.upto fnExactCheckOfDeckSpec)

/-- 'laws.FnExactSameCards', WHERE WHAT IT READS IS OF BULK AT MOST 1048576: true; the input reads as it did. -/
def fnExactSameCardsUptoRow : OpenClaim := { program := "ytaiedpblfnaooac", sum := "7d5e28fcbe23abb2ff46ecfd0a4100b33a5effe2353a0695a6a3f0bf2d558ac3", func := "loop.example/g01261/laws.FnExactSameCards", spec := "fnExactSameCards", plainKeys := false, apart := false, narrowed := true }
def FnExactSameCardsUptoSaid : Prop := fnExactSameCardsUptoRow.holds Try.pinned (OpenSpec.upto fnExactSameCardsSpec)

/-- 'laws.FnExactDuplicatesOf', WHERE WHAT IT READS IS OF BULK AT MOST 1048576: true; the input reads as it did. -/
def fnExactDuplicatesOfUptoRow : OpenClaim := { program := "ytaiedpblfnaooac", sum := "7d5e28fcbe23abb2ff46ecfd0a4100b33a5effe2353a0695a6a3f0bf2d558ac3", func := "loop.example/g01261/laws.FnExactDuplicatesOf", spec := "fnExactDuplicatesOf", plainKeys := false, apart := false, narrowed := true }
def FnExactDuplicatesOfUptoSaid : Prop := fnExactDuplicatesOfUptoRow.holds Try.pinned (OpenSpec.upto fnExactDuplicatesOfSpec)

/-- 'laws.FnExactDistanceOf', WHERE WHAT IT READS IS OF BULK AT MOST 1048576: true; the input reads as it did. -/
def fnExactDistanceOfUptoRow : OpenClaim := { program := "ytaiedpblfnaooac", sum := "7d5e28fcbe23abb2ff46ecfd0a4100b33a5effe2353a0695a6a3f0bf2d558ac3", func := "loop.example/g01261/laws.FnExactDistanceOf", spec := "fnExactDistanceOf", plainKeys := false, apart := false, narrowed := true }
def FnExactDistanceOfUptoSaid : Prop := fnExactDistanceOfUptoRow.holds Try.pinned (OpenSpec.upto fnExactDistanceOfSpec)

/-- 'laws.FnExactNearestCards', WHERE WHAT IT READS IS OF BULK AT MOST 1048576: true; the input reads as it did. -/
def fnExactNearestCardsUptoRow : OpenClaim := { program := "ytaiedpblfnaooac", sum := "7d5e28fcbe23abb2ff46ecfd0a4100b33a5effe2353a0695a6a3f0bf2d558ac3", func := "loop.example/g01261/laws.FnExactNearestCards", spec := "fnExactNearestCards", plainKeys := false, apart := false, narrowed := true }
def FnExactNearestCardsUptoSaid : Prop := fnExactNearestCardsUptoRow.holds Try.pinned (OpenSpec.upto fnExactNearestCardsSpec)

/-- 'laws.FnExactEditsBetween', WHERE WHAT IT READS IS OF BULK AT MOST 1048576: true; the input reads as it did. -/
def fnExactEditsBetweenUptoRow : OpenClaim := { program := "ytaiedpblfnaooac", sum := "7d5e28fcbe23abb2ff46ecfd0a4100b33a5effe2353a0695a6a3f0bf2d558ac3", func := "loop.example/g01261/laws.FnExactEditsBetween", spec := "fnExactEditsBetween", plainKeys := false, apart := false, narrowed := true }
def FnExactEditsBetweenUptoSaid : Prop := fnExactEditsBetweenUptoRow.holds Try.pinned (OpenSpec.upto fnExactEditsBetweenSpec)

/-- 'laws.FnExactUndoEdits', WHERE WHAT IT READS IS OF BULK AT MOST 1048576: true; the input reads as it did. -/
def fnExactUndoEditsUptoRow : OpenClaim := { program := "ytaiedpblfnaooac", sum := "7d5e28fcbe23abb2ff46ecfd0a4100b33a5effe2353a0695a6a3f0bf2d558ac3", func := "loop.example/g01261/laws.FnExactUndoEdits", spec := "fnExactUndoEdits", unfollowed := true, recurses := true, plainKeys := false, leaving := true, apart := false, narrowed := true }
def FnExactUndoEditsUptoSaid : Prop := fnExactUndoEditsUptoRow.holds Try.pinned (OpenSpec.upto fnExactUndoEditsSpec)

end Rows
end Go.Proofs.Ytaiedpblfnaooac
