/-
  No cell of these rows narrows 'for every input' (looked for: loops, veiled, ifaces, maps, wideKeys, modest, calm, conditions, laid).
  DERIVED. THE GIVEN ROWS OF THIS SEAT. 6 by the template 'for every input the law returns true; each argument reads behind the call as it read before'; 0 by the template 'total and deterministic' (their statements: YtanocllpmjhblaaTotals.lean).
  GIVEN WITH THE SEED: the statements are not yours to turn. If you find one false, say at which input.
  Laid BY PROGRAM, IN A SANDBOX (cutbox-rows.mjs): the forced cells as the released guide's own fill.sh prints them over the translation 1e207ad80c61d259… (all of the seat's roots in one cut). By AI agents, Wed Nov 11 2026. No macro, syntax, notation, axiom, sorry.
-/
import Derived.Test.YtanocllpmjhblaaChecked
import GoSem.Claim
import GoSem.ClaimJoined
import GoSem.ClaimMapViews
import Derived.JoinedTies
import Derived.KernelRfl
namespace Go.Proofs.Ytanocllpmjhblaa
/- THE CELL 'sum', in the pinned program and in every row, IS THE sha256 OF THE DUMP (.gsa) THAT YtanocllpmjhblaaProg.lean LOADS. Nothing in Lean hashes anything: it is a label: what it is worth is what the hold of that sum in a sandbox is worth. -/
noncomputable def Try.pinned : Pinned := { name := "ytanocllpmjhblaa", sum := "1e207ad80c61d2592a03f73e75cf6b8c3119d75bcb53a79f688a77fa15370654", checked := Try.checked }
namespace Rows
def none {H : Type} : Left H := { results := [], args := [] }

/-- 'laws.FnExactAlikeWords': WHATEVER THE INPUT: true; the input reads as it did. -/
def fnExactAlikeWordsSpec : ChangeSpec := { name := "fnExactAlikeWords", fn := fun _ => fun
  | [d1, d2] => { results := [.lit (.bool true)], args := [d1, d2] }
  | _ => none }
def fnExactAlikeWordsRow : OpenClaim := { program := "ytanocllpmjhblaa", sum := "1e207ad80c61d2592a03f73e75cf6b8c3119d75bcb53a79f688a77fa15370654", func := "loop.example/g01261/laws.FnExactAlikeWords", spec := "fnExactAlikeWords", plainKeys := false, apart := false }
def FnExactAlikeWordsSaid : Prop := fnExactAlikeWordsRow.holds Try.pinned (OpenSpec.ofChange fnExactAlikeWordsSpec)

/-- ITS FALSE NEIGHBOUR: 'it returns false'. Refute it at one input. -/
def fnExactAlikeWordsWrong : ChangeSpec := { name := "fnExactAlikeWords", fn := fun _ => fun
  | [d1, d2] => { results := [.lit (.bool false)], args := [d1, d2] }
  | _ => none }
def FnExactAlikeWordsWrongFalsely : Prop := fnExactAlikeWordsRow.holds Try.pinned (OpenSpec.ofChange fnExactAlikeWordsWrong)

/-- 'laws.FnExactDuplicatesOf': WHATEVER THE INPUT: true; the input reads as it did. -/
def fnExactDuplicatesOfSpec : ChangeSpec := { name := "fnExactDuplicatesOf", fn := fun _ => fun
  | [d] => { results := [.lit (.bool true)], args := [d] }
  | _ => none }
def fnExactDuplicatesOfRow : OpenClaim := { program := "ytanocllpmjhblaa", sum := "1e207ad80c61d2592a03f73e75cf6b8c3119d75bcb53a79f688a77fa15370654", func := "loop.example/g01261/laws.FnExactDuplicatesOf", spec := "fnExactDuplicatesOf", plainKeys := false, apart := false }
def FnExactDuplicatesOfSaid : Prop := fnExactDuplicatesOfRow.holds Try.pinned (OpenSpec.ofChange fnExactDuplicatesOfSpec)

/-- ITS FALSE NEIGHBOUR: 'it returns false'. Refute it at one input. -/
def fnExactDuplicatesOfWrong : ChangeSpec := { name := "fnExactDuplicatesOf", fn := fun _ => fun
  | [d] => { results := [.lit (.bool false)], args := [d] }
  | _ => none }
def FnExactDuplicatesOfWrongFalsely : Prop := fnExactDuplicatesOfRow.holds Try.pinned (OpenSpec.ofChange fnExactDuplicatesOfWrong)

/-- 'laws.FnExactMakeAnswer': WHATEVER THE INPUT: true; the input reads as it did. -/
def fnExactMakeAnswerSpec : ChangeSpec := { name := "fnExactMakeAnswer", fn := fun _ => fun
  | [d1, d2] => { results := [.lit (.bool true)], args := [d1, d2] }
  | _ => none }
def fnExactMakeAnswerRow : OpenClaim := { program := "ytanocllpmjhblaa", sum := "1e207ad80c61d2592a03f73e75cf6b8c3119d75bcb53a79f688a77fa15370654", func := "loop.example/g01261/laws.FnExactMakeAnswer", spec := "fnExactMakeAnswer", plainKeys := false, apart := false }
def FnExactMakeAnswerSaid : Prop := fnExactMakeAnswerRow.holds Try.pinned (OpenSpec.ofChange fnExactMakeAnswerSpec)

/-- ITS FALSE NEIGHBOUR: 'it returns false'. Refute it at one input. -/
def fnExactMakeAnswerWrong : ChangeSpec := { name := "fnExactMakeAnswer", fn := fun _ => fun
  | [d1, d2] => { results := [.lit (.bool false)], args := [d1, d2] }
  | _ => none }
def FnExactMakeAnswerWrongFalsely : Prop := fnExactMakeAnswerRow.holds Try.pinned (OpenSpec.ofChange fnExactMakeAnswerWrong)

/-- 'laws.FnExactEditsBetween': WHATEVER THE INPUT: true; the input reads as it did. -/
def fnExactEditsBetweenSpec : ChangeSpec := { name := "fnExactEditsBetween", fn := fun _ => fun
  | [d1, d2] => { results := [.lit (.bool true)], args := [d1, d2] }
  | _ => none }
def fnExactEditsBetweenRow : OpenClaim := { program := "ytanocllpmjhblaa", sum := "1e207ad80c61d2592a03f73e75cf6b8c3119d75bcb53a79f688a77fa15370654", func := "loop.example/g01261/laws.FnExactEditsBetween", spec := "fnExactEditsBetween", plainKeys := false, apart := false }
def FnExactEditsBetweenSaid : Prop := fnExactEditsBetweenRow.holds Try.pinned (OpenSpec.ofChange fnExactEditsBetweenSpec)

/-- ITS FALSE NEIGHBOUR: 'it returns false'. Refute it at one input. -/
def fnExactEditsBetweenWrong : ChangeSpec := { name := "fnExactEditsBetween", fn := fun _ => fun
  | [d1, d2] => { results := [.lit (.bool false)], args := [d1, d2] }
  | _ => none }
def FnExactEditsBetweenWrongFalsely : Prop := fnExactEditsBetweenRow.holds Try.pinned (OpenSpec.ofChange fnExactEditsBetweenWrong)

/-- 'laws.FnExactUndoEdits': WHATEVER THE INPUT: true; the input reads as it did. -/
def fnExactUndoEditsSpec : ChangeSpec := { name := "fnExactUndoEdits", fn := fun _ => fun
  | [d] => { results := [.lit (.bool true)], args := [d] }
  | _ => none }
def fnExactUndoEditsRow : OpenClaim := { program := "ytanocllpmjhblaa", sum := "1e207ad80c61d2592a03f73e75cf6b8c3119d75bcb53a79f688a77fa15370654", func := "loop.example/g01261/laws.FnExactUndoEdits", spec := "fnExactUndoEdits", unfollowed := true, recurses := true, plainKeys := false, apart := false }
def FnExactUndoEditsSaid : Prop := fnExactUndoEditsRow.holds Try.pinned (OpenSpec.ofChange fnExactUndoEditsSpec)

/-- ITS FALSE NEIGHBOUR: 'it returns false'. Refute it at one input. -/
def fnExactUndoEditsWrong : ChangeSpec := { name := "fnExactUndoEdits", fn := fun _ => fun
  | [d] => { results := [.lit (.bool false)], args := [d] }
  | _ => none }
def FnExactUndoEditsWrongFalsely : Prop := fnExactUndoEditsRow.holds Try.pinned (OpenSpec.ofChange fnExactUndoEditsWrong)

/-- 'laws.FnNear': WHATEVER THE INPUT: true; the input reads as it did. -/
def fnNearSpec : ChangeSpec := { name := "fnNear", fn := fun _ => fun
  | [d1, d2] => { results := [.lit (.bool true)], args := [d1, d2] }
  | _ => none }
def fnNearRow : OpenClaim := { program := "ytanocllpmjhblaa", sum := "1e207ad80c61d2592a03f73e75cf6b8c3119d75bcb53a79f688a77fa15370654", func := "loop.example/g01261/laws.FnNear", spec := "fnNear", plainKeys := false, apart := false }
def FnNearSaid : Prop := fnNearRow.holds Try.pinned (OpenSpec.ofChange fnNearSpec)

/-- ITS FALSE NEIGHBOUR: 'it returns false'. Refute it at one input. -/
def fnNearWrong : ChangeSpec := { name := "fnNear", fn := fun _ => fun
  | [d1, d2] => { results := [.lit (.bool false)], args := [d1, d2] }
  | _ => none }
def FnNearWrongFalsely : Prop := fnNearRow.holds Try.pinned (OpenSpec.ofChange fnNearWrong)

/- THE SECOND FORM. 'bulk': how many values and letters a reading holds, each counted each time it is reached (what is shared counts as often as it is met; a slice's spare places count too). A statement '..UptoSaid' is the law's where the arguments, and the package variables that the reading takes, are together of bulk at most 1048576: NARROWER than '..Said'. Prove '..Said' where nothing that the law and all that it calls make is longer than what came in: it says more and counts as full. Else prove '..UptoSaid'. A law counts once. -/
mutual
def uptoBulk {H : Type} : DataW H → Nat
  | .lit (.string bytes) => bytes.length + 1
  | .lit _ => 1
  | .nil => 1
  | .ptr d => uptoBulk d + 1
  | .slice elems spare => uptoBulkAll elems + uptoBulkAll spare + 1
  | .agg parts => uptoBulkAll parts + 1
  | .iface _ d => uptoBulk d + 1
  | .map entries => uptoBulkEntries entries + 1
  | .held _ => 1
def uptoBulkAll {H : Type} : List (DataW H) → Nat
  | [] => 0
  | d :: r => uptoBulk d + uptoBulkAll r
def uptoBulkEntries {H : Type} : List (Lit × DataW H) → Nat
  | [] => 0
  | x :: r => uptoBulkEntry x + uptoBulkEntries r
def uptoBulkEntry {H : Type} : Lit × DataW H → Nat
  | (.string bytes, d) => bytes.length + uptoBulk d + 1
  | (_, d) => uptoBulk d + 1
 end
def uptoSmall : (H : Type) → List (DataW H) → Bool := fun _ ds => decide (uptoBulkAll ds ≤ 1048576)
def OpenSpec.upto (s : _root_.Go.ChangeSpec) : _root_.Go.OpenSpec := { _root_.Go.OpenSpec.ofChange s with cond := some uptoSmall }

/-- 'laws.FnExactAlikeWords', WHERE WHAT IT READS IS OF BULK AT MOST 1048576: true; the input reads as it did. -/
def fnExactAlikeWordsUptoRow : OpenClaim := { program := "ytanocllpmjhblaa", sum := "1e207ad80c61d2592a03f73e75cf6b8c3119d75bcb53a79f688a77fa15370654", func := "loop.example/g01261/laws.FnExactAlikeWords", spec := "fnExactAlikeWords", plainKeys := false, apart := false, narrowed := true }
def FnExactAlikeWordsUptoSaid : Prop := fnExactAlikeWordsUptoRow.holds Try.pinned (OpenSpec.upto fnExactAlikeWordsSpec)

/-- 'laws.FnExactDuplicatesOf', WHERE WHAT IT READS IS OF BULK AT MOST 1048576: true; the input reads as it did. -/
def fnExactDuplicatesOfUptoRow : OpenClaim := { program := "ytanocllpmjhblaa", sum := "1e207ad80c61d2592a03f73e75cf6b8c3119d75bcb53a79f688a77fa15370654", func := "loop.example/g01261/laws.FnExactDuplicatesOf", spec := "fnExactDuplicatesOf", plainKeys := false, apart := false, narrowed := true }
def FnExactDuplicatesOfUptoSaid : Prop := fnExactDuplicatesOfUptoRow.holds Try.pinned (OpenSpec.upto fnExactDuplicatesOfSpec)

/-- 'laws.FnExactMakeAnswer', WHERE WHAT IT READS IS OF BULK AT MOST 1048576: true; the input reads as it did. -/
def fnExactMakeAnswerUptoRow : OpenClaim := { program := "ytanocllpmjhblaa", sum := "1e207ad80c61d2592a03f73e75cf6b8c3119d75bcb53a79f688a77fa15370654", func := "loop.example/g01261/laws.FnExactMakeAnswer", spec := "fnExactMakeAnswer", plainKeys := false, apart := false, narrowed := true }
def FnExactMakeAnswerUptoSaid : Prop := fnExactMakeAnswerUptoRow.holds Try.pinned (OpenSpec.upto fnExactMakeAnswerSpec)

/-- 'laws.FnExactEditsBetween', WHERE WHAT IT READS IS OF BULK AT MOST 1048576: true; the input reads as it did. -/
def fnExactEditsBetweenUptoRow : OpenClaim := { program := "ytanocllpmjhblaa", sum := "1e207ad80c61d2592a03f73e75cf6b8c3119d75bcb53a79f688a77fa15370654", func := "loop.example/g01261/laws.FnExactEditsBetween", spec := "fnExactEditsBetween", plainKeys := false, apart := false, narrowed := true }
def FnExactEditsBetweenUptoSaid : Prop := fnExactEditsBetweenUptoRow.holds Try.pinned (OpenSpec.upto fnExactEditsBetweenSpec)

/-- 'laws.FnExactUndoEdits', WHERE WHAT IT READS IS OF BULK AT MOST 1048576: true; the input reads as it did. -/
def fnExactUndoEditsUptoRow : OpenClaim := { program := "ytanocllpmjhblaa", sum := "1e207ad80c61d2592a03f73e75cf6b8c3119d75bcb53a79f688a77fa15370654", func := "loop.example/g01261/laws.FnExactUndoEdits", spec := "fnExactUndoEdits", unfollowed := true, recurses := true, plainKeys := false, apart := false, narrowed := true }
def FnExactUndoEditsUptoSaid : Prop := fnExactUndoEditsUptoRow.holds Try.pinned (OpenSpec.upto fnExactUndoEditsSpec)

/-- 'laws.FnNear', WHERE WHAT IT READS IS OF BULK AT MOST 1048576: true; the input reads as it did. -/
def fnNearUptoRow : OpenClaim := { program := "ytanocllpmjhblaa", sum := "1e207ad80c61d2592a03f73e75cf6b8c3119d75bcb53a79f688a77fa15370654", func := "loop.example/g01261/laws.FnNear", spec := "fnNear", plainKeys := false, apart := false, narrowed := true }
def FnNearUptoSaid : Prop := fnNearUptoRow.holds Try.pinned (OpenSpec.upto fnNearSpec)

end Rows
end Go.Proofs.Ytanocllpmjhblaa
