/-
  No cell of these rows narrows 'for every input' (looked for: loops, veiled, ifaces, maps, wideKeys, modest, calm, conditions, laid).
  DERIVED. THE GIVEN ROWS OF THIS SEAT. 11 by the template 'for every input the law returns true; each argument reads behind the call as it read before'; 0 by the template 'total and deterministic' (their statements: YtnooggjijomljaaTotals.lean).
  GIVEN WITH THE SEED: the statements are not yours to turn. If you find one false, say at which input.
  Laid BY PROGRAM, IN A SANDBOX (cutbox-rows.mjs): the forced cells as the released guide's own fill.sh prints them over the translation a7d2f98e526f3f37… (all of the seat's roots in one cut). By AI agents, Wed Nov 11 2026. No macro, syntax, notation, axiom, sorry.
-/
import Derived.Test.YtnooggjijomljaaChecked
import GoSem.Claim
import GoSem.ClaimJoined
import GoSem.ClaimMapViews
import Derived.JoinedTies
import Derived.KernelRfl
namespace Go.Proofs.Ytnooggjijomljaa
/- THE CELL 'sum', in the pinned program and in every row, IS THE sha256 OF THE DUMP (.gsa) THAT YtnooggjijomljaaProg.lean LOADS. Nothing in Lean hashes anything: it is a label: what it is worth is what the hold of that sum in a sandbox is worth. -/
noncomputable def Try.pinned : Pinned := { name := "ytnooggjijomljaa", sum := "a7d2f98e526f3f37a49b7d3a8fbe2726620dbd0e0ef6a26a0758adb16b8616f2", checked := Try.checked }
namespace Rows
def none {H : Type} : Left H := { results := [], args := [] }

/-- 'laws.FnMasks': WHATEVER THE INPUT: true; the input reads as it did. -/
def fnMasksSpec : ChangeSpec := { name := "fnMasks", fn := fun _ => fun
  | [d1, d2] => { results := [.lit (.bool true)], args := [d1, d2] }
  | _ => none }
def fnMasksRow : OpenClaim := { program := "ytnooggjijomljaa", sum := "a7d2f98e526f3f37a49b7d3a8fbe2726620dbd0e0ef6a26a0758adb16b8616f2", func := "loop.example/g01261/laws.FnMasks", spec := "fnMasks", plainKeys := false, apart := false }
def FnMasksSaid : Prop := fnMasksRow.holds Try.pinned (OpenSpec.ofChange fnMasksSpec)

/-- ITS FALSE NEIGHBOUR: 'it returns false'. Refute it at one input. -/
def fnMasksWrong : ChangeSpec := { name := "fnMasks", fn := fun _ => fun
  | [d1, d2] => { results := [.lit (.bool false)], args := [d1, d2] }
  | _ => none }
def FnMasksWrongFalsely : Prop := fnMasksRow.holds Try.pinned (OpenSpec.ofChange fnMasksWrong)

/-- 'laws.FnFields': WHATEVER THE INPUT: true; the input reads as it did. -/
def fnFieldsSpec : ChangeSpec := { name := "fnFields", fn := fun _ => fun
  | [d1, d2] => { results := [.lit (.bool true)], args := [d1, d2] }
  | _ => none }
def fnFieldsRow : OpenClaim := { program := "ytnooggjijomljaa", sum := "a7d2f98e526f3f37a49b7d3a8fbe2726620dbd0e0ef6a26a0758adb16b8616f2", func := "loop.example/g01261/laws.FnFields", spec := "fnFields", unfollowed := true, recurses := true, plainKeys := false, apart := false }
def FnFieldsSaid : Prop := fnFieldsRow.holds Try.pinned (OpenSpec.ofChange fnFieldsSpec)

/-- ITS FALSE NEIGHBOUR: 'it returns false'. Refute it at one input. -/
def fnFieldsWrong : ChangeSpec := { name := "fnFields", fn := fun _ => fun
  | [d1, d2] => { results := [.lit (.bool false)], args := [d1, d2] }
  | _ => none }
def FnFieldsWrongFalsely : Prop := fnFieldsRow.holds Try.pinned (OpenSpec.ofChange fnFieldsWrong)

/-- 'laws.FnExactCodeName': WHATEVER THE INPUT: true; the input reads as it did. -/
def fnExactCodeNameSpec : ChangeSpec := { name := "fnExactCodeName", fn := fun _ => fun
  | [d] => { results := [.lit (.bool true)], args := [d] }
  | _ => none }
def fnExactCodeNameRow : OpenClaim := { program := "ytnooggjijomljaa", sum := "a7d2f98e526f3f37a49b7d3a8fbe2726620dbd0e0ef6a26a0758adb16b8616f2", func := "loop.example/g01261/laws.FnExactCodeName", spec := "fnExactCodeName", plainKeys := false, apart := false }
def FnExactCodeNameSaid : Prop := fnExactCodeNameRow.holds Try.pinned (OpenSpec.ofChange fnExactCodeNameSpec)

/-- ITS FALSE NEIGHBOUR: 'it returns false'. Refute it at one input. -/
def fnExactCodeNameWrong : ChangeSpec := { name := "fnExactCodeName", fn := fun _ => fun
  | [d] => { results := [.lit (.bool false)], args := [d] }
  | _ => none }
def FnExactCodeNameWrongFalsely : Prop := fnExactCodeNameRow.holds Try.pinned (OpenSpec.ofChange fnExactCodeNameWrong)

/-- 'laws.FnExactValidMask': WHATEVER THE INPUT: true; the input reads as it did. -/
def fnExactValidMaskSpec : ChangeSpec := { name := "fnExactValidMask", fn := fun _ => fun
  | [d] => { results := [.lit (.bool true)], args := [d] }
  | _ => none }
def fnExactValidMaskRow : OpenClaim := { program := "ytnooggjijomljaa", sum := "a7d2f98e526f3f37a49b7d3a8fbe2726620dbd0e0ef6a26a0758adb16b8616f2", func := "loop.example/g01261/laws.FnExactValidMask", spec := "fnExactValidMask", plainKeys := false, apart := false }
def FnExactValidMaskSaid : Prop := fnExactValidMaskRow.holds Try.pinned (OpenSpec.ofChange fnExactValidMaskSpec)

/-- ITS FALSE NEIGHBOUR: 'it returns false'. Refute it at one input. -/
def fnExactValidMaskWrong : ChangeSpec := { name := "fnExactValidMask", fn := fun _ => fun
  | [d] => { results := [.lit (.bool false)], args := [d] }
  | _ => none }
def FnExactValidMaskWrongFalsely : Prop := fnExactValidMaskRow.holds Try.pinned (OpenSpec.ofChange fnExactValidMaskWrong)

/-- 'laws.FnExactHasHole': WHATEVER THE INPUT: true; the input reads as it did. -/
def fnExactHasHoleSpec : ChangeSpec := { name := "fnExactHasHole", fn := fun _ => fun
  | [d1, d2] => { results := [.lit (.bool true)], args := [d1, d2] }
  | _ => none }
def fnExactHasHoleRow : OpenClaim := { program := "ytnooggjijomljaa", sum := "a7d2f98e526f3f37a49b7d3a8fbe2726620dbd0e0ef6a26a0758adb16b8616f2", func := "loop.example/g01261/laws.FnExactHasHole", spec := "fnExactHasHole", plainKeys := false, apart := false }
def FnExactHasHoleSaid : Prop := fnExactHasHoleRow.holds Try.pinned (OpenSpec.ofChange fnExactHasHoleSpec)

/-- ITS FALSE NEIGHBOUR: 'it returns false'. Refute it at one input. -/
def fnExactHasHoleWrong : ChangeSpec := { name := "fnExactHasHole", fn := fun _ => fun
  | [d1, d2] => { results := [.lit (.bool false)], args := [d1, d2] }
  | _ => none }
def FnExactHasHoleWrongFalsely : Prop := fnExactHasHoleRow.holds Try.pinned (OpenSpec.ofChange fnExactHasHoleWrong)

/-- 'laws.FnExactWithHole': WHATEVER THE INPUT: true; the input reads as it did. -/
def fnExactWithHoleSpec : ChangeSpec := { name := "fnExactWithHole", fn := fun _ => fun
  | [d1, d2, d3] => { results := [.lit (.bool true)], args := [d1, d2, d3] }
  | _ => none }
def fnExactWithHoleRow : OpenClaim := { program := "ytnooggjijomljaa", sum := "a7d2f98e526f3f37a49b7d3a8fbe2726620dbd0e0ef6a26a0758adb16b8616f2", func := "loop.example/g01261/laws.FnExactWithHole", spec := "fnExactWithHole", plainKeys := false, apart := false }
def FnExactWithHoleSaid : Prop := fnExactWithHoleRow.holds Try.pinned (OpenSpec.ofChange fnExactWithHoleSpec)

/-- ITS FALSE NEIGHBOUR: 'it returns false'. Refute it at one input. -/
def fnExactWithHoleWrong : ChangeSpec := { name := "fnExactWithHole", fn := fun _ => fun
  | [d1, d2, d3] => { results := [.lit (.bool false)], args := [d1, d2, d3] }
  | _ => none }
def FnExactWithHoleWrongFalsely : Prop := fnExactWithHoleRow.holds Try.pinned (OpenSpec.ofChange fnExactWithHoleWrong)

/-- 'laws.FnExactCountHoles': WHATEVER THE INPUT: true; the input reads as it did. -/
def fnExactCountHolesSpec : ChangeSpec := { name := "fnExactCountHoles", fn := fun _ => fun
  | [d] => { results := [.lit (.bool true)], args := [d] }
  | _ => none }
def fnExactCountHolesRow : OpenClaim := { program := "ytnooggjijomljaa", sum := "a7d2f98e526f3f37a49b7d3a8fbe2726620dbd0e0ef6a26a0758adb16b8616f2", func := "loop.example/g01261/laws.FnExactCountHoles", spec := "fnExactCountHoles", plainKeys := false, apart := false }
def FnExactCountHolesSaid : Prop := fnExactCountHolesRow.holds Try.pinned (OpenSpec.ofChange fnExactCountHolesSpec)

/-- ITS FALSE NEIGHBOUR: 'it returns false'. Refute it at one input. -/
def fnExactCountHolesWrong : ChangeSpec := { name := "fnExactCountHoles", fn := fun _ => fun
  | [d] => { results := [.lit (.bool false)], args := [d] }
  | _ => none }
def FnExactCountHolesWrongFalsely : Prop := fnExactCountHolesRow.holds Try.pinned (OpenSpec.ofChange fnExactCountHolesWrong)

/-- 'laws.FnExactHolesIn': WHATEVER THE INPUT: true; the input reads as it did. -/
def fnExactHolesInSpec : ChangeSpec := { name := "fnExactHolesIn", fn := fun _ => fun
  | [d] => { results := [.lit (.bool true)], args := [d] }
  | _ => none }
def fnExactHolesInRow : OpenClaim := { program := "ytnooggjijomljaa", sum := "a7d2f98e526f3f37a49b7d3a8fbe2726620dbd0e0ef6a26a0758adb16b8616f2", func := "loop.example/g01261/laws.FnExactHolesIn", spec := "fnExactHolesIn", plainKeys := false, apart := false }
def FnExactHolesInSaid : Prop := fnExactHolesInRow.holds Try.pinned (OpenSpec.ofChange fnExactHolesInSpec)

/-- ITS FALSE NEIGHBOUR: 'it returns false'. Refute it at one input. -/
def fnExactHolesInWrong : ChangeSpec := { name := "fnExactHolesIn", fn := fun _ => fun
  | [d] => { results := [.lit (.bool false)], args := [d] }
  | _ => none }
def FnExactHolesInWrongFalsely : Prop := fnExactHolesInRow.holds Try.pinned (OpenSpec.ofChange fnExactHolesInWrong)

/-- 'laws.FnExactMaskOf': WHATEVER THE INPUT: true; the input reads as it did. -/
def fnExactMaskOfSpec : ChangeSpec := { name := "fnExactMaskOf", fn := fun _ => fun
  | [d] => { results := [.lit (.bool true)], args := [d] }
  | _ => none }
def fnExactMaskOfRow : OpenClaim := { program := "ytnooggjijomljaa", sum := "a7d2f98e526f3f37a49b7d3a8fbe2726620dbd0e0ef6a26a0758adb16b8616f2", func := "loop.example/g01261/laws.FnExactMaskOf", spec := "fnExactMaskOf", plainKeys := false, apart := false }
def FnExactMaskOfSaid : Prop := fnExactMaskOfRow.holds Try.pinned (OpenSpec.ofChange fnExactMaskOfSpec)

/-- ITS FALSE NEIGHBOUR: 'it returns false'. Refute it at one input. -/
def fnExactMaskOfWrong : ChangeSpec := { name := "fnExactMaskOf", fn := fun _ => fun
  | [d] => { results := [.lit (.bool false)], args := [d] }
  | _ => none }
def FnExactMaskOfWrongFalsely : Prop := fnExactMaskOfRow.holds Try.pinned (OpenSpec.ofChange fnExactMaskOfWrong)

/-- 'laws.FnExactJoinMasks': WHATEVER THE INPUT: true; the input reads as it did. -/
def fnExactJoinMasksSpec : ChangeSpec := { name := "fnExactJoinMasks", fn := fun _ => fun
  | [d1, d2] => { results := [.lit (.bool true)], args := [d1, d2] }
  | _ => none }
def fnExactJoinMasksRow : OpenClaim := { program := "ytnooggjijomljaa", sum := "a7d2f98e526f3f37a49b7d3a8fbe2726620dbd0e0ef6a26a0758adb16b8616f2", func := "loop.example/g01261/laws.FnExactJoinMasks", spec := "fnExactJoinMasks", plainKeys := false, apart := false }
def FnExactJoinMasksSaid : Prop := fnExactJoinMasksRow.holds Try.pinned (OpenSpec.ofChange fnExactJoinMasksSpec)

/-- ITS FALSE NEIGHBOUR: 'it returns false'. Refute it at one input. -/
def fnExactJoinMasksWrong : ChangeSpec := { name := "fnExactJoinMasks", fn := fun _ => fun
  | [d1, d2] => { results := [.lit (.bool false)], args := [d1, d2] }
  | _ => none }
def FnExactJoinMasksWrongFalsely : Prop := fnExactJoinMasksRow.holds Try.pinned (OpenSpec.ofChange fnExactJoinMasksWrong)

/-- 'laws.FnExactMeetMasks': WHATEVER THE INPUT: true; the input reads as it did. -/
def fnExactMeetMasksSpec : ChangeSpec := { name := "fnExactMeetMasks", fn := fun _ => fun
  | [d1, d2] => { results := [.lit (.bool true)], args := [d1, d2] }
  | _ => none }
def fnExactMeetMasksRow : OpenClaim := { program := "ytnooggjijomljaa", sum := "a7d2f98e526f3f37a49b7d3a8fbe2726620dbd0e0ef6a26a0758adb16b8616f2", func := "loop.example/g01261/laws.FnExactMeetMasks", spec := "fnExactMeetMasks", plainKeys := false, apart := false }
def FnExactMeetMasksSaid : Prop := fnExactMeetMasksRow.holds Try.pinned (OpenSpec.ofChange fnExactMeetMasksSpec)

/-- ITS FALSE NEIGHBOUR: 'it returns false'. Refute it at one input. -/
def fnExactMeetMasksWrong : ChangeSpec := { name := "fnExactMeetMasks", fn := fun _ => fun
  | [d1, d2] => { results := [.lit (.bool false)], args := [d1, d2] }
  | _ => none }
def FnExactMeetMasksWrongFalsely : Prop := fnExactMeetMasksRow.holds Try.pinned (OpenSpec.ofChange fnExactMeetMasksWrong)

/- THE SECOND FORM. 'bulk': how many values and letters a reading holds, each counted each time it is reached (what is shared counts as often as it is met; a slice's spare places count too). A statement '..UptoSaid' is the law's where the arguments, and the package variables that the reading takes, are together of bulk at most 1048576: NARROWER than '..Said'. Prove '..Said' where nothing that the law and all that it calls make is longer than what came in: it says more and counts as full. Else prove '..UptoSaid'. A law counts once. -/
mutual
def uptoBulk {H : Type} : DataW H → Nat
  | .lit (.string bytes) => bytes.length + 1
  | .lit _ => 1
  | .nil => 1
  | .ptr d => uptoBulk d + 1
  | .slice elems spare => uptoBulkAll elems + uptoBulkAll spare + 1
  | .agg parts => uptoBulkAll parts + 1
  | .iface _ d => uptoBulk d + 1
  | .map entries => uptoBulkEntries entries + 1
  | .held _ => 1
def uptoBulkAll {H : Type} : List (DataW H) → Nat
  | [] => 0
  | d :: r => uptoBulk d + uptoBulkAll r
def uptoBulkEntries {H : Type} : List (Lit × DataW H) → Nat
  | [] => 0
  | x :: r => uptoBulkEntry x + uptoBulkEntries r
def uptoBulkEntry {H : Type} : Lit × DataW H → Nat
  | (.string bytes, d) => bytes.length + uptoBulk d + 1
  | (_, d) => uptoBulk d + 1
 end
def uptoSmall : (H : Type) → List (DataW H) → Bool := fun _ ds => decide (uptoBulkAll ds ≤ 1048576)
def OpenSpec.upto (s : _root_.Go.ChangeSpec) : _root_.Go.OpenSpec := { _root_.Go.OpenSpec.ofChange s with cond := some uptoSmall }

/-- 'laws.FnMasks', WHERE WHAT IT READS IS OF BULK AT MOST 1048576: true; the input reads as it did. -/
def fnMasksUptoRow : OpenClaim := { program := "ytnooggjijomljaa", sum := "a7d2f98e526f3f37a49b7d3a8fbe2726620dbd0e0ef6a26a0758adb16b8616f2", func := "loop.example/g01261/laws.FnMasks", spec := "fnMasks", plainKeys := false, apart := false, narrowed := true }
def FnMasksUptoSaid : Prop := fnMasksUptoRow.holds Try.pinned (OpenSpec.upto fnMasksSpec)

/-- 'laws.FnFields', WHERE WHAT IT READS IS OF BULK AT MOST 1048576: true; the input reads as it did. -/
def fnFieldsUptoRow : OpenClaim := { program := "ytnooggjijomljaa", sum := "a7d2f98e526f3f37a49b7d3a8fbe2726620dbd0e0ef6a26a0758adb16b8616f2", func := "loop.example/g01261/laws.FnFields", spec := "fnFields", unfollowed := true, recurses := true, plainKeys := false, apart := false, narrowed := true }
def FnFieldsUptoSaid : Prop := fnFieldsUptoRow.holds Try.pinned (OpenSpec.upto fnFieldsSpec)

/-- 'laws.FnExactCodeName', WHERE WHAT IT READS IS OF BULK AT MOST 1048576: true; the input reads as it did. -/
def fnExactCodeNameUptoRow : OpenClaim := { program := "ytnooggjijomljaa", sum := "a7d2f98e526f3f37a49b7d3a8fbe2726620dbd0e0ef6a26a0758adb16b8616f2", func := "loop.example/g01261/laws.FnExactCodeName", spec := "fnExactCodeName", plainKeys := false, apart := false, narrowed := true }
def FnExactCodeNameUptoSaid : Prop := fnExactCodeNameUptoRow.holds Try.pinned (OpenSpec.upto fnExactCodeNameSpec)

/-- 'laws.FnExactValidMask', WHERE WHAT IT READS IS OF BULK AT MOST 1048576: true; the input reads as it did. -/
def fnExactValidMaskUptoRow : OpenClaim := { program := "ytnooggjijomljaa", sum := "a7d2f98e526f3f37a49b7d3a8fbe2726620dbd0e0ef6a26a0758adb16b8616f2", func := "loop.example/g01261/laws.FnExactValidMask", spec := "fnExactValidMask", plainKeys := false, apart := false, narrowed := true }
def FnExactValidMaskUptoSaid : Prop := fnExactValidMaskUptoRow.holds Try.pinned (OpenSpec.upto fnExactValidMaskSpec)

/-- 'laws.FnExactHasHole', WHERE WHAT IT READS IS OF BULK AT MOST 1048576: true; the input reads as it did. -/
def fnExactHasHoleUptoRow : OpenClaim := { program := "ytnooggjijomljaa", sum := "a7d2f98e526f3f37a49b7d3a8fbe2726620dbd0e0ef6a26a0758adb16b8616f2", func := "loop.example/g01261/laws.FnExactHasHole", spec := "fnExactHasHole", plainKeys := false, apart := false, narrowed := true }
def FnExactHasHoleUptoSaid : Prop := fnExactHasHoleUptoRow.holds Try.pinned (OpenSpec.upto fnExactHasHoleSpec)

/-- 'laws.FnExactWithHole', WHERE WHAT IT READS IS OF BULK AT MOST 1048576: true; the input reads as it did. -/
def fnExactWithHoleUptoRow : OpenClaim := { program := "ytnooggjijomljaa", sum := "a7d2f98e526f3f37a49b7d3a8fbe2726620dbd0e0ef6a26a0758adb16b8616f2", func := "loop.example/g01261/laws.FnExactWithHole", spec := "fnExactWithHole", plainKeys := false, apart := false, narrowed := true }
def FnExactWithHoleUptoSaid : Prop := fnExactWithHoleUptoRow.holds Try.pinned (OpenSpec.upto fnExactWithHoleSpec)

/-- 'laws.FnExactCountHoles', WHERE WHAT IT READS IS OF BULK AT MOST 1048576: true; the input reads as it did. -/
def fnExactCountHolesUptoRow : OpenClaim := { program := "ytnooggjijomljaa", sum := "a7d2f98e526f3f37a49b7d3a8fbe2726620dbd0e0ef6a26a0758adb16b8616f2", func := "loop.example/g01261/laws.FnExactCountHoles", spec := "fnExactCountHoles", plainKeys := false, apart := false, narrowed := true }
def FnExactCountHolesUptoSaid : Prop := fnExactCountHolesUptoRow.holds Try.pinned (OpenSpec.upto fnExactCountHolesSpec)

/-- 'laws.FnExactHolesIn', WHERE WHAT IT READS IS OF BULK AT MOST 1048576: true; the input reads as it did. -/
def fnExactHolesInUptoRow : OpenClaim := { program := "ytnooggjijomljaa", sum := "a7d2f98e526f3f37a49b7d3a8fbe2726620dbd0e0ef6a26a0758adb16b8616f2", func := "loop.example/g01261/laws.FnExactHolesIn", spec := "fnExactHolesIn", plainKeys := false, apart := false, narrowed := true }
def FnExactHolesInUptoSaid : Prop := fnExactHolesInUptoRow.holds Try.pinned (OpenSpec.upto fnExactHolesInSpec)

/-- 'laws.FnExactMaskOf', WHERE WHAT IT READS IS OF BULK AT MOST 1048576: true; the input reads as it did. -/
def fnExactMaskOfUptoRow : OpenClaim := { program := "ytnooggjijomljaa", sum := "a7d2f98e526f3f37a49b7d3a8fbe2726620dbd0e0ef6a26a0758adb16b8616f2", func := "loop.example/g01261/laws.FnExactMaskOf", spec := "fnExactMaskOf", plainKeys := false, apart := false, narrowed := true }
def FnExactMaskOfUptoSaid : Prop := fnExactMaskOfUptoRow.holds Try.pinned (OpenSpec.upto fnExactMaskOfSpec)

/-- 'laws.FnExactJoinMasks', WHERE WHAT IT READS IS OF BULK AT MOST 1048576: true; the input reads as it did. -/
def fnExactJoinMasksUptoRow : OpenClaim := { program := "ytnooggjijomljaa", sum := "a7d2f98e526f3f37a49b7d3a8fbe2726620dbd0e0ef6a26a0758adb16b8616f2", func := "loop.example/g01261/laws.FnExactJoinMasks", spec := "fnExactJoinMasks", plainKeys := false, apart := false, narrowed := true }
def FnExactJoinMasksUptoSaid : Prop := fnExactJoinMasksUptoRow.holds Try.pinned (OpenSpec.upto fnExactJoinMasksSpec)

/-- 'laws.FnExactMeetMasks', WHERE WHAT IT READS IS OF BULK AT MOST 1048576: true; the input reads as it did. -/
def fnExactMeetMasksUptoRow : OpenClaim := { program := "ytnooggjijomljaa", sum := "a7d2f98e526f3f37a49b7d3a8fbe2726620dbd0e0ef6a26a0758adb16b8616f2", func := "loop.example/g01261/laws.FnExactMeetMasks", spec := "fnExactMeetMasks", plainKeys := false, apart := false, narrowed := true }
def FnExactMeetMasksUptoSaid : Prop := fnExactMeetMasksUptoRow.holds Try.pinned (OpenSpec.upto fnExactMeetMasksSpec)

end Rows
end Go.Proofs.Ytnooggjijomljaa
