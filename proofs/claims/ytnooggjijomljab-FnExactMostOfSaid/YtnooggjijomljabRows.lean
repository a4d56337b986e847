/-
  No cell of these rows narrows 'for every input' (looked for: loops, veiled, ifaces, maps, wideKeys, modest, calm, conditions, laid).
  DERIVED. THE GIVEN ROWS OF THIS SEAT. 12 by the template 'for every input the law returns true; each argument reads behind the call as it read before'; 0 by the template 'total and deterministic' (their statements: YtnooggjijomljabTotals.lean).
  GIVEN WITH THE SEED: the statements are not yours to turn. If you find one false, say at which input.
  Laid BY PROGRAM, IN A SANDBOX (cutbox-rows.mjs): the forced cells as the released guide's own fill.sh prints them over the translation e7224bd3b4208ab2… (all of the seat's roots in one cut). By AI agents, Wed Nov 11 2026. No macro, syntax, notation, axiom, sorry.
-/
import Derived.Test.YtnooggjijomljabChecked
import GoSem.Claim
import GoSem.ClaimJoined
import GoSem.ClaimMapViews
import Derived.JoinedTies
import Derived.KernelRfl
namespace Go.Proofs.Ytnooggjijomljab
/- THE CELL 'sum', in the pinned program and in every row, IS THE sha256 OF THE DUMP (.gsa) THAT YtnooggjijomljabProg.lean LOADS. Nothing in Lean hashes anything: it is a label: what it is worth is what the hold of that sum in a sandbox is worth. -/
noncomputable def Try.pinned : Pinned := { name := "ytnooggjijomljab", sum := "e7224bd3b4208ab2810dc5bcbaa3c5a4d04bac6b332775b532b01f62fb946639", checked := Try.checked }
namespace Rows
def none {H : Type} : Left H := { results := [], args := [] }

/-- 'laws.FnExactLessMask': WHATEVER THE INPUT: true; the input reads as it did. -/
def fnExactLessMaskSpec : ChangeSpec := { name := "fnExactLessMask", fn := fun _ => fun
  | [d1, d2] => { results := [.lit (.bool true)], args := [d1, d2] }
  | _ => none }
def fnExactLessMaskRow : OpenClaim := { program := "ytnooggjijomljab", sum := "e7224bd3b4208ab2810dc5bcbaa3c5a4d04bac6b332775b532b01f62fb946639", func := "loop.example/g01261/laws.FnExactLessMask", spec := "fnExactLessMask", plainKeys := false, apart := false }
def FnExactLessMaskSaid : Prop := fnExactLessMaskRow.holds Try.pinned (OpenSpec.ofChange fnExactLessMaskSpec)

/-- ITS FALSE NEIGHBOUR: 'it returns false'. Refute it at one input. -/
def fnExactLessMaskWrong : ChangeSpec := { name := "fnExactLessMask", fn := fun _ => fun
  | [d1, d2] => { results := [.lit (.bool false)], args := [d1, d2] }
  | _ => none }
def FnExactLessMaskWrongFalsely : Prop := fnExactLessMaskRow.holds Try.pinned (OpenSpec.ofChange fnExactLessMaskWrong)

/-- 'laws.FnExactIsWithin': WHATEVER THE INPUT: true; the input reads as it did. -/
def fnExactIsWithinSpec : ChangeSpec := { name := "fnExactIsWithin", fn := fun _ => fun
  | [d1, d2] => { results := [.lit (.bool true)], args := [d1, d2] }
  | _ => none }
def fnExactIsWithinRow : OpenClaim := { program := "ytnooggjijomljab", sum := "e7224bd3b4208ab2810dc5bcbaa3c5a4d04bac6b332775b532b01f62fb946639", func := "loop.example/g01261/laws.FnExactIsWithin", spec := "fnExactIsWithin", plainKeys := false, apart := false }
def FnExactIsWithinSaid : Prop := fnExactIsWithinRow.holds Try.pinned (OpenSpec.ofChange fnExactIsWithinSpec)

/-- ITS FALSE NEIGHBOUR: 'it returns false'. Refute it at one input. -/
def fnExactIsWithinWrong : ChangeSpec := { name := "fnExactIsWithin", fn := fun _ => fun
  | [d1, d2] => { results := [.lit (.bool false)], args := [d1, d2] }
  | _ => none }
def FnExactIsWithinWrongFalsely : Prop := fnExactIsWithinRow.holds Try.pinned (OpenSpec.ofChange fnExactIsWithinWrong)

/-- 'laws.FnExactValidCard': WHATEVER THE INPUT: true; the input reads as it did. -/
def fnExactValidCardSpec : ChangeSpec := { name := "fnExactValidCard", fn := fun _ => fun
  | [d] => { results := [.lit (.bool true)], args := [d] }
  | _ => none }
def fnExactValidCardRow : OpenClaim := { program := "ytnooggjijomljab", sum := "e7224bd3b4208ab2810dc5bcbaa3c5a4d04bac6b332775b532b01f62fb946639", func := "loop.example/g01261/laws.FnExactValidCard", spec := "fnExactValidCard", plainKeys := false, apart := false }
def FnExactValidCardSaid : Prop := fnExactValidCardRow.holds Try.pinned (OpenSpec.ofChange fnExactValidCardSpec)

/-- ITS FALSE NEIGHBOUR: 'it returns false'. Refute it at one input. -/
def fnExactValidCardWrong : ChangeSpec := { name := "fnExactValidCard", fn := fun _ => fun
  | [d] => { results := [.lit (.bool false)], args := [d] }
  | _ => none }
def FnExactValidCardWrongFalsely : Prop := fnExactValidCardRow.holds Try.pinned (OpenSpec.ofChange fnExactValidCardWrong)

/-- 'laws.FnExactValidField': WHATEVER THE INPUT: true; the input reads as it did. -/
def fnExactValidFieldSpec : ChangeSpec := { name := "fnExactValidField", fn := fun _ => fun
  | [d] => { results := [.lit (.bool true)], args := [d] }
  | _ => none }
def fnExactValidFieldRow : OpenClaim := { program := "ytnooggjijomljab", sum := "e7224bd3b4208ab2810dc5bcbaa3c5a4d04bac6b332775b532b01f62fb946639", func := "loop.example/g01261/laws.FnExactValidField", spec := "fnExactValidField", unfollowed := true, recurses := true, plainKeys := false, apart := false }
def FnExactValidFieldSaid : Prop := fnExactValidFieldRow.holds Try.pinned (OpenSpec.ofChange fnExactValidFieldSpec)

/-- ITS FALSE NEIGHBOUR: 'it returns false'. Refute it at one input. -/
def fnExactValidFieldWrong : ChangeSpec := { name := "fnExactValidField", fn := fun _ => fun
  | [d] => { results := [.lit (.bool false)], args := [d] }
  | _ => none }
def FnExactValidFieldWrongFalsely : Prop := fnExactValidFieldRow.holds Try.pinned (OpenSpec.ofChange fnExactValidFieldWrong)

/-- 'laws.FnExactHolesOf': WHATEVER THE INPUT: true; the input reads as it did. -/
def fnExactHolesOfSpec : ChangeSpec := { name := "fnExactHolesOf", fn := fun _ => fun
  | [d] => { results := [.lit (.bool true)], args := [d] }
  | _ => none }
def fnExactHolesOfRow : OpenClaim := { program := "ytnooggjijomljab", sum := "e7224bd3b4208ab2810dc5bcbaa3c5a4d04bac6b332775b532b01f62fb946639", func := "loop.example/g01261/laws.FnExactHolesOf", spec := "fnExactHolesOf", unfollowed := true, recurses := true, plainKeys := false, apart := false }
def FnExactHolesOfSaid : Prop := fnExactHolesOfRow.holds Try.pinned (OpenSpec.ofChange fnExactHolesOfSpec)

/-- ITS FALSE NEIGHBOUR: 'it returns false'. Refute it at one input. -/
def fnExactHolesOfWrong : ChangeSpec := { name := "fnExactHolesOf", fn := fun _ => fun
  | [d] => { results := [.lit (.bool false)], args := [d] }
  | _ => none }
def FnExactHolesOfWrongFalsely : Prop := fnExactHolesOfRow.holds Try.pinned (OpenSpec.ofChange fnExactHolesOfWrong)

/-- 'laws.FnExactPartOf': WHATEVER THE INPUT: true; the input reads as it did. -/
def fnExactPartOfSpec : ChangeSpec := { name := "fnExactPartOf", fn := fun _ => fun
  | [d] => { results := [.lit (.bool true)], args := [d] }
  | _ => none }
def fnExactPartOfRow : OpenClaim := { program := "ytnooggjijomljab", sum := "e7224bd3b4208ab2810dc5bcbaa3c5a4d04bac6b332775b532b01f62fb946639", func := "loop.example/g01261/laws.FnExactPartOf", spec := "fnExactPartOf", unfollowed := true, recurses := true, plainKeys := false, apart := false }
def FnExactPartOfSaid : Prop := fnExactPartOfRow.holds Try.pinned (OpenSpec.ofChange fnExactPartOfSpec)

/-- ITS FALSE NEIGHBOUR: 'it returns false'. Refute it at one input. -/
def fnExactPartOfWrong : ChangeSpec := { name := "fnExactPartOf", fn := fun _ => fun
  | [d] => { results := [.lit (.bool false)], args := [d] }
  | _ => none }
def FnExactPartOfWrongFalsely : Prop := fnExactPartOfRow.holds Try.pinned (OpenSpec.ofChange fnExactPartOfWrong)

/-- 'laws.FnExactMostOf': WHATEVER THE INPUT: true; the input reads as it did. -/
def fnExactMostOfSpec : ChangeSpec := { name := "fnExactMostOf", fn := fun _ => fun
  | [d] => { results := [.lit (.bool true)], args := [d] }
  | _ => none }
def fnExactMostOfRow : OpenClaim := { program := "ytnooggjijomljab", sum := "e7224bd3b4208ab2810dc5bcbaa3c5a4d04bac6b332775b532b01f62fb946639", func := "loop.example/g01261/laws.FnExactMostOf", spec := "fnExactMostOf", unfollowed := true, recurses := true, plainKeys := false, apart := false }
def FnExactMostOfSaid : Prop := fnExactMostOfRow.holds Try.pinned (OpenSpec.ofChange fnExactMostOfSpec)

/-- ITS FALSE NEIGHBOUR: 'it returns false'. Refute it at one input. -/
def fnExactMostOfWrong : ChangeSpec := { name := "fnExactMostOf", fn := fun _ => fun
  | [d] => { results := [.lit (.bool false)], args := [d] }
  | _ => none }
def FnExactMostOfWrongFalsely : Prop := fnExactMostOfRow.holds Try.pinned (OpenSpec.ofChange fnExactMostOfWrong)

/-- 'laws.FnExactEncodeField': WHATEVER THE INPUT: true; the input reads as it did. -/
def fnExactEncodeFieldSpec : ChangeSpec := { name := "fnExactEncodeField", fn := fun _ => fun
  | [d1, d2] => { results := [.lit (.bool true)], args := [d1, d2] }
  | _ => none }
def fnExactEncodeFieldRow : OpenClaim := { program := "ytnooggjijomljab", sum := "e7224bd3b4208ab2810dc5bcbaa3c5a4d04bac6b332775b532b01f62fb946639", func := "loop.example/g01261/laws.FnExactEncodeField", spec := "fnExactEncodeField", unfollowed := true, recurses := true, plainKeys := false, apart := false }
def FnExactEncodeFieldSaid : Prop := fnExactEncodeFieldRow.holds Try.pinned (OpenSpec.ofChange fnExactEncodeFieldSpec)

/-- ITS FALSE NEIGHBOUR: 'it returns false'. Refute it at one input. -/
def fnExactEncodeFieldWrong : ChangeSpec := { name := "fnExactEncodeField", fn := fun _ => fun
  | [d1, d2] => { results := [.lit (.bool false)], args := [d1, d2] }
  | _ => none }
def FnExactEncodeFieldWrongFalsely : Prop := fnExactEncodeFieldRow.holds Try.pinned (OpenSpec.ofChange fnExactEncodeFieldWrong)

/-- 'laws.FnExactDecodeField': WHATEVER THE INPUT: true; the input reads as it did. -/
def fnExactDecodeFieldSpec : ChangeSpec := { name := "fnExactDecodeField", fn := fun _ => fun
  | [d1, d2] => { results := [.lit (.bool true)], args := [d1, d2] }
  | _ => none }
def fnExactDecodeFieldRow : OpenClaim := { program := "ytnooggjijomljab", sum := "e7224bd3b4208ab2810dc5bcbaa3c5a4d04bac6b332775b532b01f62fb946639", func := "loop.example/g01261/laws.FnExactDecodeField", spec := "fnExactDecodeField", unfollowed := true, recurses := true, plainKeys := false, apart := false }
def FnExactDecodeFieldSaid : Prop := fnExactDecodeFieldRow.holds Try.pinned (OpenSpec.ofChange fnExactDecodeFieldSpec)

/-- ITS FALSE NEIGHBOUR: 'it returns false'. Refute it at one input. -/
def fnExactDecodeFieldWrong : ChangeSpec := { name := "fnExactDecodeField", fn := fun _ => fun
  | [d1, d2] => { results := [.lit (.bool false)], args := [d1, d2] }
  | _ => none }
def FnExactDecodeFieldWrongFalsely : Prop := fnExactDecodeFieldRow.holds Try.pinned (OpenSpec.ofChange fnExactDecodeFieldWrong)

/-- 'laws.FnExactPutField': WHATEVER THE INPUT: true; the input reads as it did. -/
def fnExactPutFieldSpec : ChangeSpec := { name := "fnExactPutField", fn := fun _ => fun
  | [d1, d2, d3] => { results := [.lit (.bool true)], args := [d1, d2, d3] }
  | _ => none }
def fnExactPutFieldRow : OpenClaim := { program := "ytnooggjijomljab", sum := "e7224bd3b4208ab2810dc5bcbaa3c5a4d04bac6b332775b532b01f62fb946639", func := "loop.example/g01261/laws.FnExactPutField", spec := "fnExactPutField", unfollowed := true, recurses := true, plainKeys := false, apart := false }
def FnExactPutFieldSaid : Prop := fnExactPutFieldRow.holds Try.pinned (OpenSpec.ofChange fnExactPutFieldSpec)

/-- ITS FALSE NEIGHBOUR: 'it returns false'. Refute it at one input. -/
def fnExactPutFieldWrong : ChangeSpec := { name := "fnExactPutField", fn := fun _ => fun
  | [d1, d2, d3] => { results := [.lit (.bool false)], args := [d1, d2, d3] }
  | _ => none }
def FnExactPutFieldWrongFalsely : Prop := fnExactPutFieldRow.holds Try.pinned (OpenSpec.ofChange fnExactPutFieldWrong)

/-- 'laws.FnExactClearField': WHATEVER THE INPUT: true; the input reads as it did. -/
def fnExactClearFieldSpec : ChangeSpec := { name := "fnExactClearField", fn := fun _ => fun
  | [d1, d2] => { results := [.lit (.bool true)], args := [d1, d2] }
  | _ => none }
def fnExactClearFieldRow : OpenClaim := { program := "ytnooggjijomljab", sum := "e7224bd3b4208ab2810dc5bcbaa3c5a4d04bac6b332775b532b01f62fb946639", func := "loop.example/g01261/laws.FnExactClearField", spec := "fnExactClearField", unfollowed := true, recurses := true, plainKeys := false, apart := false }
def FnExactClearFieldSaid : Prop := fnExactClearFieldRow.holds Try.pinned (OpenSpec.ofChange fnExactClearFieldSpec)

/-- ITS FALSE NEIGHBOUR: 'it returns false'. Refute it at one input. -/
def fnExactClearFieldWrong : ChangeSpec := { name := "fnExactClearField", fn := fun _ => fun
  | [d1, d2] => { results := [.lit (.bool false)], args := [d1, d2] }
  | _ => none }
def FnExactClearFieldWrongFalsely : Prop := fnExactClearFieldRow.holds Try.pinned (OpenSpec.ofChange fnExactClearFieldWrong)

/-- 'laws.FnExactValidScheme': WHATEVER THE INPUT: true; the input reads as it did. -/
def fnExactValidSchemeSpec : ChangeSpec := { name := "fnExactValidScheme", fn := fun _ => fun
  | [d] => { results := [.lit (.bool true)], args := [d] }
  | _ => none }
def fnExactValidSchemeRow : OpenClaim := { program := "ytnooggjijomljab", sum := "e7224bd3b4208ab2810dc5bcbaa3c5a4d04bac6b332775b532b01f62fb946639", func := "loop.example/g01261/laws.FnExactValidScheme", spec := "fnExactValidScheme", unfollowed := true, recurses := true, plainKeys := false, apart := false }
def FnExactValidSchemeSaid : Prop := fnExactValidSchemeRow.holds Try.pinned (OpenSpec.ofChange fnExactValidSchemeSpec)

/-- ITS FALSE NEIGHBOUR: 'it returns false'. Refute it at one input. -/
def fnExactValidSchemeWrong : ChangeSpec := { name := "fnExactValidScheme", fn := fun _ => fun
  | [d] => { results := [.lit (.bool false)], args := [d] }
  | _ => none }
def FnExactValidSchemeWrongFalsely : Prop := fnExactValidSchemeRow.holds Try.pinned (OpenSpec.ofChange fnExactValidSchemeWrong)

/- THE SECOND FORM. 'bulk': how many values and letters a reading holds, each counted each time it is reached (what is shared counts as often as it is met; a slice's spare places count too). A statement '..UptoSaid' is the law's where the arguments, and the package variables that the reading takes, are together of bulk at most 1048576: NARROWER than '..Said'. Prove '..Said' where nothing that the law and all that it calls make is longer than what came in: it says more and counts as full. Else prove '..UptoSaid'. A law counts once. -/
mutual
def uptoBulk {H : Type} : DataW H → Nat
  | .lit (.string bytes) => bytes.length + 1
  | .lit _ => 1
  | .nil => 1
  | .ptr d => uptoBulk d + 1
  | .slice elems spare => uptoBulkAll elems + uptoBulkAll spare + 1
  | .agg parts => uptoBulkAll parts + 1
  | .iface _ d => uptoBulk d + 1
  | .map entries => uptoBulkEntries entries + 1
  | .held _ => 1
def uptoBulkAll {H : Type} : List (DataW H) → Nat
  | [] => 0
  | d :: r => uptoBulk d + uptoBulkAll r
def uptoBulkEntries {H : Type} : List (Lit × DataW H) → Nat
  | [] => 0
  | x :: r => uptoBulkEntry x + uptoBulkEntries r
def uptoBulkEntry {H : Type} : Lit × DataW H → Nat
  | (.string bytes, d) => bytes.length + uptoBulk d + 1
  | (_, d) => uptoBulk d + 1
 end
def uptoSmall : (H : Type) → List (DataW H) → Bool := fun _ ds => decide (uptoBulkAll ds ≤ 1048576)
def OpenSpec.upto (s : _root_.Go.ChangeSpec) : _root_.Go.OpenSpec := { _root_.Go.OpenSpec.ofChange s with cond := some uptoSmall }

/-- 'laws.FnExactLessMask', WHERE WHAT IT READS IS OF BULK AT MOST 1048576: true; the input reads as it did. -/
def fnExactLessMaskUptoRow : OpenClaim := { program := "ytnooggjijomljab", sum := "e7224bd3b4208ab2810dc5bcbaa3c5a4d04bac6b332775b532b01f62fb946639", func := "loop.example/g01261/laws.FnExactLessMask", spec := "fnExactLessMask", plainKeys := false, apart := false, narrowed := true }
def FnExactLessMaskUptoSaid : Prop := fnExactLessMaskUptoRow.holds Try.pinned (OpenSpec.upto fnExactLessMaskSpec)

/-- 'laws.FnExactIsWithin', WHERE WHAT IT READS IS OF BULK AT MOST 1048576: true; the input reads as it did. -/
def fnExactIsWithinUptoRow : OpenClaim := { program := "ytnooggjijomljab", sum := "e7224bd3b4208ab2810dc5bcbaa3c5a4d04bac6b332775b532b01f62fb946639", func := "loop.example/g01261/laws.FnExactIsWithin", spec := "fnExactIsWithin", plainKeys := false, apart := false, narrowed := true }
def FnExactIsWithinUptoSaid : Prop := fnExactIsWithinUptoRow.holds Try.pinned (OpenSpec.upto fnExactIsWithinSpec)

/-- 'laws.FnExactValidCard', WHERE WHAT IT READS IS OF BULK AT MOST 1048576: true; the input reads as it did. -/
def fnExactValidCardUptoRow : OpenClaim := { program := "ytnooggjijomljab", sum := "e7224bd3b4208ab2810dc5bcbaa3c5a4d04bac6b332775b532b01f62fb946639", func := "loop.example/g01261/laws.FnExactValidCard", spec := "fnExactValidCard", plainKeys := false, apart := false, narrowed := true }
def FnExactValidCardUptoSaid : Prop := fnExactValidCardUptoRow.holds Try.pinned (OpenSpec.upto fnExactValidCardSpec)

/-- 'laws.FnExactValidField', WHERE WHAT IT READS IS OF BULK AT MOST 1048576: true; the input reads as it did. -/
def fnExactValidFieldUptoRow : OpenClaim := { program := "ytnooggjijomljab", sum := "e7224bd3b4208ab2810dc5bcbaa3c5a4d04bac6b332775b532b01f62fb946639", func := "loop.example/g01261/laws.FnExactValidField", spec := "fnExactValidField", unfollowed := true, recurses := true, plainKeys := false, apart := false, narrowed := true }
def FnExactValidFieldUptoSaid : Prop := fnExactValidFieldUptoRow.holds Try.pinned (OpenSpec.upto fnExactValidFieldSpec)

/-- 'laws.FnExactHolesOf', WHERE WHAT IT READS IS OF BULK AT MOST 1048576: true; the input reads as it did. -/
def fnExactHolesOfUptoRow : OpenClaim := { program := "ytnooggjijomljab", sum := "e7224bd3b4208ab2810dc5bcbaa3c5a4d04bac6b332775b532b01f62fb946639", func := "loop.example/g01261/laws.FnExactHolesOf", spec := "fnExactHolesOf", unfollowed := true, recurses := true, plainKeys := false, apart := false, narrowed := true }
def FnExactHolesOfUptoSaid : Prop := fnExactHolesOfUptoRow.holds Try.pinned (OpenSpec.upto fnExactHolesOfSpec)

/-- 'laws.FnExactPartOf', WHERE WHAT IT READS IS OF BULK AT MOST 1048576: true; the input reads as it did. -/
def fnExactPartOfUptoRow : OpenClaim := { program := "ytnooggjijomljab", sum := "e7224bd3b4208ab2810dc5bcbaa3c5a4d04bac6b332775b532b01f62fb946639", func := "loop.example/g01261/laws.FnExactPartOf", spec := "fnExactPartOf", unfollowed := true, recurses := true, plainKeys := false, apart := false, narrowed := true }
def FnExactPartOfUptoSaid : Prop := fnExactPartOfUptoRow.holds Try.pinned (OpenSpec.upto fnExactPartOfSpec)

/-- 'laws.FnExactMostOf', WHERE WHAT IT READS IS OF BULK AT MOST 1048576: true; the input reads as it did. -/
def fnExactMostOfUptoRow : OpenClaim := { program := "ytnooggjijomljab", sum := "e7224bd3b4208ab2810dc5bcbaa3c5a4d04bac6b332775b532b01f62fb946639", func := "loop.example/g01261/laws.FnExactMostOf", spec := "fnExactMostOf", unfollowed := true, recurses := true, plainKeys := false, apart := false, narrowed := true }
def FnExactMostOfUptoSaid : Prop := fnExactMostOfUptoRow.holds Try.pinned (OpenSpec.upto fnExactMostOfSpec)

/-- 'laws.FnExactEncodeField', WHERE WHAT IT READS IS OF BULK AT MOST 1048576: true; the input reads as it did. -/
def fnExactEncodeFieldUptoRow : OpenClaim := { program := "ytnooggjijomljab", sum := "e7224bd3b4208ab2810dc5bcbaa3c5a4d04bac6b332775b532b01f62fb946639", func := "loop.example/g01261/laws.FnExactEncodeField", spec := "fnExactEncodeField", unfollowed := true, recurses := true, plainKeys := false, apart := false, narrowed := true }
def FnExactEncodeFieldUptoSaid : Prop := fnExactEncodeFieldUptoRow.holds Try.pinned (OpenSpec.upto fnExactEncodeFieldSpec)

/-- 'laws.FnExactDecodeField', WHERE WHAT IT READS IS OF BULK AT MOST 1048576: true; the input reads as it did. -/
def fnExactDecodeFieldUptoRow : OpenClaim := { program := "ytnooggjijomljab", sum := "e7224bd3b4208ab2810dc5bcbaa3c5a4d04bac6b332775b532b01f62fb946639", func := "loop.example/g01261/laws.FnExactDecodeField", spec := "fnExactDecodeField", unfollowed := true, recurses := true, plainKeys := false, apart := false, narrowed := true }
def FnExactDecodeFieldUptoSaid : Prop := fnExactDecodeFieldUptoRow.holds Try.pinned (OpenSpec.upto fnExactDecodeFieldSpec)

/-- 'laws.FnExactPutField', WHERE WHAT IT READS IS OF BULK AT MOST 1048576: true; the input reads as it did. -/
def fnExactPutFieldUptoRow : OpenClaim := { program := "ytnooggjijomljab", sum := "e7224bd3b4208ab2810dc5bcbaa3c5a4d04bac6b332775b532b01f62fb946639", func := "loop.example/g01261/laws.FnExactPutField", spec := "fnExactPutField", unfollowed := true, recurses := true, plainKeys := false, apart := false, narrowed := true }
def FnExactPutFieldUptoSaid : Prop := fnExactPutFieldUptoRow.holds Try.pinned (OpenSpec.upto fnExactPutFieldSpec)

/-- 'laws.FnExactClearField', WHERE WHAT IT READS IS OF BULK AT MOST 1048576: true; the input reads as it did. -/
def fnExactClearFieldUptoRow : OpenClaim := { program := "ytnooggjijomljab", sum := "e7224bd3b4208ab2810dc5bcbaa3c5a4d04bac6b332775b532b01f62fb946639", func := "loop.example/g01261/laws.FnExactClearField", spec := "fnExactClearField", unfollowed := true, recurses := true, plainKeys := false, apart := false, narrowed := true }
def FnExactClearFieldUptoSaid : Prop := fnExactClearFieldUptoRow.holds Try.pinned (OpenSpec.upto fnExactClearFieldSpec)

/-- 'laws.FnExactValidScheme', WHERE WHAT IT READS IS OF BULK AT MOST 1048576: true; the input reads as it did. -/
def fnExactValidSchemeUptoRow : OpenClaim := { program := "ytnooggjijomljab", sum := "e7224bd3b4208ab2810dc5bcbaa3c5a4d04bac6b332775b532b01f62fb946639", func := "loop.example/g01261/laws.FnExactValidScheme", spec := "fnExactValidScheme", unfollowed := true, recurses := true, plainKeys := false, apart := false, narrowed := true }
def FnExactValidSchemeUptoSaid : Prop := fnExactValidSchemeUptoRow.holds Try.pinned (OpenSpec.upto fnExactValidSchemeSpec)

end Rows
end Go.Proofs.Ytnooggjijomljab
