/-
  No cell of these rows narrows 'for every input' (looked for: loops, veiled, ifaces, maps, wideKeys, modest, calm, conditions, laid).
  DERIVED. THE GIVEN ROWS OF THIS SEAT. 10 by the template 'for every input the law returns true; each argument reads behind the call as it read before'; 0 by the template 'total and deterministic' (their statements: YtoippchkhknhpaaTotals.lean).
  GIVEN WITH THE SEED: the statements are not yours to turn. If you find one false, say at which input.
  Laid BY PROGRAM, IN A SANDBOX (cutbox-rows.mjs): the forced cells as the released guide's own fill.sh prints them over the translation 77639db75e3a59c2… (all of the seat's roots in one cut). By AI agents, Wed Nov 11 2026. No macro, syntax, notation, axiom, sorry.
-/
import Derived.Test.YtoippchkhknhpaaChecked
import GoSem.Claim
import GoSem.ClaimJoined
import GoSem.ClaimMapViews
import Derived.JoinedTies
import Derived.KernelRfl
namespace Go.Proofs.Ytoippchkhknhpaa
/- THE CELL 'sum', in the pinned program and in every row, IS THE sha256 OF THE DUMP (.gsa) THAT YtoippchkhknhpaaProg.lean LOADS. Nothing in Lean hashes anything: it is a label: what it is worth is what the hold of that sum in a sandbox is worth. -/
noncomputable def Try.pinned : Pinned := { name := "ytoippchkhknhpaa", sum := "77639db75e3a59c21127a195bbce70b6ef8e3cd5f6e02ad340cf501f92221f14", checked := Try.checked }
namespace Rows
def none {H : Type} : Left H := { results := [], args := [] }

/-- 'laws.FnExactMixLot': WHATEVER THE INPUT: true; the input reads as it did. -/
def fnExactMixLotSpec : ChangeSpec := { name := "fnExactMixLot", fn := fun _ => fun
  | [d1, d2] => { results := [.lit (.bool true)], args := [d1, d2] }
  | _ => none }
def fnExactMixLotRow : OpenClaim := { program := "ytoippchkhknhpaa", sum := "77639db75e3a59c21127a195bbce70b6ef8e3cd5f6e02ad340cf501f92221f14", func := "loop.example/g01261/laws.FnExactMixLot", spec := "fnExactMixLot", plainKeys := false, apart := false }
def FnExactMixLotSaid : Prop := fnExactMixLotRow.holds Try.pinned (OpenSpec.ofChange fnExactMixLotSpec)

/-- ITS FALSE NEIGHBOUR: 'it returns false'. Refute it at one input. -/
def fnExactMixLotWrong : ChangeSpec := { name := "fnExactMixLot", fn := fun _ => fun
  | [d1, d2] => { results := [.lit (.bool false)], args := [d1, d2] }
  | _ => none }
def FnExactMixLotWrongFalsely : Prop := fnExactMixLotRow.holds Try.pinned (OpenSpec.ofChange fnExactMixLotWrong)

/-- 'laws.FnExactTrueOf': WHATEVER THE INPUT: true; the input reads as it did. -/
def fnExactTrueOfSpec : ChangeSpec := { name := "fnExactTrueOf", fn := fun _ => fun
  | [d1, d2] => { results := [.lit (.bool true)], args := [d1, d2] }
  | _ => none }
def fnExactTrueOfRow : OpenClaim := { program := "ytoippchkhknhpaa", sum := "77639db75e3a59c21127a195bbce70b6ef8e3cd5f6e02ad340cf501f92221f14", func := "loop.example/g01261/laws.FnExactTrueOf", spec := "fnExactTrueOf", plainKeys := false, apart := false }
def FnExactTrueOfSaid : Prop := fnExactTrueOfRow.holds Try.pinned (OpenSpec.ofChange fnExactTrueOfSpec)

/-- ITS FALSE NEIGHBOUR: 'it returns false'. Refute it at one input. -/
def fnExactTrueOfWrong : ChangeSpec := { name := "fnExactTrueOf", fn := fun _ => fun
  | [d1, d2] => { results := [.lit (.bool false)], args := [d1, d2] }
  | _ => none }
def FnExactTrueOfWrongFalsely : Prop := fnExactTrueOfRow.holds Try.pinned (OpenSpec.ofChange fnExactTrueOfWrong)

/-- 'laws.FnExactDrops': WHATEVER THE INPUT: true; the input reads as it did. -/
def fnExactDropsSpec : ChangeSpec := { name := "fnExactDrops", fn := fun _ => fun
  | [d1, d2, d3] => { results := [.lit (.bool true)], args := [d1, d2, d3] }
  | _ => none }
def fnExactDropsRow : OpenClaim := { program := "ytoippchkhknhpaa", sum := "77639db75e3a59c21127a195bbce70b6ef8e3cd5f6e02ad340cf501f92221f14", func := "loop.example/g01261/laws.FnExactDrops", spec := "fnExactDrops", unfollowed := true, recurses := true, plainKeys := false, apart := false }
def FnExactDropsSaid : Prop := fnExactDropsRow.holds Try.pinned (OpenSpec.ofChange fnExactDropsSpec)

/-- ITS FALSE NEIGHBOUR: 'it returns false'. Refute it at one input. -/
def fnExactDropsWrong : ChangeSpec := { name := "fnExactDrops", fn := fun _ => fun
  | [d1, d2, d3] => { results := [.lit (.bool false)], args := [d1, d2, d3] }
  | _ => none }
def FnExactDropsWrongFalsely : Prop := fnExactDropsRow.holds Try.pinned (OpenSpec.ofChange fnExactDropsWrong)

/-- 'laws.FnExactDroppedOf': WHATEVER THE INPUT: true; the input reads as it did. -/
def fnExactDroppedOfSpec : ChangeSpec := { name := "fnExactDroppedOf", fn := fun _ => fun
  | [d1, d2, d3] => { results := [.lit (.bool true)], args := [d1, d2, d3] }
  | _ => none }
def fnExactDroppedOfRow : OpenClaim := { program := "ytoippchkhknhpaa", sum := "77639db75e3a59c21127a195bbce70b6ef8e3cd5f6e02ad340cf501f92221f14", func := "loop.example/g01261/laws.FnExactDroppedOf", spec := "fnExactDroppedOf", unfollowed := true, recurses := true, plainKeys := false, apart := false }
def FnExactDroppedOfSaid : Prop := fnExactDroppedOfRow.holds Try.pinned (OpenSpec.ofChange fnExactDroppedOfSpec)

/-- ITS FALSE NEIGHBOUR: 'it returns false'. Refute it at one input. -/
def fnExactDroppedOfWrong : ChangeSpec := { name := "fnExactDroppedOf", fn := fun _ => fun
  | [d1, d2, d3] => { results := [.lit (.bool false)], args := [d1, d2, d3] }
  | _ => none }
def FnExactDroppedOfWrongFalsely : Prop := fnExactDroppedOfRow.holds Try.pinned (OpenSpec.ofChange fnExactDroppedOfWrong)

/-- 'laws.FnExactFalseOf': WHATEVER THE INPUT: true; the input reads as it did. -/
def fnExactFalseOfSpec : ChangeSpec := { name := "fnExactFalseOf", fn := fun _ => fun
  | [d1, d2, d3] => { results := [.lit (.bool true)], args := [d1, d2, d3] }
  | _ => none }
def fnExactFalseOfRow : OpenClaim := { program := "ytoippchkhknhpaa", sum := "77639db75e3a59c21127a195bbce70b6ef8e3cd5f6e02ad340cf501f92221f14", func := "loop.example/g01261/laws.FnExactFalseOf", spec := "fnExactFalseOf", unfollowed := true, recurses := true, plainKeys := false, apart := false }
def FnExactFalseOfSaid : Prop := fnExactFalseOfRow.holds Try.pinned (OpenSpec.ofChange fnExactFalseOfSpec)

/-- ITS FALSE NEIGHBOUR: 'it returns false'. Refute it at one input. -/
def fnExactFalseOfWrong : ChangeSpec := { name := "fnExactFalseOf", fn := fun _ => fun
  | [d1, d2, d3] => { results := [.lit (.bool false)], args := [d1, d2, d3] }
  | _ => none }
def FnExactFalseOfWrongFalsely : Prop := fnExactFalseOfRow.holds Try.pinned (OpenSpec.ofChange fnExactFalseOfWrong)

/-- 'laws.FnExactCountFalse': WHATEVER THE INPUT: true; the input reads as it did. -/
def fnExactCountFalseSpec : ChangeSpec := { name := "fnExactCountFalse", fn := fun _ => fun
  | [d1, d2] => { results := [.lit (.bool true)], args := [d1, d2] }
  | _ => none }
def fnExactCountFalseRow : OpenClaim := { program := "ytoippchkhknhpaa", sum := "77639db75e3a59c21127a195bbce70b6ef8e3cd5f6e02ad340cf501f92221f14", func := "loop.example/g01261/laws.FnExactCountFalse", spec := "fnExactCountFalse", unfollowed := true, recurses := true, plainKeys := false, apart := false }
def FnExactCountFalseSaid : Prop := fnExactCountFalseRow.holds Try.pinned (OpenSpec.ofChange fnExactCountFalseSpec)

/-- ITS FALSE NEIGHBOUR: 'it returns false'. Refute it at one input. -/
def fnExactCountFalseWrong : ChangeSpec := { name := "fnExactCountFalse", fn := fun _ => fun
  | [d1, d2] => { results := [.lit (.bool false)], args := [d1, d2] }
  | _ => none }
def FnExactCountFalseWrongFalsely : Prop := fnExactCountFalseRow.holds Try.pinned (OpenSpec.ofChange fnExactCountFalseWrong)

/-- 'laws.FnExactBestPer': WHATEVER THE INPUT: true; the input reads as it did. -/
def fnExactBestPerSpec : ChangeSpec := { name := "fnExactBestPer", fn := fun _ => fun
  | [d1, d2] => { results := [.lit (.bool true)], args := [d1, d2] }
  | _ => none }
def fnExactBestPerRow : OpenClaim := { program := "ytoippchkhknhpaa", sum := "77639db75e3a59c21127a195bbce70b6ef8e3cd5f6e02ad340cf501f92221f14", func := "loop.example/g01261/laws.FnExactBestPer", spec := "fnExactBestPer", unfollowed := true, recurses := true, plainKeys := false, apart := false }
def FnExactBestPerSaid : Prop := fnExactBestPerRow.holds Try.pinned (OpenSpec.ofChange fnExactBestPerSpec)

/-- ITS FALSE NEIGHBOUR: 'it returns false'. Refute it at one input. -/
def fnExactBestPerWrong : ChangeSpec := { name := "fnExactBestPer", fn := fun _ => fun
  | [d1, d2] => { results := [.lit (.bool false)], args := [d1, d2] }
  | _ => none }
def FnExactBestPerWrongFalsely : Prop := fnExactBestPerRow.holds Try.pinned (OpenSpec.ofChange fnExactBestPerWrong)

/-- 'laws.FnExactSureWords': WHATEVER THE INPUT: true; the input reads as it did. -/
def fnExactSureWordsSpec : ChangeSpec := { name := "fnExactSureWords", fn := fun _ => fun
  | [d1, d2, d3] => { results := [.lit (.bool true)], args := [d1, d2, d3] }
  | _ => none }
def fnExactSureWordsRow : OpenClaim := { program := "ytoippchkhknhpaa", sum := "77639db75e3a59c21127a195bbce70b6ef8e3cd5f6e02ad340cf501f92221f14", func := "loop.example/g01261/laws.FnExactSureWords", spec := "fnExactSureWords", plainKeys := false, apart := false }
def FnExactSureWordsSaid : Prop := fnExactSureWordsRow.holds Try.pinned (OpenSpec.ofChange fnExactSureWordsSpec)

/-- ITS FALSE NEIGHBOUR: 'it returns false'. Refute it at one input. -/
def fnExactSureWordsWrong : ChangeSpec := { name := "fnExactSureWords", fn := fun _ => fun
  | [d1, d2, d3] => { results := [.lit (.bool false)], args := [d1, d2, d3] }
  | _ => none }
def FnExactSureWordsWrongFalsely : Prop := fnExactSureWordsRow.holds Try.pinned (OpenSpec.ofChange fnExactSureWordsWrong)

/-- 'laws.FnExactAlikeWords': WHATEVER THE INPUT: true; the input reads as it did. -/
def fnExactAlikeWordsSpec : ChangeSpec := { name := "fnExactAlikeWords", fn := fun _ => fun
  | [d1, d2] => { results := [.lit (.bool true)], args := [d1, d2] }
  | _ => none }
def fnExactAlikeWordsRow : OpenClaim := { program := "ytoippchkhknhpaa", sum := "77639db75e3a59c21127a195bbce70b6ef8e3cd5f6e02ad340cf501f92221f14", func := "loop.example/g01261/laws.FnExactAlikeWords", spec := "fnExactAlikeWords", plainKeys := false, apart := false }
def FnExactAlikeWordsSaid : Prop := fnExactAlikeWordsRow.holds Try.pinned (OpenSpec.ofChange fnExactAlikeWordsSpec)

/-- ITS FALSE NEIGHBOUR: 'it returns false'. Refute it at one input. -/
def fnExactAlikeWordsWrong : ChangeSpec := { name := "fnExactAlikeWords", fn := fun _ => fun
  | [d1, d2] => { results := [.lit (.bool false)], args := [d1, d2] }
  | _ => none }
def FnExactAlikeWordsWrongFalsely : Prop := fnExactAlikeWordsRow.holds Try.pinned (OpenSpec.ofChange fnExactAlikeWordsWrong)

/-- 'laws.FnMasks': WHATEVER THE INPUT: true; the input reads as it did. -/
def fnMasksSpec : ChangeSpec := { name := "fnMasks", fn := fun _ => fun
  | [d1, d2] => { results := [.lit (.bool true)], args := [d1, d2] }
  | _ => none }
def fnMasksRow : OpenClaim := { program := "ytoippchkhknhpaa", sum := "77639db75e3a59c21127a195bbce70b6ef8e3cd5f6e02ad340cf501f92221f14", func := "loop.example/g01261/laws.FnMasks", spec := "fnMasks", plainKeys := false, apart := false }
def FnMasksSaid : Prop := fnMasksRow.holds Try.pinned (OpenSpec.ofChange fnMasksSpec)

/-- ITS FALSE NEIGHBOUR: 'it returns false'. Refute it at one input. -/
def fnMasksWrong : ChangeSpec := { name := "fnMasks", fn := fun _ => fun
  | [d1, d2] => { results := [.lit (.bool false)], args := [d1, d2] }
  | _ => none }
def FnMasksWrongFalsely : Prop := fnMasksRow.holds Try.pinned (OpenSpec.ofChange fnMasksWrong)

/- THE SECOND FORM. 'bulk': how many values and letters a reading holds, each counted each time it is reached (what is shared counts as often as it is met; a slice's spare places count too). A statement '..UptoSaid' is the law's where the arguments, and the package variables that the reading takes, are together of bulk at most 1048576: NARROWER than '..Said'. Prove '..Said' where nothing that the law and all that it calls make is longer than what came in: it says more and counts as full. Else prove '..UptoSaid'. A law counts once. -/
mutual
def uptoBulk {H : Type} : DataW H → Nat
  | .lit (.string bytes) => bytes.length + 1
  | .lit _ => 1
  | .nil => 1
  | .ptr d => uptoBulk d + 1
  | .slice elems spare => uptoBulkAll elems + uptoBulkAll spare + 1
  | .agg parts => uptoBulkAll parts + 1
  | .iface _ d => uptoBulk d + 1
  | .map entries => uptoBulkEntries entries + 1
  | .held _ => 1
def uptoBulkAll {H : Type} : List (DataW H) → Nat
  | [] => 0
  | d :: r => uptoBulk d + uptoBulkAll r
def uptoBulkEntries {H : Type} : List (Lit × DataW H) → Nat
  | [] => 0
  | x :: r => uptoBulkEntry x + uptoBulkEntries r
def uptoBulkEntry {H : Type} : Lit × DataW H → Nat
  | (.string bytes, d) => bytes.length + uptoBulk d + 1
  | (_, d) => uptoBulk d + 1
 end
def uptoSmall : (H : Type) → List (DataW H) → Bool := fun _ ds => decide (uptoBulkAll ds ≤ 1048576)
def OpenSpec.upto (s : _root_.Go.ChangeSpec) : _root_.Go.OpenSpec := { _root_.Go.OpenSpec.ofChange s with cond := some uptoSmall }

/-- 'laws.FnExactMixLot', WHERE WHAT IT READS IS OF BULK AT MOST 1048576: true; the input reads as it did. -/
def fnExactMixLotUptoRow : OpenClaim := { program := "ytoippchkhknhpaa", sum := "77639db75e3a59c21127a195bbce70b6ef8e3cd5f6e02ad340cf501f92221f14", func := "loop.example/g01261/laws.FnExactMixLot", spec := "fnExactMixLot", plainKeys := false, apart := false, narrowed := true }
def FnExactMixLotUptoSaid : Prop := fnExactMixLotUptoRow.holds Try.pinned (OpenSpec.upto fnExactMixLotSpec)

/-- 'laws.FnExactTrueOf', WHERE WHAT IT READS IS OF BULK AT MOST 1048576: true; the input reads as it did. -/
def fnExactTrueOfUptoRow : OpenClaim := { program := "ytoippchkhknhpaa", sum := "77639db75e3a59c21127a195bbce70b6ef8e3cd5f6e02ad340cf501f92221f14", func := "loop.example/g01261/laws.FnExactTrueOf", spec := "fnExactTrueOf", plainKeys := false, apart := false, narrowed := true }
def FnExactTrueOfUptoSaid : Prop := fnExactTrueOfUptoRow.holds Try.pinned (OpenSpec.upto fnExactTrueOfSpec)

/-- 'laws.FnExactDrops', WHERE WHAT IT READS IS OF BULK AT MOST 1048576: true; the input reads as it did. -/
def fnExactDropsUptoRow : OpenClaim := { program := "ytoippchkhknhpaa", sum := "77639db75e3a59c21127a195bbce70b6ef8e3cd5f6e02ad340cf501f92221f14", func := "loop.example/g01261/laws.FnExactDrops", spec := "fnExactDrops", unfollowed := true, recurses := true, plainKeys := false, apart := false, narrowed := true }
def FnExactDropsUptoSaid : Prop := fnExactDropsUptoRow.holds Try.pinned (OpenSpec.upto fnExactDropsSpec)

/-- 'laws.FnExactDroppedOf', WHERE WHAT IT READS IS OF BULK AT MOST 1048576: true; the input reads as it did. -/
def fnExactDroppedOfUptoRow : OpenClaim := { program := "ytoippchkhknhpaa", sum := "77639db75e3a59c21127a195bbce70b6ef8e3cd5f6e02ad340cf501f92221f14", func := "loop.example/g01261/laws.FnExactDroppedOf", spec := "fnExactDroppedOf", unfollowed := true, recurses := true, plainKeys := false, apart := false, narrowed := true }
def FnExactDroppedOfUptoSaid : Prop := fnExactDroppedOfUptoRow.holds Try.pinned (OpenSpec.upto fnExactDroppedOfSpec)

/-- 'laws.FnExactFalseOf', WHERE WHAT IT READS IS OF BULK AT MOST 1048576: true; the input reads as it did. -/
def fnExactFalseOfUptoRow : OpenClaim := { program := "ytoippchkhknhpaa", sum := "77639db75e3a59c21127a195bbce70b6ef8e3cd5f6e02ad340cf501f92221f14", func := "loop.example/g01261/laws.FnExactFalseOf", spec := "fnExactFalseOf", unfollowed := true, recurses := true, plainKeys := false, apart := false, narrowed := true }
def FnExactFalseOfUptoSaid : Prop := fnExactFalseOfUptoRow.holds Try.pinned (OpenSpec.upto fnExactFalseOfSpec)

/-- 'laws.FnExactCountFalse', WHERE WHAT IT READS IS OF BULK AT MOST 1048576: true; the input reads as it did. -/
def fnExactCountFalseUptoRow : OpenClaim := { program := "ytoippchkhknhpaa", sum := "77639db75e3a59c21127a195bbce70b6ef8e3cd5f6e02ad340cf501f92221f14", func := "loop.example/g01261/laws.FnExactCountFalse", spec := "fnExactCountFalse", unfollowed := true, recurses := true, plainKeys := false, apart := false, narrowed := true }
def FnExactCountFalseUptoSaid : Prop := fnExactCountFalseUptoRow.holds Try.pinned (OpenSpec.upto fnExactCountFalseSpec)

/-- 'laws.FnExactBestPer', WHERE WHAT IT READS IS OF BULK AT MOST 1048576: true; the input reads as it did. -/
def fnExactBestPerUptoRow : OpenClaim := { program := "ytoippchkhknhpaa", sum := "77639db75e3a59c21127a195bbce70b6ef8e3cd5f6e02ad340cf501f92221f14", func := "loop.example/g01261/laws.FnExactBestPer", spec := "fnExactBestPer", unfollowed := true, recurses := true, plainKeys := false, apart := false, narrowed := true }
def FnExactBestPerUptoSaid : Prop := fnExactBestPerUptoRow.holds Try.pinned (OpenSpec.upto fnExactBestPerSpec)

/-- 'laws.FnExactSureWords', WHERE WHAT IT READS IS OF BULK AT MOST 1048576: true; the input reads as it did. -/
def fnExactSureWordsUptoRow : OpenClaim := { program := "ytoippchkhknhpaa", sum := "77639db75e3a59c21127a195bbce70b6ef8e3cd5f6e02ad340cf501f92221f14", func := "loop.example/g01261/laws.FnExactSureWords", spec := "fnExactSureWords", plainKeys := false, apart := false, narrowed := true }
def FnExactSureWordsUptoSaid : Prop := fnExactSureWordsUptoRow.holds Try.pinned (OpenSpec.upto fnExactSureWordsSpec)

/-- 'laws.FnExactAlikeWords', WHERE WHAT IT READS IS OF BULK AT MOST 1048576: true; the input reads as it did. -/
def fnExactAlikeWordsUptoRow : OpenClaim := { program := "ytoippchkhknhpaa", sum := "77639db75e3a59c21127a195bbce70b6ef8e3cd5f6e02ad340cf501f92221f14", func := "loop.example/g01261/laws.FnExactAlikeWords", spec := "fnExactAlikeWords", plainKeys := false, apart := false, narrowed := true }
def FnExactAlikeWordsUptoSaid : Prop := fnExactAlikeWordsUptoRow.holds Try.pinned (OpenSpec.upto fnExactAlikeWordsSpec)

/-- 'laws.FnMasks', WHERE WHAT IT READS IS OF BULK AT MOST 1048576: true; the input reads as it did. -/
def fnMasksUptoRow : OpenClaim := { program := "ytoippchkhknhpaa", sum := "77639db75e3a59c21127a195bbce70b6ef8e3cd5f6e02ad340cf501f92221f14", func := "loop.example/g01261/laws.FnMasks", spec := "fnMasks", plainKeys := false, apart := false, narrowed := true }
def FnMasksUptoSaid : Prop := fnMasksUptoRow.holds Try.pinned (OpenSpec.upto fnMasksSpec)

end Rows
end Go.Proofs.Ytoippchkhknhpaa
