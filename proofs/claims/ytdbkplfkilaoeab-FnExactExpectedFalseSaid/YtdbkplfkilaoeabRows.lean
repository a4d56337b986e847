/-
  No cell of these rows narrows 'for every input' (looked for: loops, veiled, ifaces, maps, wideKeys, modest, calm, conditions, laid).
  DERIVED. THE GIVEN ROWS OF THIS SEAT. 4 by the template 'for every input the law returns true; each argument reads behind the call as it read before'; 0 by the template 'total and deterministic' (their statements: YtdbkplfkilaoeabTotals.lean).
  GIVEN WITH THE SEED: the statements are not yours to turn. If you find one false, say at which input.
  Laid BY PROGRAM, IN A SANDBOX (cutbox-rows.mjs): the forced cells as the released guide's own fill.sh prints them over the translation 6a283baca4bea0d7… (all of the seat's roots in one cut). By AI agents, Wed Nov 11 2026. No macro, syntax, notation, axiom, sorry.
-/
import Derived.Test.YtdbkplfkilaoeabChecked
import GoSem.Claim
import GoSem.ClaimJoined
import GoSem.ClaimMapViews
import Derived.JoinedTies
import Derived.KernelRfl
namespace Go.Proofs.Ytdbkplfkilaoeab
/- THE CELL 'sum', in the pinned program and in every row, IS THE sha256 OF THE DUMP (.gsa) THAT YtdbkplfkilaoeabProg.lean LOADS. Nothing in Lean hashes anything: it is a label: what it is worth is what the hold of that sum in a sandbox is worth. -/
noncomputable def Try.pinned : Pinned := { name := "ytdbkplfkilaoeab", sum := "6a283baca4bea0d7c845ea82770df869044b4841751c07dc9501544d319ec815", checked := Try.checked }
namespace Rows
def none {H : Type} : Left H := { results := [], args := [] }

/-- 'laws.FnExactCompareShares': WHATEVER THE INPUT: true; the input reads as it did. -/
def fnExactCompareSharesSpec : ChangeSpec := { name := "fnExactCompareShares", fn := fun _ => fun
  | [d1, d2] => { results := [.lit (.bool true)], args := [d1, d2] }
  | _ => none }
def fnExactCompareSharesRow : OpenClaim := { program := "ytdbkplfkilaoeab", sum := "6a283baca4bea0d7c845ea82770df869044b4841751c07dc9501544d319ec815", func := "loop.example/g01261/laws.FnExactCompareShares", spec := "fnExactCompareShares", apart := false }
def FnExactCompareSharesSaid : Prop := fnExactCompareSharesRow.holds Try.pinned (OpenSpec.ofChange fnExactCompareSharesSpec)

/-- ITS FALSE NEIGHBOUR: 'it returns false'. Refute it at one input. -/
def fnExactCompareSharesWrong : ChangeSpec := { name := "fnExactCompareShares", fn := fun _ => fun
  | [d1, d2] => { results := [.lit (.bool false)], args := [d1, d2] }
  | _ => none }
def FnExactCompareSharesWrongFalsely : Prop := fnExactCompareSharesRow.holds Try.pinned (OpenSpec.ofChange fnExactCompareSharesWrong)

/-- 'laws.FnExactFalseChance': WHATEVER THE INPUT: true; the input reads as it did. -/
def fnExactFalseChanceSpec : ChangeSpec := { name := "fnExactFalseChance", fn := fun _ => fun
  | [d1, d2, d3] => { results := [.lit (.bool true)], args := [d1, d2, d3] }
  | _ => none }
def fnExactFalseChanceRow : OpenClaim := { program := "ytdbkplfkilaoeab", sum := "6a283baca4bea0d7c845ea82770df869044b4841751c07dc9501544d319ec815", func := "loop.example/g01261/laws.FnExactFalseChance", spec := "fnExactFalseChance", apart := false }
def FnExactFalseChanceSaid : Prop := fnExactFalseChanceRow.holds Try.pinned (OpenSpec.ofChange fnExactFalseChanceSpec)

/-- ITS FALSE NEIGHBOUR: 'it returns false'. Refute it at one input. -/
def fnExactFalseChanceWrong : ChangeSpec := { name := "fnExactFalseChance", fn := fun _ => fun
  | [d1, d2, d3] => { results := [.lit (.bool false)], args := [d1, d2, d3] }
  | _ => none }
def FnExactFalseChanceWrongFalsely : Prop := fnExactFalseChanceRow.holds Try.pinned (OpenSpec.ofChange fnExactFalseChanceWrong)

/-- 'laws.FnExactExpectedFalse': WHATEVER THE INPUT: true; the input reads as it did. -/
def fnExactExpectedFalseSpec : ChangeSpec := { name := "fnExactExpectedFalse", fn := fun _ => fun
  | [d1, d2, d3] => { results := [.lit (.bool true)], args := [d1, d2, d3] }
  | _ => none }
def fnExactExpectedFalseRow : OpenClaim := { program := "ytdbkplfkilaoeab", sum := "6a283baca4bea0d7c845ea82770df869044b4841751c07dc9501544d319ec815", func := "loop.example/g01261/laws.FnExactExpectedFalse", spec := "fnExactExpectedFalse", apart := false }
def FnExactExpectedFalseSaid : Prop := fnExactExpectedFalseRow.holds Try.pinned (OpenSpec.ofChange fnExactExpectedFalseSpec)

/-- ITS FALSE NEIGHBOUR: 'it returns false'. Refute it at one input. -/
def fnExactExpectedFalseWrong : ChangeSpec := { name := "fnExactExpectedFalse", fn := fun _ => fun
  | [d1, d2, d3] => { results := [.lit (.bool false)], args := [d1, d2, d3] }
  | _ => none }
def FnExactExpectedFalseWrongFalsely : Prop := fnExactExpectedFalseRow.holds Try.pinned (OpenSpec.ofChange fnExactExpectedFalseWrong)

/-- 'laws.FnExactBestSize': WHATEVER THE INPUT: true; the input reads as it did. -/
def fnExactBestSizeSpec : ChangeSpec := { name := "fnExactBestSize", fn := fun _ => fun
  | [d1, d2, d3, d4, d5] => { results := [.lit (.bool true)], args := [d1, d2, d3, d4, d5] }
  | _ => none }
def fnExactBestSizeRow : OpenClaim := { program := "ytdbkplfkilaoeab", sum := "6a283baca4bea0d7c845ea82770df869044b4841751c07dc9501544d319ec815", func := "loop.example/g01261/laws.FnExactBestSize", spec := "fnExactBestSize", apart := false }
def FnExactBestSizeSaid : Prop := fnExactBestSizeRow.holds Try.pinned (OpenSpec.ofChange fnExactBestSizeSpec)

/-- ITS FALSE NEIGHBOUR: 'it returns false'. Refute it at one input. -/
def fnExactBestSizeWrong : ChangeSpec := { name := "fnExactBestSize", fn := fun _ => fun
  | [d1, d2, d3, d4, d5] => { results := [.lit (.bool false)], args := [d1, d2, d3, d4, d5] }
  | _ => none }
def FnExactBestSizeWrongFalsely : Prop := fnExactBestSizeRow.holds Try.pinned (OpenSpec.ofChange fnExactBestSizeWrong)

/- THE SECOND FORM. 'bulk': how many values and letters a reading holds, each counted each time it is reached (what is shared counts as often as it is met; a slice's spare places count too). A statement '..UptoSaid' is the law's where the arguments, and the package variables that the reading takes, are together of bulk at most 1048576: NARROWER than '..Said'. Prove '..Said' where nothing that the law and all that it calls make is longer than what came in: it says more and counts as full. Else prove '..UptoSaid'. A law counts once. -/
mutual
def uptoBulk {H : Type} : DataW H → Nat
  | .lit (.string bytes) => bytes.length + 1
  | .lit _ => 1
  | .nil => 1
  | .ptr d => uptoBulk d + 1
  | .slice elems spare => uptoBulkAll elems + uptoBulkAll spare + 1
  | .agg parts => uptoBulkAll parts + 1
  | .iface _ d => uptoBulk d + 1
  | .map entries => uptoBulkEntries entries + 1
  | .held _ => 1
def uptoBulkAll {H : Type} : List (DataW H) → Nat
  | [] => 0
  | d :: r => uptoBulk d + uptoBulkAll r
def uptoBulkEntries {H : Type} : List (Lit × DataW H) → Nat
  | [] => 0
  | x :: r => uptoBulkEntry x + uptoBulkEntries r
def uptoBulkEntry {H : Type} : Lit × DataW H → Nat
  | (.string bytes, d) => bytes.length + uptoBulk d + 1
  | (_, d) => uptoBulk d + 1
 end
def uptoSmall : (H : Type) → List (DataW H) → Bool := fun _ ds => decide (uptoBulkAll ds ≤ 1048576)
def OpenSpec.upto (s : _root_.Go.ChangeSpec) : _root_.Go.OpenSpec := { _root_.Go.OpenSpec.ofChange s with cond := some uptoSmall }

/-- 'laws.FnExactCompareShares', WHERE WHAT IT READS IS OF BULK AT MOST 1048576: true; the input reads as it did. -/
def fnExactCompareSharesUptoRow : OpenClaim := { program := "ytdbkplfkilaoeab", sum := "6a283baca4bea0d7c845ea82770df869044b4841751c07dc9501544d319ec815", func := "loop.example/g01261/laws.FnExactCompareShares", spec := "fnExactCompareShares", apart := false, narrowed := true }
def FnExactCompareSharesUptoSaid : Prop := fnExactCompareSharesUptoRow.holds Try.pinned (OpenSpec.upto fnExactCompareSharesSpec)

/-- 'laws.FnExactFalseChance', WHERE WHAT IT READS IS OF BULK AT MOST 1048576: true; the input reads as it did. -/
def fnExactFalseChanceUptoRow : OpenClaim := { program := "ytdbkplfkilaoeab", sum := "6a283baca4bea0d7c845ea82770df869044b4841751c07dc9501544d319ec815", func := "loop.example/g01261/laws.FnExactFalseChance", spec := "fnExactFalseChance", apart := false, narrowed := true }
def FnExactFalseChanceUptoSaid : Prop := fnExactFalseChanceUptoRow.holds Try.pinned (OpenSpec.upto fnExactFalseChanceSpec)

/-- 'laws.FnExactExpectedFalse', WHERE WHAT IT READS IS OF BULK AT MOST 1048576: true; the input reads as it did. -/
def fnExactExpectedFalseUptoRow : OpenClaim := { program := "ytdbkplfkilaoeab", sum := "6a283baca4bea0d7c845ea82770df869044b4841751c07dc9501544d319ec815", func := "loop.example/g01261/laws.FnExactExpectedFalse", spec := "fnExactExpectedFalse", apart := false, narrowed := true }
def FnExactExpectedFalseUptoSaid : Prop := fnExactExpectedFalseUptoRow.holds Try.pinned (OpenSpec.upto fnExactExpectedFalseSpec)

/-- 'laws.FnExactBestSize', WHERE WHAT IT READS IS OF BULK AT MOST 1048576: true; the input reads as it did. -/
def fnExactBestSizeUptoRow : OpenClaim := { program := "ytdbkplfkilaoeab", sum := "6a283baca4bea0d7c845ea82770df869044b4841751c07dc9501544d319ec815", func := "loop.example/g01261/laws.FnExactBestSize", spec := "fnExactBestSize", apart := false, narrowed := true }
def FnExactBestSizeUptoSaid : Prop := fnExactBestSizeUptoRow.holds Try.pinned (OpenSpec.upto fnExactBestSizeSpec)

end Rows
end Go.Proofs.Ytdbkplfkilaoeab
