/-
  No cell of these rows narrows 'for every input' (looked for: loops, veiled, ifaces, maps, wideKeys, modest, calm, conditions, laid).
  DERIVED. THE GIVEN ROWS OF THIS SEAT. 4 by the template 'for every input the law returns true; each argument reads behind the call as it read before'; 0 by the template 'total and deterministic' (their statements: YtbmjghkdhhcffaaTotals.lean).
  GIVEN WITH THE SEED: the statements are not yours to turn. If you find one false, say at which input.
  Laid BY PROGRAM, IN A SANDBOX (cutbox-rows.mjs): the forced cells as the released guide's own fill.sh prints them over the translation 10176b089038dd13… (all of the seat's roots in one cut). By AI agents, Wed Nov 11 2026. No macro, syntax, notation, axiom, sorry.
-/
import Derived.Test.YtbmjghkdhhcffaaChecked
import GoSem.Claim
import GoSem.ClaimJoined
import GoSem.ClaimMapViews
import Derived.JoinedTies
import Derived.KernelRfl
namespace Go.Proofs.Ytbmjghkdhhcffaa
/- THE CELL 'sum', in the pinned program and in every row, IS THE sha256 OF THE DUMP (.gsa) THAT YtbmjghkdhhcffaaProg.lean LOADS. Nothing in Lean hashes anything: it is a label: what it is worth is what the hold of that sum in a sandbox is worth. -/
noncomputable def Try.pinned : Pinned := { name := "ytbmjghkdhhcffaa", sum := "10176b089038dd134aba01d42247650aa4f0a77d28e6aa3b19759f469dcdd148", checked := Try.checked }
namespace Rows
def none {H : Type} : Left H := { results := [], args := [] }

/-- 'laws.FnExactConflictsOf': WHATEVER THE INPUT: true; the input reads as it did. -/
def fnExactConflictsOfSpec : ChangeSpec := { name := "fnExactConflictsOf", fn := fun _ => fun
  | [d1, d2, d3] => { results := [.lit (.bool true)], args := [d1, d2, d3] }
  | _ => none }
def fnExactConflictsOfRow : OpenClaim := { program := "ytbmjghkdhhcffaa", sum := "10176b089038dd134aba01d42247650aa4f0a77d28e6aa3b19759f469dcdd148", func := "loop.example/g01261/laws.FnExactConflictsOf", spec := "fnExactConflictsOf", plainKeys := false, apart := false }
def FnExactConflictsOfSaid : Prop := fnExactConflictsOfRow.holds Try.pinned (OpenSpec.ofChange fnExactConflictsOfSpec)

/-- ITS FALSE NEIGHBOUR: 'it returns false'. Refute it at one input. -/
def fnExactConflictsOfWrong : ChangeSpec := { name := "fnExactConflictsOf", fn := fun _ => fun
  | [d1, d2, d3] => { results := [.lit (.bool false)], args := [d1, d2, d3] }
  | _ => none }
def FnExactConflictsOfWrongFalsely : Prop := fnExactConflictsOfRow.holds Try.pinned (OpenSpec.ofChange fnExactConflictsOfWrong)

/-- 'laws.FnExactFewestNeedles': WHATEVER THE INPUT: true; the input reads as it did. -/
def fnExactFewestNeedlesSpec : ChangeSpec := { name := "fnExactFewestNeedles", fn := fun _ => fun
  | [d1, d2] => { results := [.lit (.bool true)], args := [d1, d2] }
  | _ => none }
def fnExactFewestNeedlesRow : OpenClaim := { program := "ytbmjghkdhhcffaa", sum := "10176b089038dd134aba01d42247650aa4f0a77d28e6aa3b19759f469dcdd148", func := "loop.example/g01261/laws.FnExactFewestNeedles", spec := "fnExactFewestNeedles", unfollowed := true, recurses := true, plainKeys := false, apart := false }
def FnExactFewestNeedlesSaid : Prop := fnExactFewestNeedlesRow.holds Try.pinned (OpenSpec.ofChange fnExactFewestNeedlesSpec)

/-- ITS FALSE NEIGHBOUR: 'it returns false'. Refute it at one input. -/
def fnExactFewestNeedlesWrong : ChangeSpec := { name := "fnExactFewestNeedles", fn := fun _ => fun
  | [d1, d2] => { results := [.lit (.bool false)], args := [d1, d2] }
  | _ => none }
def FnExactFewestNeedlesWrongFalsely : Prop := fnExactFewestNeedlesRow.holds Try.pinned (OpenSpec.ofChange fnExactFewestNeedlesWrong)

/-- 'laws.FnExactExplainMask': WHATEVER THE INPUT: true; the input reads as it did. -/
def fnExactExplainMaskSpec : ChangeSpec := { name := "fnExactExplainMask", fn := fun _ => fun
  | [d1, d2, d3, d4] => { results := [.lit (.bool true)], args := [d1, d2, d3, d4] }
  | _ => none }
def fnExactExplainMaskRow : OpenClaim := { program := "ytbmjghkdhhcffaa", sum := "10176b089038dd134aba01d42247650aa4f0a77d28e6aa3b19759f469dcdd148", func := "loop.example/g01261/laws.FnExactExplainMask", spec := "fnExactExplainMask", unfollowed := true, recurses := true, plainKeys := false, apart := false }
def FnExactExplainMaskSaid : Prop := fnExactExplainMaskRow.holds Try.pinned (OpenSpec.ofChange fnExactExplainMaskSpec)

/-- ITS FALSE NEIGHBOUR: 'it returns false'. Refute it at one input. -/
def fnExactExplainMaskWrong : ChangeSpec := { name := "fnExactExplainMask", fn := fun _ => fun
  | [d1, d2, d3, d4] => { results := [.lit (.bool false)], args := [d1, d2, d3, d4] }
  | _ => none }
def FnExactExplainMaskWrongFalsely : Prop := fnExactExplainMaskRow.holds Try.pinned (OpenSpec.ofChange fnExactExplainMaskWrong)

/-- 'laws.FnNear': WHATEVER THE INPUT: true; the input reads as it did. -/
def fnNearSpec : ChangeSpec := { name := "fnNear", fn := fun _ => fun
  | [d1, d2] => { results := [.lit (.bool true)], args := [d1, d2] }
  | _ => none }
def fnNearRow : OpenClaim := { program := "ytbmjghkdhhcffaa", sum := "10176b089038dd134aba01d42247650aa4f0a77d28e6aa3b19759f469dcdd148", func := "loop.example/g01261/laws.FnNear", spec := "fnNear", plainKeys := false, apart := false }
def FnNearSaid : Prop := fnNearRow.holds Try.pinned (OpenSpec.ofChange fnNearSpec)

/-- ITS FALSE NEIGHBOUR: 'it returns false'. Refute it at one input. -/
def fnNearWrong : ChangeSpec := { name := "fnNear", fn := fun _ => fun
  | [d1, d2] => { results := [.lit (.bool false)], args := [d1, d2] }
  | _ => none }
def FnNearWrongFalsely : Prop := fnNearRow.holds Try.pinned (OpenSpec.ofChange fnNearWrong)

/- THE SECOND FORM. 'bulk': how many values and letters a reading holds, each counted each time it is reached (what is shared counts as often as it is met; a slice's spare places count too). A statement '..UptoSaid' is the law's where the arguments, and the package variables that the reading takes, are together of bulk at most 1048576: NARROWER than '..Said'. Prove '..Said' where nothing that the law and all that it calls make is longer than what came in: it says more and counts as full. Else prove '..UptoSaid'. A law counts once. -/
mutual
def uptoBulk {H : Type} : DataW H → Nat
  | .lit (.string bytes) => bytes.length + 1
  | .lit _ => 1
  | .nil => 1
  | .ptr d => uptoBulk d + 1
  | .slice elems spare => uptoBulkAll elems + uptoBulkAll spare + 1
  | .agg parts => uptoBulkAll parts + 1
  | .iface _ d => uptoBulk d + 1
  | .map entries => uptoBulkEntries entries + 1
  | .held _ => 1
def uptoBulkAll {H : Type} : List (DataW H) → Nat
  | [] => 0
  | d :: r => uptoBulk d + uptoBulkAll r
def uptoBulkEntries {H : Type} : List (Lit × DataW H) → Nat
  | [] => 0
  | x :: r => uptoBulkEntry x + uptoBulkEntries r
def uptoBulkEntry {H : Type} : Lit × DataW H → Nat
  | (.string bytes, d) => bytes.length + uptoBulk d + 1
  | (_, d) => uptoBulk d + 1
 end
def uptoSmall : (H : Type) → List (DataW H) → Bool := fun _ ds => decide (uptoBulkAll ds ≤ 1048576)
def OpenSpec.upto (s : _root_.Go.ChangeSpec) : _root_.Go.OpenSpec := { _root_.Go.OpenSpec.ofChange s with cond := some uptoSmall }

/-- 'laws.FnExactConflictsOf', WHERE WHAT IT READS IS OF BULK AT MOST 1048576: true; the input reads as it did. -/
def fnExactConflictsOfUptoRow : OpenClaim := { program := "ytbmjghkdhhcffaa", sum := "10176b089038dd134aba01d42247650aa4f0a77d28e6aa3b19759f469dcdd148", func := "loop.example/g01261/laws.FnExactConflictsOf", spec := "fnExactConflictsOf", plainKeys := false, apart := false, narrowed := true }
def FnExactConflictsOfUptoSaid : Prop := fnExactConflictsOfUptoRow.holds Try.pinned (OpenSpec.upto fnExactConflictsOfSpec)

/-- 'laws.FnExactFewestNeedles', WHERE WHAT IT READS IS OF BULK AT MOST 1048576: true; the input reads as it did. -/
def fnExactFewestNeedlesUptoRow : OpenClaim := { program := "ytbmjghkdhhcffaa", sum := "10176b089038dd134aba01d42247650aa4f0a77d28e6aa3b19759f469dcdd148", func := "loop.example/g01261/laws.FnExactFewestNeedles", spec := "fnExactFewestNeedles", unfollowed := true, recurses := true, plainKeys := false, apart := false, narrowed := true }
def FnExactFewestNeedlesUptoSaid : Prop := fnExactFewestNeedlesUptoRow.holds Try.pinned (OpenSpec.upto fnExactFewestNeedlesSpec)

/-- 'laws.FnExactExplainMask', WHERE WHAT IT READS IS OF BULK AT MOST 1048576: true; the input reads as it did. -/
def fnExactExplainMaskUptoRow : OpenClaim := { program := "ytbmjghkdhhcffaa", sum := "10176b089038dd134aba01d42247650aa4f0a77d28e6aa3b19759f469dcdd148", func := "loop.example/g01261/laws.FnExactExplainMask", spec := "fnExactExplainMask", unfollowed := true, recurses := true, plainKeys := false, apart := false, narrowed := true }
def FnExactExplainMaskUptoSaid : Prop := fnExactExplainMaskUptoRow.holds Try.pinned (OpenSpec.upto fnExactExplainMaskSpec)

/-- 'laws.FnNear', WHERE WHAT IT READS IS OF BULK AT MOST 1048576: true; the input reads as it did. -/
def fnNearUptoRow : OpenClaim := { program := "ytbmjghkdhhcffaa", sum := "10176b089038dd134aba01d42247650aa4f0a77d28e6aa3b19759f469dcdd148", func := "loop.example/g01261/laws.FnNear", spec := "fnNear", plainKeys := false, apart := false, narrowed := true }
def FnNearUptoSaid : Prop := fnNearUptoRow.holds Try.pinned (OpenSpec.upto fnNearSpec)

end Rows
end Go.Proofs.Ytbmjghkdhhcffaa
