/-
  NARROWER THAN 'FOR EVERY INPUT', by the rows' own cells (each row's printed sentence says how): FnExactIdleHoles: ifaces, laid · FnExactTogetherOf: ifaces, laid · FnExactCheckAfter: laid · FnExactApplyEdit: laid · FnExactApplyEdits: laid.
  DERIVED. THE GIVEN ROWS OF THIS SEAT. 5 by the template 'for every input the law returns true; each argument reads behind the call as it read before'; 0 by the template 'total and deterministic' (their statements: YtanocllpmjhblaaDoorTotals.lean).
  GIVEN WITH THE SEED: the statements are not yours to turn. If you find one false, say at which input.
  Laid BY PROGRAM, IN A SANDBOX (cutbox-rows.mjs): the forced cells as the released guide's own fill.sh prints them over the translation 657c7245842a55c9… (all of the seat's roots in one cut). By AI agents, Wed Nov 11 2026. No macro, syntax, notation, axiom, sorry.
-/
import Derived.Test.YtanocllpmjhblaaDoorChecked
import GoSem.Claim
import GoSem.ClaimJoined
import GoSem.ClaimMapViews
import Derived.JoinedTies
import Derived.KernelRfl
namespace Go.Proofs.YtanocllpmjhblaaDoor
/- THE CELL 'sum', in the pinned program and in every row, IS THE sha256 OF THE DUMP (.gsa) THAT YtanocllpmjhblaaDoorProg.lean LOADS. Nothing in Lean hashes anything: it is a label: what it is worth is what the hold of that sum in a sandbox is worth. -/
noncomputable def Tryd.pinned : Pinned := { name := "ytanocllpmjhblaadoor", sum := "657c7245842a55c945df5c6daca191b12c34924e8de6eb9fe082d638e4d1577b", checked := Tryd.checked }
namespace Rows
def none {H : Type} : Left H := { results := [], args := [] }

/- WHAT THE LISTED PACKAGE-LEVEL VARIABLES READ AS WHEN THE CALL BEGINS. Each datum BY PROGRAM (the guide's laid-datum.mjs) off the statement by which the dump's own 'gosem.cut.vars' lays the variable. In a bare row this is a premise. The card (YtanocllpmjhblaaDoorCards.lean) ties it to the program's text. -/
def laid_loop_example_g01261_impl_errNotValid {H : Type} : DataW H := .iface "*errors.errorString" (.ptr (.agg [.lit (.string [105, 116, 32, 105, 115, 32, 110, 111, 116, 32, 118, 97, 108, 105, 100])]))
def laid_loop_example_g01261_impl_errOutside {H : Type} : DataW H := .iface "*errors.errorString" (.ptr (.agg [.lit (.string [105, 116, 32, 105, 115, 32, 111, 117, 116, 32, 111, 102, 32, 114, 97, 110, 103, 101])]))
def laid_loop_example_g01261_impl_errNotThere {H : Type} : DataW H := .iface "*errors.errorString" (.ptr (.agg [.lit (.string [116, 104, 101, 114, 101, 32, 105, 115, 32, 110, 111, 110, 101])]))
def laid_errors_errorType {H : Type} : DataW H := .iface "internal/reflectlite.rtype" (.agg [.ptr (.lit (.string [101, 114, 114, 111, 114]))])

/-- 'laws.FnExactIdleHoles': WHATEVER THE INPUT: true; the input reads as it did. -/
def fnExactIdleHolesSpec : ChangeSpec := { name := "fnExactIdleHoles", vars := ["loop.example/g01261/impl.errNotValid", "loop.example/g01261/impl.errOutside", "loop.example/g01261/impl.errNotThere"], fn := fun _ => fun
  | [d, g1, g2, g3] => { results := [.lit (.bool true)], args := [d], vars := [g1, g2, g3] }
  | _ => none }
def fnExactIdleHolesRow : OpenClaim := { program := "ytanocllpmjhblaadoor", sum := "657c7245842a55c945df5c6daca191b12c34924e8de6eb9fe082d638e4d1577b", func := "loop.example/g01261/laws.FnExactIdleHoles", spec := "fnExactIdleHoles", inPlace := ["internal/reflectlite.TypeOf"], unfollowed := true, recurses := true, named := ["loop.example/g01261/impl.errNotValid", "loop.example/g01261/impl.errOutside", "loop.example/g01261/impl.errNotThere"], ifaces := true, apart := false, laid := [("loop.example/g01261/impl.errNotValid", laid_loop_example_g01261_impl_errNotValid), ("loop.example/g01261/impl.errOutside", laid_loop_example_g01261_impl_errOutside), ("loop.example/g01261/impl.errNotThere", laid_loop_example_g01261_impl_errNotThere)] }
def FnExactIdleHolesSaid : Prop := fnExactIdleHolesRow.holds Tryd.pinned (OpenSpec.ofChange fnExactIdleHolesSpec)

/-- ITS FALSE NEIGHBOUR: 'it returns false'. Refute it at one input. -/
def fnExactIdleHolesWrong : ChangeSpec := { name := "fnExactIdleHoles", vars := ["loop.example/g01261/impl.errNotValid", "loop.example/g01261/impl.errOutside", "loop.example/g01261/impl.errNotThere"], fn := fun _ => fun
  | [d, g1, g2, g3] => { results := [.lit (.bool false)], args := [d], vars := [g1, g2, g3] }
  | _ => none }
def FnExactIdleHolesWrongFalsely : Prop := fnExactIdleHolesRow.holds Tryd.pinned (OpenSpec.ofChange fnExactIdleHolesWrong)

/-- 'laws.FnExactTogetherOf': WHATEVER THE INPUT: true; the input reads as it did. -/
def fnExactTogetherOfSpec : ChangeSpec := { name := "fnExactTogetherOf", vars := ["loop.example/g01261/impl.errNotValid", "loop.example/g01261/impl.errOutside", "loop.example/g01261/impl.errNotThere"], fn := fun _ => fun
  | [d1, d2, d3, g1, g2, g3] => { results := [.lit (.bool true)], args := [d1, d2, d3], vars := [g1, g2, g3] }
  | _ => none }
def fnExactTogetherOfRow : OpenClaim := { program := "ytanocllpmjhblaadoor", sum := "657c7245842a55c945df5c6daca191b12c34924e8de6eb9fe082d638e4d1577b", func := "loop.example/g01261/laws.FnExactTogetherOf", spec := "fnExactTogetherOf", inPlace := ["internal/reflectlite.TypeOf"], unfollowed := true, recurses := true, named := ["loop.example/g01261/impl.errNotValid", "loop.example/g01261/impl.errOutside", "loop.example/g01261/impl.errNotThere"], ifaces := true, apart := false, laid := [("loop.example/g01261/impl.errNotValid", laid_loop_example_g01261_impl_errNotValid), ("loop.example/g01261/impl.errOutside", laid_loop_example_g01261_impl_errOutside), ("loop.example/g01261/impl.errNotThere", laid_loop_example_g01261_impl_errNotThere)] }
def FnExactTogetherOfSaid : Prop := fnExactTogetherOfRow.holds Tryd.pinned (OpenSpec.ofChange fnExactTogetherOfSpec)

/-- ITS FALSE NEIGHBOUR: 'it returns false'. Refute it at one input. -/
def fnExactTogetherOfWrong : ChangeSpec := { name := "fnExactTogetherOf", vars := ["loop.example/g01261/impl.errNotValid", "loop.example/g01261/impl.errOutside", "loop.example/g01261/impl.errNotThere"], fn := fun _ => fun
  | [d1, d2, d3, g1, g2, g3] => { results := [.lit (.bool false)], args := [d1, d2, d3], vars := [g1, g2, g3] }
  | _ => none }
def FnExactTogetherOfWrongFalsely : Prop := fnExactTogetherOfRow.holds Tryd.pinned (OpenSpec.ofChange fnExactTogetherOfWrong)

/-- 'laws.FnExactCheckAfter': WHATEVER THE INPUT: true; the input reads as it did. -/
def fnExactCheckAfterSpec : ChangeSpec := { name := "fnExactCheckAfter", fn := fun _ => fun
  | [d1, d2, d3] => { results := [.lit (.bool true)], args := [d1, d2, d3] }
  | _ => none }
def fnExactCheckAfterRow : OpenClaim := { program := "ytanocllpmjhblaadoor", sum := "657c7245842a55c945df5c6daca191b12c34924e8de6eb9fe082d638e4d1577b", func := "loop.example/g01261/laws.FnExactCheckAfter", spec := "fnExactCheckAfter", inPlace := ["internal/reflectlite.ValueOf", "(internal/reflectlite.Value).Type", "(internal/reflectlite.Value).IsNil", "internal/reflectlite.TypeOf", "(internal/reflectlite.Value).Elem", "(internal/reflectlite.Value).Set"], unfollowed := true, recurses := true, named := ["errors.errorType"], apart := false, laid := [("errors.errorType", laid_errors_errorType)] }
def FnExactCheckAfterSaid : Prop := fnExactCheckAfterRow.holds Tryd.pinned (OpenSpec.ofChange fnExactCheckAfterSpec)

/-- ITS FALSE NEIGHBOUR: 'it returns false'. Refute it at one input. -/
def fnExactCheckAfterWrong : ChangeSpec := { name := "fnExactCheckAfter", fn := fun _ => fun
  | [d1, d2, d3] => { results := [.lit (.bool false)], args := [d1, d2, d3] }
  | _ => none }
def FnExactCheckAfterWrongFalsely : Prop := fnExactCheckAfterRow.holds Tryd.pinned (OpenSpec.ofChange fnExactCheckAfterWrong)

/-- 'laws.FnExactApplyEdit': WHATEVER THE INPUT: true; the input reads as it did. -/
def fnExactApplyEditSpec : ChangeSpec := { name := "fnExactApplyEdit", fn := fun _ => fun
  | [d1, d2] => { results := [.lit (.bool true)], args := [d1, d2] }
  | _ => none }
def fnExactApplyEditRow : OpenClaim := { program := "ytanocllpmjhblaadoor", sum := "657c7245842a55c945df5c6daca191b12c34924e8de6eb9fe082d638e4d1577b", func := "loop.example/g01261/laws.FnExactApplyEdit", spec := "fnExactApplyEdit", inPlace := ["internal/reflectlite.ValueOf", "(internal/reflectlite.Value).Type", "(internal/reflectlite.Value).IsNil", "internal/reflectlite.TypeOf", "(internal/reflectlite.Value).Elem", "(internal/reflectlite.Value).Set"], unfollowed := true, recurses := true, named := ["errors.errorType"], apart := false, laid := [("errors.errorType", laid_errors_errorType)] }
def FnExactApplyEditSaid : Prop := fnExactApplyEditRow.holds Tryd.pinned (OpenSpec.ofChange fnExactApplyEditSpec)

/-- ITS FALSE NEIGHBOUR: 'it returns false'. Refute it at one input. -/
def fnExactApplyEditWrong : ChangeSpec := { name := "fnExactApplyEdit", fn := fun _ => fun
  | [d1, d2] => { results := [.lit (.bool false)], args := [d1, d2] }
  | _ => none }
def FnExactApplyEditWrongFalsely : Prop := fnExactApplyEditRow.holds Tryd.pinned (OpenSpec.ofChange fnExactApplyEditWrong)

/-- 'laws.FnExactApplyEdits': WHATEVER THE INPUT: true; the input reads as it did. -/
def fnExactApplyEditsSpec : ChangeSpec := { name := "fnExactApplyEdits", fn := fun _ => fun
  | [d1, d2] => { results := [.lit (.bool true)], args := [d1, d2] }
  | _ => none }
def fnExactApplyEditsRow : OpenClaim := { program := "ytanocllpmjhblaadoor", sum := "657c7245842a55c945df5c6daca191b12c34924e8de6eb9fe082d638e4d1577b", func := "loop.example/g01261/laws.FnExactApplyEdits", spec := "fnExactApplyEdits", inPlace := ["internal/reflectlite.ValueOf", "(internal/reflectlite.Value).Type", "(internal/reflectlite.Value).IsNil", "internal/reflectlite.TypeOf", "(internal/reflectlite.Value).Elem", "(internal/reflectlite.Value).Set"], unfollowed := true, recurses := true, named := ["errors.errorType"], apart := false, laid := [("errors.errorType", laid_errors_errorType)] }
def FnExactApplyEditsSaid : Prop := fnExactApplyEditsRow.holds Tryd.pinned (OpenSpec.ofChange fnExactApplyEditsSpec)

/-- ITS FALSE NEIGHBOUR: 'it returns false'. Refute it at one input. -/
def fnExactApplyEditsWrong : ChangeSpec := { name := "fnExactApplyEdits", fn := fun _ => fun
  | [d1, d2] => { results := [.lit (.bool false)], args := [d1, d2] }
  | _ => none }
def FnExactApplyEditsWrongFalsely : Prop := fnExactApplyEditsRow.holds Tryd.pinned (OpenSpec.ofChange fnExactApplyEditsWrong)

/- THE SECOND FORM. 'bulk': how many values and letters a reading holds, each counted each time it is reached (what is shared counts as often as it is met; a slice's spare places count too). A statement '..UptoSaid' is the law's where the arguments, and the package variables that the reading takes, are together of bulk at most 1048576: NARROWER than '..Said'. Prove '..Said' where nothing that the law and all that it calls make is longer than what came in: it says more and counts as full. Else prove '..UptoSaid'. A law counts once. -/
mutual
def uptoBulk {H : Type} : DataW H → Nat
  | .lit (.string bytes) => bytes.length + 1
  | .lit _ => 1
  | .nil => 1
  | .ptr d => uptoBulk d + 1
  | .slice elems spare => uptoBulkAll elems + uptoBulkAll spare + 1
  | .agg parts => uptoBulkAll parts + 1
  | .iface _ d => uptoBulk d + 1
  | .map entries => uptoBulkEntries entries + 1
  | .held _ => 1
def uptoBulkAll {H : Type} : List (DataW H) → Nat
  | [] => 0
  | d :: r => uptoBulk d + uptoBulkAll r
def uptoBulkEntries {H : Type} : List (Lit × DataW H) → Nat
  | [] => 0
  | x :: r => uptoBulkEntry x + uptoBulkEntries r
def uptoBulkEntry {H : Type} : Lit × DataW H → Nat
  | (.string bytes, d) => bytes.length + uptoBulk d + 1
  | (_, d) => uptoBulk d + 1
 end
def uptoSmall : (H : Type) → List (DataW H) → Bool := fun _ ds => decide (uptoBulkAll ds ≤ 1048576)
def OpenSpec.upto (s : _root_.Go.ChangeSpec) : _root_.Go.OpenSpec := { _root_.Go.OpenSpec.ofChange s with cond := some uptoSmall }

/-- 'laws.FnExactIdleHoles', WHERE WHAT IT READS IS OF BULK AT MOST 1048576: true; the input reads as it did. -/
def fnExactIdleHolesUptoRow : OpenClaim := { program := "ytanocllpmjhblaadoor", sum := "657c7245842a55c945df5c6daca191b12c34924e8de6eb9fe082d638e4d1577b", func := "loop.example/g01261/laws.FnExactIdleHoles", spec := "fnExactIdleHoles", inPlace := ["internal/reflectlite.TypeOf"], unfollowed := true, recurses := true, named := ["loop.example/g01261/impl.errNotValid", "loop.example/g01261/impl.errOutside", "loop.example/g01261/impl.errNotThere"], ifaces := true, apart := false, laid := [("loop.example/g01261/impl.errNotValid", laid_loop_example_g01261_impl_errNotValid), ("loop.example/g01261/impl.errOutside", laid_loop_example_g01261_impl_errOutside), ("loop.example/g01261/impl.errNotThere", laid_loop_example_g01261_impl_errNotThere)], narrowed := true }
def FnExactIdleHolesUptoSaid : Prop := fnExactIdleHolesUptoRow.holds Tryd.pinned (OpenSpec.upto fnExactIdleHolesSpec)

/-- 'laws.FnExactTogetherOf', WHERE WHAT IT READS IS OF BULK AT MOST 1048576: true; the input reads as it did. -/
def fnExactTogetherOfUptoRow : OpenClaim := { program := "ytanocllpmjhblaadoor", sum := "657c7245842a55c945df5c6daca191b12c34924e8de6eb9fe082d638e4d1577b", func := "loop.example/g01261/laws.FnExactTogetherOf", spec := "fnExactTogetherOf", inPlace := ["internal/reflectlite.TypeOf"], unfollowed := true, recurses := true, named := ["loop.example/g01261/impl.errNotValid", "loop.example/g01261/impl.errOutside", "loop.example/g01261/impl.errNotThere"], ifaces := true, apart := false, laid := [("loop.example/g01261/impl.errNotValid", laid_loop_example_g01261_impl_errNotValid), ("loop.example/g01261/impl.errOutside", laid_loop_example_g01261_impl_errOutside), ("loop.example/g01261/impl.errNotThere", laid_loop_example_g01261_impl_errNotThere)], narrowed := true }
def FnExactTogetherOfUptoSaid : Prop := fnExactTogetherOfUptoRow.holds Tryd.pinned (OpenSpec.upto fnExactTogetherOfSpec)

/-- 'laws.FnExactCheckAfter', WHERE WHAT IT READS IS OF BULK AT MOST 1048576: true; the input reads as it did. -/
def fnExactCheckAfterUptoRow : OpenClaim := { program := "ytanocllpmjhblaadoor", sum := "657c7245842a55c945df5c6daca191b12c34924e8de6eb9fe082d638e4d1577b", func := "loop.example/g01261/laws.FnExactCheckAfter", spec := "fnExactCheckAfter", inPlace := ["internal/reflectlite.ValueOf", "(internal/reflectlite.Value).Type", "(internal/reflectlite.Value).IsNil", "internal/reflectlite.TypeOf", "(internal/reflectlite.Value).Elem", "(internal/reflectlite.Value).Set"], unfollowed := true, recurses := true, named := ["errors.errorType"], apart := false, laid := [("errors.errorType", laid_errors_errorType)], narrowed := true }
def FnExactCheckAfterUptoSaid : Prop := fnExactCheckAfterUptoRow.holds Tryd.pinned (OpenSpec.upto fnExactCheckAfterSpec)

/-- 'laws.FnExactApplyEdit', WHERE WHAT IT READS IS OF BULK AT MOST 1048576: true; the input reads as it did. -/
def fnExactApplyEditUptoRow : OpenClaim := { program := "ytanocllpmjhblaadoor", sum := "657c7245842a55c945df5c6daca191b12c34924e8de6eb9fe082d638e4d1577b", func := "loop.example/g01261/laws.FnExactApplyEdit", spec := "fnExactApplyEdit", inPlace := ["internal/reflectlite.ValueOf", "(internal/reflectlite.Value).Type", "(internal/reflectlite.Value).IsNil", "internal/reflectlite.TypeOf", "(internal/reflectlite.Value).Elem", "(internal/reflectlite.Value).Set"], unfollowed := true, recurses := true, named := ["errors.errorType"], apart := false, laid := [("errors.errorType", laid_errors_errorType)], narrowed := true }
def FnExactApplyEditUptoSaid : Prop := fnExactApplyEditUptoRow.holds Tryd.pinned (OpenSpec.upto fnExactApplyEditSpec)

/-- 'laws.FnExactApplyEdits', WHERE WHAT IT READS IS OF BULK AT MOST 1048576: true; the input reads as it did. -/
def fnExactApplyEditsUptoRow : OpenClaim := { program := "ytanocllpmjhblaadoor", sum := "657c7245842a55c945df5c6daca191b12c34924e8de6eb9fe082d638e4d1577b", func := "loop.example/g01261/laws.FnExactApplyEdits", spec := "fnExactApplyEdits", inPlace := ["internal/reflectlite.ValueOf", "(internal/reflectlite.Value).Type", "(internal/reflectlite.Value).IsNil", "internal/reflectlite.TypeOf", "(internal/reflectlite.Value).Elem", "(internal/reflectlite.Value).Set"], unfollowed := true, recurses := true, named := ["errors.errorType"], apart := false, laid := [("errors.errorType", laid_errors_errorType)], narrowed := true }
def FnExactApplyEditsUptoSaid : Prop := fnExactApplyEditsUptoRow.holds Tryd.pinned (OpenSpec.upto fnExactApplyEditsSpec)

end Rows
end Go.Proofs.YtanocllpmjhblaaDoor
