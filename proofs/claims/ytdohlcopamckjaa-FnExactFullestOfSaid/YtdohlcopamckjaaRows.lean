/-
  No cell of these rows narrows 'for every input' (looked for: loops, veiled, ifaces, maps, wideKeys, modest, calm, conditions, laid).
  DERIVED. THE GIVEN ROWS OF THIS SEAT. 12 by the template 'for every input the law returns true; each argument reads behind the call as it read before'; 0 by the template 'total and deterministic' (their statements: YtdohlcopamckjaaTotals.lean).
  GIVEN WITH THE SEED: the statements are not yours to turn. If you find one false, say at which input.
  Laid BY PROGRAM, IN A SANDBOX (cutbox-rows.mjs): the forced cells as the released guide's own fill.sh prints them over the translation 6c7ed5f8d4d0d371… (all of the seat's roots in one cut). By AI agents, Wed Nov 11 2026. No macro, syntax, notation, axiom, sorry.
-/
import Derived.Test.YtdohlcopamckjaaChecked
import GoSem.Claim
import GoSem.ClaimJoined
import GoSem.ClaimMapViews
import Derived.JoinedTies
import Derived.KernelRfl
namespace Go.Proofs.Ytdohlcopamckjaa
/- THE CELL 'sum', in the pinned program and in every row, IS THE sha256 OF THE DUMP (.gsa) THAT YtdohlcopamckjaaProg.lean LOADS. Nothing in Lean hashes anything: it is a label: what it is worth is what the hold of that sum in a sandbox is worth. -/
noncomputable def Try.pinned : Pinned := { name := "ytdohlcopamckjaa", sum := "6c7ed5f8d4d0d371614366dd33fad2ec04360d68fc00773be5f74dd6d4a4515f", checked := Try.checked }
namespace Rows
def none {H : Type} : Left H := { results := [], args := [] }

/-- 'laws.FnExactValidMix': WHATEVER THE INPUT: true; the input reads as it did. -/
def fnExactValidMixSpec : ChangeSpec := { name := "fnExactValidMix", fn := fun _ => fun
  | [d] => { results := [.lit (.bool true)], args := [d] }
  | _ => none }
def fnExactValidMixRow : OpenClaim := { program := "ytdohlcopamckjaa", sum := "6c7ed5f8d4d0d371614366dd33fad2ec04360d68fc00773be5f74dd6d4a4515f", func := "loop.example/g01261/laws.FnExactValidMix", spec := "fnExactValidMix", apart := false }
def FnExactValidMixSaid : Prop := fnExactValidMixRow.holds Try.pinned (OpenSpec.ofChange fnExactValidMixSpec)

/-- ITS FALSE NEIGHBOUR: 'it returns false'. Refute it at one input. -/
def fnExactValidMixWrong : ChangeSpec := { name := "fnExactValidMix", fn := fun _ => fun
  | [d] => { results := [.lit (.bool false)], args := [d] }
  | _ => none }
def FnExactValidMixWrongFalsely : Prop := fnExactValidMixRow.holds Try.pinned (OpenSpec.ofChange fnExactValidMixWrong)

/-- 'laws.FnExactMixPart': WHATEVER THE INPUT: true; the input reads as it did. -/
def fnExactMixPartSpec : ChangeSpec := { name := "fnExactMixPart", fn := fun _ => fun
  | [d] => { results := [.lit (.bool true)], args := [d] }
  | _ => none }
def fnExactMixPartRow : OpenClaim := { program := "ytdohlcopamckjaa", sum := "6c7ed5f8d4d0d371614366dd33fad2ec04360d68fc00773be5f74dd6d4a4515f", func := "loop.example/g01261/laws.FnExactMixPart", spec := "fnExactMixPart", apart := false }
def FnExactMixPartSaid : Prop := fnExactMixPartRow.holds Try.pinned (OpenSpec.ofChange fnExactMixPartSpec)

/-- ITS FALSE NEIGHBOUR: 'it returns false'. Refute it at one input. -/
def fnExactMixPartWrong : ChangeSpec := { name := "fnExactMixPart", fn := fun _ => fun
  | [d] => { results := [.lit (.bool false)], args := [d] }
  | _ => none }
def FnExactMixPartWrongFalsely : Prop := fnExactMixPartRow.holds Try.pinned (OpenSpec.ofChange fnExactMixPartWrong)

/-- 'laws.FnExactWordCheck': WHATEVER THE INPUT: true; the input reads as it did. -/
def fnExactWordCheckSpec : ChangeSpec := { name := "fnExactWordCheck", fn := fun _ => fun
  | [d] => { results := [.lit (.bool true)], args := [d] }
  | _ => none }
def fnExactWordCheckRow : OpenClaim := { program := "ytdohlcopamckjaa", sum := "6c7ed5f8d4d0d371614366dd33fad2ec04360d68fc00773be5f74dd6d4a4515f", func := "loop.example/g01261/laws.FnExactWordCheck", spec := "fnExactWordCheck", apart := false }
def FnExactWordCheckSaid : Prop := fnExactWordCheckRow.holds Try.pinned (OpenSpec.ofChange fnExactWordCheckSpec)

/-- ITS FALSE NEIGHBOUR: 'it returns false'. Refute it at one input. -/
def fnExactWordCheckWrong : ChangeSpec := { name := "fnExactWordCheck", fn := fun _ => fun
  | [d] => { results := [.lit (.bool false)], args := [d] }
  | _ => none }
def FnExactWordCheckWrongFalsely : Prop := fnExactWordCheckRow.holds Try.pinned (OpenSpec.ofChange fnExactWordCheckWrong)

/-- 'laws.FnExactWordHoles': WHATEVER THE INPUT: true; the input reads as it did. -/
def fnExactWordHolesSpec : ChangeSpec := { name := "fnExactWordHoles", fn := fun _ => fun
  | [d1, d2] => { results := [.lit (.bool true)], args := [d1, d2] }
  | _ => none }
def fnExactWordHolesRow : OpenClaim := { program := "ytdohlcopamckjaa", sum := "6c7ed5f8d4d0d371614366dd33fad2ec04360d68fc00773be5f74dd6d4a4515f", func := "loop.example/g01261/laws.FnExactWordHoles", spec := "fnExactWordHoles", apart := false }
def FnExactWordHolesSaid : Prop := fnExactWordHolesRow.holds Try.pinned (OpenSpec.ofChange fnExactWordHolesSpec)

/-- ITS FALSE NEIGHBOUR: 'it returns false'. Refute it at one input. -/
def fnExactWordHolesWrong : ChangeSpec := { name := "fnExactWordHoles", fn := fun _ => fun
  | [d1, d2] => { results := [.lit (.bool false)], args := [d1, d2] }
  | _ => none }
def FnExactWordHolesWrongFalsely : Prop := fnExactWordHolesRow.holds Try.pinned (OpenSpec.ofChange fnExactWordHolesWrong)

/-- 'laws.FnExactAddWords': WHATEVER THE INPUT: true; the input reads as it did. -/
def fnExactAddWordsSpec : ChangeSpec := { name := "fnExactAddWords", fn := fun _ => fun
  | [d1, d2, d3] => { results := [.lit (.bool true)], args := [d1, d2, d3] }
  | _ => none }
def fnExactAddWordsRow : OpenClaim := { program := "ytdohlcopamckjaa", sum := "6c7ed5f8d4d0d371614366dd33fad2ec04360d68fc00773be5f74dd6d4a4515f", func := "loop.example/g01261/laws.FnExactAddWords", spec := "fnExactAddWords", apart := false }
def FnExactAddWordsSaid : Prop := fnExactAddWordsRow.holds Try.pinned (OpenSpec.ofChange fnExactAddWordsSpec)

/-- ITS FALSE NEIGHBOUR: 'it returns false'. Refute it at one input. -/
def fnExactAddWordsWrong : ChangeSpec := { name := "fnExactAddWords", fn := fun _ => fun
  | [d1, d2, d3] => { results := [.lit (.bool false)], args := [d1, d2, d3] }
  | _ => none }
def FnExactAddWordsWrongFalsely : Prop := fnExactAddWordsRow.holds Try.pinned (OpenSpec.ofChange fnExactAddWordsWrong)

/-- 'laws.FnExactNeedlesFor': WHATEVER THE INPUT: true; the input reads as it did. -/
def fnExactNeedlesForSpec : ChangeSpec := { name := "fnExactNeedlesFor", fn := fun _ => fun
  | [d1, d2] => { results := [.lit (.bool true)], args := [d1, d2] }
  | _ => none }
def fnExactNeedlesForRow : OpenClaim := { program := "ytdohlcopamckjaa", sum := "6c7ed5f8d4d0d371614366dd33fad2ec04360d68fc00773be5f74dd6d4a4515f", func := "loop.example/g01261/laws.FnExactNeedlesFor", spec := "fnExactNeedlesFor", apart := false }
def FnExactNeedlesForSaid : Prop := fnExactNeedlesForRow.holds Try.pinned (OpenSpec.ofChange fnExactNeedlesForSpec)

/-- ITS FALSE NEIGHBOUR: 'it returns false'. Refute it at one input. -/
def fnExactNeedlesForWrong : ChangeSpec := { name := "fnExactNeedlesFor", fn := fun _ => fun
  | [d1, d2] => { results := [.lit (.bool false)], args := [d1, d2] }
  | _ => none }
def FnExactNeedlesForWrongFalsely : Prop := fnExactNeedlesForRow.holds Try.pinned (OpenSpec.ofChange fnExactNeedlesForWrong)

/-- 'laws.FnExactDrops': WHATEVER THE INPUT: true; the input reads as it did. -/
def fnExactDropsSpec : ChangeSpec := { name := "fnExactDrops", fn := fun _ => fun
  | [d1, d2, d3] => { results := [.lit (.bool true)], args := [d1, d2, d3] }
  | _ => none }
def fnExactDropsRow : OpenClaim := { program := "ytdohlcopamckjaa", sum := "6c7ed5f8d4d0d371614366dd33fad2ec04360d68fc00773be5f74dd6d4a4515f", func := "loop.example/g01261/laws.FnExactDrops", spec := "fnExactDrops", unfollowed := true, recurses := true, apart := false }
def FnExactDropsSaid : Prop := fnExactDropsRow.holds Try.pinned (OpenSpec.ofChange fnExactDropsSpec)

/-- ITS FALSE NEIGHBOUR: 'it returns false'. Refute it at one input. -/
def fnExactDropsWrong : ChangeSpec := { name := "fnExactDrops", fn := fun _ => fun
  | [d1, d2, d3] => { results := [.lit (.bool false)], args := [d1, d2, d3] }
  | _ => none }
def FnExactDropsWrongFalsely : Prop := fnExactDropsRow.holds Try.pinned (OpenSpec.ofChange fnExactDropsWrong)

/-- 'laws.FnExactDroppedOf': WHATEVER THE INPUT: true; the input reads as it did. -/
def fnExactDroppedOfSpec : ChangeSpec := { name := "fnExactDroppedOf", fn := fun _ => fun
  | [d1, d2, d3] => { results := [.lit (.bool true)], args := [d1, d2, d3] }
  | _ => none }
def fnExactDroppedOfRow : OpenClaim := { program := "ytdohlcopamckjaa", sum := "6c7ed5f8d4d0d371614366dd33fad2ec04360d68fc00773be5f74dd6d4a4515f", func := "loop.example/g01261/laws.FnExactDroppedOf", spec := "fnExactDroppedOf", unfollowed := true, recurses := true, apart := false }
def FnExactDroppedOfSaid : Prop := fnExactDroppedOfRow.holds Try.pinned (OpenSpec.ofChange fnExactDroppedOfSpec)

/-- ITS FALSE NEIGHBOUR: 'it returns false'. Refute it at one input. -/
def fnExactDroppedOfWrong : ChangeSpec := { name := "fnExactDroppedOf", fn := fun _ => fun
  | [d1, d2, d3] => { results := [.lit (.bool false)], args := [d1, d2, d3] }
  | _ => none }
def FnExactDroppedOfWrongFalsely : Prop := fnExactDroppedOfRow.holds Try.pinned (OpenSpec.ofChange fnExactDroppedOfWrong)

/-- 'laws.FnExactFullestOf': WHATEVER THE INPUT: true; the input reads as it did. -/
def fnExactFullestOfSpec : ChangeSpec := { name := "fnExactFullestOf", fn := fun _ => fun
  | [d1, d2] => { results := [.lit (.bool true)], args := [d1, d2] }
  | _ => none }
def fnExactFullestOfRow : OpenClaim := { program := "ytdohlcopamckjaa", sum := "6c7ed5f8d4d0d371614366dd33fad2ec04360d68fc00773be5f74dd6d4a4515f", func := "loop.example/g01261/laws.FnExactFullestOf", spec := "fnExactFullestOf", apart := false }
def FnExactFullestOfSaid : Prop := fnExactFullestOfRow.holds Try.pinned (OpenSpec.ofChange fnExactFullestOfSpec)

/-- ITS FALSE NEIGHBOUR: 'it returns false'. Refute it at one input. -/
def fnExactFullestOfWrong : ChangeSpec := { name := "fnExactFullestOf", fn := fun _ => fun
  | [d1, d2] => { results := [.lit (.bool false)], args := [d1, d2] }
  | _ => none }
def FnExactFullestOfWrongFalsely : Prop := fnExactFullestOfRow.holds Try.pinned (OpenSpec.ofChange fnExactFullestOfWrong)

/-- 'laws.FnExactMaybeWords': WHATEVER THE INPUT: true; the input reads as it did. -/
def fnExactMaybeWordsSpec : ChangeSpec := { name := "fnExactMaybeWords", fn := fun _ => fun
  | [d1, d2, d3] => { results := [.lit (.bool true)], args := [d1, d2, d3] }
  | _ => none }
def fnExactMaybeWordsRow : OpenClaim := { program := "ytdohlcopamckjaa", sum := "6c7ed5f8d4d0d371614366dd33fad2ec04360d68fc00773be5f74dd6d4a4515f", func := "loop.example/g01261/laws.FnExactMaybeWords", spec := "fnExactMaybeWords", apart := false }
def FnExactMaybeWordsSaid : Prop := fnExactMaybeWordsRow.holds Try.pinned (OpenSpec.ofChange fnExactMaybeWordsSpec)

/-- ITS FALSE NEIGHBOUR: 'it returns false'. Refute it at one input. -/
def fnExactMaybeWordsWrong : ChangeSpec := { name := "fnExactMaybeWords", fn := fun _ => fun
  | [d1, d2, d3] => { results := [.lit (.bool false)], args := [d1, d2, d3] }
  | _ => none }
def FnExactMaybeWordsWrongFalsely : Prop := fnExactMaybeWordsRow.holds Try.pinned (OpenSpec.ofChange fnExactMaybeWordsWrong)

/-- 'laws.FnExactSureWords': WHATEVER THE INPUT: true; the input reads as it did. -/
def fnExactSureWordsSpec : ChangeSpec := { name := "fnExactSureWords", fn := fun _ => fun
  | [d1, d2, d3] => { results := [.lit (.bool true)], args := [d1, d2, d3] }
  | _ => none }
def fnExactSureWordsRow : OpenClaim := { program := "ytdohlcopamckjaa", sum := "6c7ed5f8d4d0d371614366dd33fad2ec04360d68fc00773be5f74dd6d4a4515f", func := "loop.example/g01261/laws.FnExactSureWords", spec := "fnExactSureWords", apart := false }
def FnExactSureWordsSaid : Prop := fnExactSureWordsRow.holds Try.pinned (OpenSpec.ofChange fnExactSureWordsSpec)

/-- ITS FALSE NEIGHBOUR: 'it returns false'. Refute it at one input. -/
def fnExactSureWordsWrong : ChangeSpec := { name := "fnExactSureWords", fn := fun _ => fun
  | [d1, d2, d3] => { results := [.lit (.bool false)], args := [d1, d2, d3] }
  | _ => none }
def FnExactSureWordsWrongFalsely : Prop := fnExactSureWordsRow.holds Try.pinned (OpenSpec.ofChange fnExactSureWordsWrong)

/-- 'laws.FnExactMixLot': WHATEVER THE INPUT: true; the input reads as it did. -/
def fnExactMixLotSpec : ChangeSpec := { name := "fnExactMixLot", fn := fun _ => fun
  | [d1, d2] => { results := [.lit (.bool true)], args := [d1, d2] }
  | _ => none }
def fnExactMixLotRow : OpenClaim := { program := "ytdohlcopamckjaa", sum := "6c7ed5f8d4d0d371614366dd33fad2ec04360d68fc00773be5f74dd6d4a4515f", func := "loop.example/g01261/laws.FnExactMixLot", spec := "fnExactMixLot", apart := false }
def FnExactMixLotSaid : Prop := fnExactMixLotRow.holds Try.pinned (OpenSpec.ofChange fnExactMixLotSpec)

/-- ITS FALSE NEIGHBOUR: 'it returns false'. Refute it at one input. -/
def fnExactMixLotWrong : ChangeSpec := { name := "fnExactMixLot", fn := fun _ => fun
  | [d1, d2] => { results := [.lit (.bool false)], args := [d1, d2] }
  | _ => none }
def FnExactMixLotWrongFalsely : Prop := fnExactMixLotRow.holds Try.pinned (OpenSpec.ofChange fnExactMixLotWrong)

/- THE SECOND FORM. 'bulk': how many values and letters a reading holds, each counted each time it is reached (what is shared counts as often as it is met; a slice's spare places count too). A statement '..UptoSaid' is the law's where the arguments, and the package variables that the reading takes, are together of bulk at most 1048576: NARROWER than '..Said'. Prove '..Said' where nothing that the law and all that it calls make is longer than what came in: it says more and counts as full. Else prove '..UptoSaid'. A law counts once. -/
mutual
def uptoBulk {H : Type} : DataW H → Nat
  | .lit (.string bytes) => bytes.length + 1
  | .lit _ => 1
  | .nil => 1
  | .ptr d => uptoBulk d + 1
  | .slice elems spare => uptoBulkAll elems + uptoBulkAll spare + 1
  | .agg parts => uptoBulkAll parts + 1
  | .iface _ d => uptoBulk d + 1
  | .map entries => uptoBulkEntries entries + 1
  | .held _ => 1
def uptoBulkAll {H : Type} : List (DataW H) → Nat
  | [] => 0
  | d :: r => uptoBulk d + uptoBulkAll r
def uptoBulkEntries {H : Type} : List (Lit × DataW H) → Nat
  | [] => 0
  | x :: r => uptoBulkEntry x + uptoBulkEntries r
def uptoBulkEntry {H : Type} : Lit × DataW H → Nat
  | (.string bytes, d) => bytes.length + uptoBulk d + 1
  | (_, d) => uptoBulk d + 1
 end
def uptoSmall : (H : Type) → List (DataW H) → Bool := fun _ ds => decide (uptoBulkAll ds ≤ 1048576)
def OpenSpec.upto (s : _root_.Go.ChangeSpec) : _root_.Go.OpenSpec := { _root_.Go.OpenSpec.ofChange s with cond := some uptoSmall }

/-- 'laws.FnExactValidMix', WHERE WHAT IT READS IS OF BULK AT MOST 1048576: true; the input reads as it did. -/
def fnExactValidMixUptoRow : OpenClaim := { program := "ytdohlcopamckjaa", sum := "6c7ed5f8d4d0d371614366dd33fad2ec04360d68fc00773be5f74dd6d4a4515f", func := "loop.example/g01261/laws.FnExactValidMix", spec := "fnExactValidMix", apart := false, narrowed := true }
def FnExactValidMixUptoSaid : Prop := fnExactValidMixUptoRow.holds Try.pinned (OpenSpec.upto fnExactValidMixSpec)

/-- 'laws.FnExactMixPart', WHERE WHAT IT READS IS OF BULK AT MOST 1048576: true; the input reads as it did. -/
def fnExactMixPartUptoRow : OpenClaim := { program := "ytdohlcopamckjaa", sum := "6c7ed5f8d4d0d371614366dd33fad2ec04360d68fc00773be5f74dd6d4a4515f", func := "loop.example/g01261/laws.FnExactMixPart", spec := "fnExactMixPart", apart := false, narrowed := true }
def FnExactMixPartUptoSaid : Prop := fnExactMixPartUptoRow.holds Try.pinned (OpenSpec.upto fnExactMixPartSpec)

/-- 'laws.FnExactWordCheck', WHERE WHAT IT READS IS OF BULK AT MOST 1048576: true; the input reads as it did. -/
def fnExactWordCheckUptoRow : OpenClaim := { program := "ytdohlcopamckjaa", sum := "6c7ed5f8d4d0d371614366dd33fad2ec04360d68fc00773be5f74dd6d4a4515f", func := "loop.example/g01261/laws.FnExactWordCheck", spec := "fnExactWordCheck", apart := false, narrowed := true }
def FnExactWordCheckUptoSaid : Prop := fnExactWordCheckUptoRow.holds Try.pinned (OpenSpec.upto fnExactWordCheckSpec)

/-- 'laws.FnExactWordHoles', WHERE WHAT IT READS IS OF BULK AT MOST 1048576: true; the input reads as it did. -/
def fnExactWordHolesUptoRow : OpenClaim := { program := "ytdohlcopamckjaa", sum := "6c7ed5f8d4d0d371614366dd33fad2ec04360d68fc00773be5f74dd6d4a4515f", func := "loop.example/g01261/laws.FnExactWordHoles", spec := "fnExactWordHoles", apart := false, narrowed := true }
def FnExactWordHolesUptoSaid : Prop := fnExactWordHolesUptoRow.holds Try.pinned (OpenSpec.upto fnExactWordHolesSpec)

/-- 'laws.FnExactAddWords', WHERE WHAT IT READS IS OF BULK AT MOST 1048576: true; the input reads as it did. -/
def fnExactAddWordsUptoRow : OpenClaim := { program := "ytdohlcopamckjaa", sum := "6c7ed5f8d4d0d371614366dd33fad2ec04360d68fc00773be5f74dd6d4a4515f", func := "loop.example/g01261/laws.FnExactAddWords", spec := "fnExactAddWords", apart := false, narrowed := true }
def FnExactAddWordsUptoSaid : Prop := fnExactAddWordsUptoRow.holds Try.pinned (OpenSpec.upto fnExactAddWordsSpec)

/-- 'laws.FnExactNeedlesFor', WHERE WHAT IT READS IS OF BULK AT MOST 1048576: true; the input reads as it did. -/
def fnExactNeedlesForUptoRow : OpenClaim := { program := "ytdohlcopamckjaa", sum := "6c7ed5f8d4d0d371614366dd33fad2ec04360d68fc00773be5f74dd6d4a4515f", func := "loop.example/g01261/laws.FnExactNeedlesFor", spec := "fnExactNeedlesFor", apart := false, narrowed := true }
def FnExactNeedlesForUptoSaid : Prop := fnExactNeedlesForUptoRow.holds Try.pinned (OpenSpec.upto fnExactNeedlesForSpec)

/-- 'laws.FnExactDrops', WHERE WHAT IT READS IS OF BULK AT MOST 1048576: true; the input reads as it did. -/
def fnExactDropsUptoRow : OpenClaim := { program := "ytdohlcopamckjaa", sum := "6c7ed5f8d4d0d371614366dd33fad2ec04360d68fc00773be5f74dd6d4a4515f", func := "loop.example/g01261/laws.FnExactDrops", spec := "fnExactDrops", unfollowed := true, recurses := true, apart := false, narrowed := true }
def FnExactDropsUptoSaid : Prop := fnExactDropsUptoRow.holds Try.pinned (OpenSpec.upto fnExactDropsSpec)

/-- 'laws.FnExactDroppedOf', WHERE WHAT IT READS IS OF BULK AT MOST 1048576: true; the input reads as it did. -/
def fnExactDroppedOfUptoRow : OpenClaim := { program := "ytdohlcopamckjaa", sum := "6c7ed5f8d4d0d371614366dd33fad2ec04360d68fc00773be5f74dd6d4a4515f", func := "loop.example/g01261/laws.FnExactDroppedOf", spec := "fnExactDroppedOf", unfollowed := true, recurses := true, apart := false, narrowed := true }
def FnExactDroppedOfUptoSaid : Prop := fnExactDroppedOfUptoRow.holds Try.pinned (OpenSpec.upto fnExactDroppedOfSpec)

/-- 'laws.FnExactFullestOf', WHERE WHAT IT READS IS OF BULK AT MOST 1048576: true; the input reads as it did. -/
def fnExactFullestOfUptoRow : OpenClaim := { program := "ytdohlcopamckjaa", sum := "6c7ed5f8d4d0d371614366dd33fad2ec04360d68fc00773be5f74dd6d4a4515f", func := "loop.example/g01261/laws.FnExactFullestOf", spec := "fnExactFullestOf", apart := false, narrowed := true }
def FnExactFullestOfUptoSaid : Prop := fnExactFullestOfUptoRow.holds Try.pinned (OpenSpec.upto fnExactFullestOfSpec)

/-- 'laws.FnExactMaybeWords', WHERE WHAT IT READS IS OF BULK AT MOST 1048576: true; the input reads as it did. -/
def fnExactMaybeWordsUptoRow : OpenClaim := { program := "ytdohlcopamckjaa", sum := "6c7ed5f8d4d0d371614366dd33fad2ec04360d68fc00773be5f74dd6d4a4515f", func := "loop.example/g01261/laws.FnExactMaybeWords", spec := "fnExactMaybeWords", apart := false, narrowed := true }
def FnExactMaybeWordsUptoSaid : Prop := fnExactMaybeWordsUptoRow.holds Try.pinned (OpenSpec.upto fnExactMaybeWordsSpec)

/-- 'laws.FnExactSureWords', WHERE WHAT IT READS IS OF BULK AT MOST 1048576: true; the input reads as it did. -/
def fnExactSureWordsUptoRow : OpenClaim := { program := "ytdohlcopamckjaa", sum := "6c7ed5f8d4d0d371614366dd33fad2ec04360d68fc00773be5f74dd6d4a4515f", func := "loop.example/g01261/laws.FnExactSureWords", spec := "fnExactSureWords", apart := false, narrowed := true }
def FnExactSureWordsUptoSaid : Prop := fnExactSureWordsUptoRow.holds Try.pinned (OpenSpec.upto fnExactSureWordsSpec)

/-- 'laws.FnExactMixLot', WHERE WHAT IT READS IS OF BULK AT MOST 1048576: true; the input reads as it did. -/
def fnExactMixLotUptoRow : OpenClaim := { program := "ytdohlcopamckjaa", sum := "6c7ed5f8d4d0d371614366dd33fad2ec04360d68fc00773be5f74dd6d4a4515f", func := "loop.example/g01261/laws.FnExactMixLot", spec := "fnExactMixLot", apart := false, narrowed := true }
def FnExactMixLotUptoSaid : Prop := fnExactMixLotUptoRow.holds Try.pinned (OpenSpec.upto fnExactMixLotSpec)

end Rows
end Go.Proofs.Ytdohlcopamckjaa
