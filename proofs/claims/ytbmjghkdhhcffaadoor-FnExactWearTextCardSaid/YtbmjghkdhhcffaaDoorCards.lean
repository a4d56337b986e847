/-
  DERIVED. GIVEN WITH THE SEED: THE CARDS: each row of YtbmjghkdhhcffaaDoorRows.lean that lists a variable, with what it lists TIED to the program's text (the seventh form; the later family's looks); each row that meets fmt, with fmt's text TOLD by the authors' own Lean function (tested against real Go, not proved from fmt's source: count such statements apart). THE CARD IS WHAT COUNTS. Prove the row's statement (the work); the ties are given (YtbmjghkdhhcffaaDoorTie.lean); close each card by the builder's one call (the guide's Derived/Test/ToyasCard.lean, 'card_holds'). Laid BY PROGRAM, IN A SANDBOX (cutbox-door.mjs). By AI agents, Wed Nov 11 2026. No macro, syntax, notation, axiom, sorry.
-/
import Derived.Test.YtbmjghkdhhcffaaDoorRows
import GoSem.ClaimSeven
namespace Go.Proofs.YtbmjghkdhhcffaaDoor
namespace Rows

/-- THE TIED CARD OF 'laws.FnExactMergeThree'. -/
def fnExactMergeThreeCard : Claim7 := { stood := { row := fnExactMergeThreeRow, standIns := [], harness := (true, "bcfd4b054b7f6768531d00bdea645919868201cd6f2ebb148f885a71aaae5d16"), looks := true }, kinds := [], alts := [], laidByText := true, laidKinds := [.handle], laidTests := true, laidLooks := .later }
def FnExactMergeThreeCardSaid : Prop := Claim7.holds Tryd.pinned (.plain (OpenSpec.ofChange fnExactMergeThreeSpec)) fnExactMergeThreeCard

/-- THE TIED CARD OF 'laws.FnExactCompareNames'. -/
def fnExactCompareNamesCard : Claim7 := { stood := { row := fnExactCompareNamesRow, standIns := [], harness := (true, "bcfd4b054b7f6768531d00bdea645919868201cd6f2ebb148f885a71aaae5d16"), looks := true }, kinds := [], alts := [], laidByText := true, laidKinds := [.data, .pinned], laidTests := true, laidLooks := .later }
def FnExactCompareNamesCardSaid : Prop := Claim7.holds Tryd.pinned (.plain (OpenSpec.ofChange fnExactCompareNamesSpec)) fnExactCompareNamesCard

/-- THE TIED CARD OF 'laws.FnExactWearText'. -/
def fnExactWearTextCard : Claim7 := { stood := { row := fnExactWearTextRow, standIns := [], harness := (true, "bcfd4b054b7f6768531d00bdea645919868201cd6f2ebb148f885a71aaae5d16"), looks := true }, kinds := [], alts := [], laidByText := true, laidKinds := [.data, .data, .data], laidTests := true, laidLooks := .later }
def FnExactWearTextCardSaid : Prop := Claim7.holds Tryd.pinned (.plain (OpenSpec.ofChange fnExactWearTextSpec)) fnExactWearTextCard

/-- THE TIED CARD OF 'laws.FnExactWalkTree'. -/
def fnExactWalkTreeCard : Claim7 := { stood := { row := fnExactWalkTreeRow, standIns := [], harness := (true, "bcfd4b054b7f6768531d00bdea645919868201cd6f2ebb148f885a71aaae5d16"), looks := true }, kinds := [], alts := [], laidByText := true, laidKinds := [.sentinel, .sentinel, .sentinel], laidTests := true, laidLooks := .later }
def FnExactWalkTreeCardSaid : Prop := Claim7.holds Tryd.pinned (.plain (OpenSpec.ofChange fnExactWalkTreeSpec)) fnExactWalkTreeCard

/-- THE SECOND FORM's CARD OF 'laws.FnExactMergeThree'. -/
def fnExactMergeThreeUptoCard : Claim7 := { stood := { row := fnExactMergeThreeUptoRow, standIns := [], harness := (true, "bcfd4b054b7f6768531d00bdea645919868201cd6f2ebb148f885a71aaae5d16"), looks := true }, kinds := [], alts := [], laidByText := true, laidKinds := [.handle], laidTests := true, laidLooks := .later }
def FnExactMergeThreeUptoCardSaid : Prop := Claim7.holds Tryd.pinned (.plain (OpenSpec.upto fnExactMergeThreeSpec)) fnExactMergeThreeUptoCard

/-- THE SECOND FORM's CARD OF 'laws.FnExactCompareNames'. -/
def fnExactCompareNamesUptoCard : Claim7 := { stood := { row := fnExactCompareNamesUptoRow, standIns := [], harness := (true, "bcfd4b054b7f6768531d00bdea645919868201cd6f2ebb148f885a71aaae5d16"), looks := true }, kinds := [], alts := [], laidByText := true, laidKinds := [.data, .pinned], laidTests := true, laidLooks := .later }
def FnExactCompareNamesUptoCardSaid : Prop := Claim7.holds Tryd.pinned (.plain (OpenSpec.upto fnExactCompareNamesSpec)) fnExactCompareNamesUptoCard

/-- THE SECOND FORM's CARD OF 'laws.FnExactWearText'. -/
def fnExactWearTextUptoCard : Claim7 := { stood := { row := fnExactWearTextUptoRow, standIns := [], harness := (true, "bcfd4b054b7f6768531d00bdea645919868201cd6f2ebb148f885a71aaae5d16"), looks := true }, kinds := [], alts := [], laidByText := true, laidKinds := [.data, .data, .data], laidTests := true, laidLooks := .later }
def FnExactWearTextUptoCardSaid : Prop := Claim7.holds Tryd.pinned (.plain (OpenSpec.upto fnExactWearTextSpec)) fnExactWearTextUptoCard

/-- THE SECOND FORM's CARD OF 'laws.FnExactWalkTree'. -/
def fnExactWalkTreeUptoCard : Claim7 := { stood := { row := fnExactWalkTreeUptoRow, standIns := [], harness := (true, "bcfd4b054b7f6768531d00bdea645919868201cd6f2ebb148f885a71aaae5d16"), looks := true }, kinds := [], alts := [], laidByText := true, laidKinds := [.sentinel, .sentinel, .sentinel], laidTests := true, laidLooks := .later }
def FnExactWalkTreeUptoCardSaid : Prop := Claim7.holds Tryd.pinned (.plain (OpenSpec.upto fnExactWalkTreeSpec)) fnExactWalkTreeUptoCard
end Rows
end Go.Proofs.YtbmjghkdhhcffaaDoor
