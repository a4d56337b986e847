/-
  DERIVED. GIVEN WITH THE SEED: THE CARDS: each row of YtcbcggnpbjcdfabDoorRows.lean that lists a variable, with what it lists TIED to the program's text (the seventh form; the later family's looks); each row that meets fmt, with fmt's text TOLD by the authors' own Lean function (tested against real Go, not proved from fmt's source: count such statements apart). THE CARD IS WHAT COUNTS. Prove the row's statement (the work); the ties are given (YtcbcggnpbjcdfabDoorTie.lean); close each card by the builder's one call (the guide's Derived/Test/ToyasCard.lean, 'card_holds'). Laid BY PROGRAM, IN A SANDBOX (cutbox-door.mjs). By AI agents, Wed Nov 11 2026. No macro, syntax, notation, axiom, sorry.
-/
import Derived.Test.YtcbcggnpbjcdfabDoorRows
import GoSem.ClaimSeven
namespace Go.Proofs.YtcbcggnpbjcdfabDoor
namespace Rows

/-- THE TIED CARD OF 'laws.FnExactPutBelow'. -/
def fnExactPutBelowCard : Claim7 := { stood := { row := fnExactPutBelowRow, standIns := [], harness := (true, "be3faacc7d01a2b5d30d06d29aff964762ec544bc49b6a84ac8f42f1642eac8b"), looks := true }, kinds := [], alts := [], laidByText := true, laidKinds := [.data, .pinned], laidTests := true, laidLooks := .later }
def FnExactPutBelowCardSaid : Prop := Claim7.holds Tryd.pinned (.plain (OpenSpec.ofChange fnExactPutBelowSpec)) fnExactPutBelowCard

/-- THE TIED CARD OF 'laws.FnExactMergeEntries'. -/
def fnExactMergeEntriesCard : Claim7 := { stood := { row := fnExactMergeEntriesRow, standIns := [], harness := (true, "be3faacc7d01a2b5d30d06d29aff964762ec544bc49b6a84ac8f42f1642eac8b"), looks := true }, kinds := [], alts := [], laidByText := true, laidKinds := [.data, .pinned], laidTests := true, laidLooks := .later }
def FnExactMergeEntriesCardSaid : Prop := Claim7.holds Tryd.pinned (.plain (OpenSpec.ofChange fnExactMergeEntriesSpec)) fnExactMergeEntriesCard

/-- THE TIED CARD OF 'laws.FnExactCompareNames'. -/
def fnExactCompareNamesCard : Claim7 := { stood := { row := fnExactCompareNamesRow, standIns := [], harness := (true, "be3faacc7d01a2b5d30d06d29aff964762ec544bc49b6a84ac8f42f1642eac8b"), looks := true }, kinds := [], alts := [], laidByText := true, laidKinds := [.data, .pinned], laidTests := true, laidLooks := .later }
def FnExactCompareNamesCardSaid : Prop := Claim7.holds Tryd.pinned (.plain (OpenSpec.ofChange fnExactCompareNamesSpec)) fnExactCompareNamesCard

/-- THE TIED CARD OF 'laws.FnExactFileOrder'. -/
def fnExactFileOrderCard : Claim7 := { stood := { row := fnExactFileOrderRow, standIns := [], harness := (true, "be3faacc7d01a2b5d30d06d29aff964762ec544bc49b6a84ac8f42f1642eac8b"), looks := true }, kinds := [], alts := [], laidByText := true, laidKinds := [.data, .pinned], laidTests := true, laidLooks := .later }
def FnExactFileOrderCardSaid : Prop := Claim7.holds Tryd.pinned (.plain (OpenSpec.ofChange fnExactFileOrderSpec)) fnExactFileOrderCard

/-- THE TIED CARD OF 'laws.FnExactGuidesFor'. -/
def fnExactGuidesForCard : Claim7 := { stood := { row := fnExactGuidesForRow, standIns := [], harness := (true, "be3faacc7d01a2b5d30d06d29aff964762ec544bc49b6a84ac8f42f1642eac8b"), looks := true }, kinds := [], alts := [], laidByText := true, laidKinds := [.data, .pinned], laidTests := true, laidLooks := .later }
def FnExactGuidesForCardSaid : Prop := Claim7.holds Tryd.pinned (.plain (OpenSpec.ofChange fnExactGuidesForSpec)) fnExactGuidesForCard

/-- THE TIED CARD OF 'laws.FnExactDrawerOf'. -/
def fnExactDrawerOfCard : Claim7 := { stood := { row := fnExactDrawerOfRow, standIns := [], harness := (true, "be3faacc7d01a2b5d30d06d29aff964762ec544bc49b6a84ac8f42f1642eac8b"), looks := true }, kinds := [], alts := [], laidByText := true, laidKinds := [.data, .pinned], laidTests := true, laidLooks := .later }
def FnExactDrawerOfCardSaid : Prop := Claim7.holds Tryd.pinned (.plain (OpenSpec.ofChange fnExactDrawerOfSpec)) fnExactDrawerOfCard

/-- THE TIED CARD OF 'laws.FnExactCatalogueText'. -/
def fnExactCatalogueTextCard : Claim7 := { stood := { row := fnExactCatalogueTextRow, standIns := [], harness := (true, "be3faacc7d01a2b5d30d06d29aff964762ec544bc49b6a84ac8f42f1642eac8b"), looks := true }, kinds := [], alts := [], laidByText := true, laidKinds := [.data, .pinned], laidTests := true, laidLooks := .later }
def FnExactCatalogueTextCardSaid : Prop := Claim7.holds Tryd.pinned (.plain (OpenSpec.ofChange fnExactCatalogueTextSpec)) fnExactCatalogueTextCard

/-- THE TIED CARD OF 'laws.FnExactReadCatalogue'. -/
def fnExactReadCatalogueCard : Claim7 := { stood := { row := fnExactReadCatalogueRow, standIns := [], harness := (true, "be3faacc7d01a2b5d30d06d29aff964762ec544bc49b6a84ac8f42f1642eac8b"), looks := true }, kinds := [], alts := [], laidByText := true, laidKinds := [.data, .pinned], laidTests := true, laidLooks := .later }
def FnExactReadCatalogueCardSaid : Prop := Claim7.holds Tryd.pinned (.plain (OpenSpec.ofChange fnExactReadCatalogueSpec)) fnExactReadCatalogueCard

/-- THE TIED CARD OF 'laws.FnMerged'. -/
def fnMergedCard : Claim7 := { stood := { row := fnMergedRow, standIns := [], harness := (true, "be3faacc7d01a2b5d30d06d29aff964762ec544bc49b6a84ac8f42f1642eac8b"), looks := true }, kinds := [], alts := [], laidByText := true, laidKinds := [.data, .pinned], laidTests := true, laidLooks := .later }
def FnMergedCardSaid : Prop := Claim7.holds Tryd.pinned (.plain (OpenSpec.ofChange fnMergedSpec)) fnMergedCard

/-- THE TIED CARD OF 'laws.FnFiled'. -/
def fnFiledCard : Claim7 := { stood := { row := fnFiledRow, standIns := [], harness := (true, "be3faacc7d01a2b5d30d06d29aff964762ec544bc49b6a84ac8f42f1642eac8b"), looks := true }, kinds := [], alts := [], laidByText := true, laidKinds := [.data, .pinned], laidTests := true, laidLooks := .later }
def FnFiledCardSaid : Prop := Claim7.holds Tryd.pinned (.plain (OpenSpec.ofChange fnFiledSpec)) fnFiledCard

/-- THE SECOND FORM's CARD OF 'laws.FnExactPutBelow'. -/
def fnExactPutBelowUptoCard : Claim7 := { stood := { row := fnExactPutBelowUptoRow, standIns := [], harness := (true, "be3faacc7d01a2b5d30d06d29aff964762ec544bc49b6a84ac8f42f1642eac8b"), looks := true }, kinds := [], alts := [], laidByText := true, laidKinds := [.data, .pinned], laidTests := true, laidLooks := .later }
def FnExactPutBelowUptoCardSaid : Prop := Claim7.holds Tryd.pinned (.plain (OpenSpec.upto fnExactPutBelowSpec)) fnExactPutBelowUptoCard

/-- THE SECOND FORM's CARD OF 'laws.FnExactMergeEntries'. -/
def fnExactMergeEntriesUptoCard : Claim7 := { stood := { row := fnExactMergeEntriesUptoRow, standIns := [], harness := (true, "be3faacc7d01a2b5d30d06d29aff964762ec544bc49b6a84ac8f42f1642eac8b"), looks := true }, kinds := [], alts := [], laidByText := true, laidKinds := [.data, .pinned], laidTests := true, laidLooks := .later }
def FnExactMergeEntriesUptoCardSaid : Prop := Claim7.holds Tryd.pinned (.plain (OpenSpec.upto fnExactMergeEntriesSpec)) fnExactMergeEntriesUptoCard

/-- THE SECOND FORM's CARD OF 'laws.FnExactCompareNames'. -/
def fnExactCompareNamesUptoCard : Claim7 := { stood := { row := fnExactCompareNamesUptoRow, standIns := [], harness := (true, "be3faacc7d01a2b5d30d06d29aff964762ec544bc49b6a84ac8f42f1642eac8b"), looks := true }, kinds := [], alts := [], laidByText := true, laidKinds := [.data, .pinned], laidTests := true, laidLooks := .later }
def FnExactCompareNamesUptoCardSaid : Prop := Claim7.holds Tryd.pinned (.plain (OpenSpec.upto fnExactCompareNamesSpec)) fnExactCompareNamesUptoCard

/-- THE SECOND FORM's CARD OF 'laws.FnExactFileOrder'. -/
def fnExactFileOrderUptoCard : Claim7 := { stood := { row := fnExactFileOrderUptoRow, standIns := [], harness := (true, "be3faacc7d01a2b5d30d06d29aff964762ec544bc49b6a84ac8f42f1642eac8b"), looks := true }, kinds := [], alts := [], laidByText := true, laidKinds := [.data, .pinned], laidTests := true, laidLooks := .later }
def FnExactFileOrderUptoCardSaid : Prop := Claim7.holds Tryd.pinned (.plain (OpenSpec.upto fnExactFileOrderSpec)) fnExactFileOrderUptoCard

/-- THE SECOND FORM's CARD OF 'laws.FnExactGuidesFor'. -/
def fnExactGuidesForUptoCard : Claim7 := { stood := { row := fnExactGuidesForUptoRow, standIns := [], harness := (true, "be3faacc7d01a2b5d30d06d29aff964762ec544bc49b6a84ac8f42f1642eac8b"), looks := true }, kinds := [], alts := [], laidByText := true, laidKinds := [.data, .pinned], laidTests := true, laidLooks := .later }
def FnExactGuidesForUptoCardSaid : Prop := Claim7.holds Tryd.pinned (.plain (OpenSpec.upto fnExactGuidesForSpec)) fnExactGuidesForUptoCard

/-- THE SECOND FORM's CARD OF 'laws.FnExactDrawerOf'. -/
def fnExactDrawerOfUptoCard : Claim7 := { stood := { row := fnExactDrawerOfUptoRow, standIns := [], harness := (true, "be3faacc7d01a2b5d30d06d29aff964762ec544bc49b6a84ac8f42f1642eac8b"), looks := true }, kinds := [], alts := [], laidByText := true, laidKinds := [.data, .pinned], laidTests := true, laidLooks := .later }
def FnExactDrawerOfUptoCardSaid : Prop := Claim7.holds Tryd.pinned (.plain (OpenSpec.upto fnExactDrawerOfSpec)) fnExactDrawerOfUptoCard

/-- THE SECOND FORM's CARD OF 'laws.FnExactCatalogueText'. -/
def fnExactCatalogueTextUptoCard : Claim7 := { stood := { row := fnExactCatalogueTextUptoRow, standIns := [], harness := (true, "be3faacc7d01a2b5d30d06d29aff964762ec544bc49b6a84ac8f42f1642eac8b"), looks := true }, kinds := [], alts := [], laidByText := true, laidKinds := [.data, .pinned], laidTests := true, laidLooks := .later }
def FnExactCatalogueTextUptoCardSaid : Prop := Claim7.holds Tryd.pinned (.plain (OpenSpec.upto fnExactCatalogueTextSpec)) fnExactCatalogueTextUptoCard

/-- THE SECOND FORM's CARD OF 'laws.FnExactReadCatalogue'. -/
def fnExactReadCatalogueUptoCard : Claim7 := { stood := { row := fnExactReadCatalogueUptoRow, standIns := [], harness := (true, "be3faacc7d01a2b5d30d06d29aff964762ec544bc49b6a84ac8f42f1642eac8b"), looks := true }, kinds := [], alts := [], laidByText := true, laidKinds := [.data, .pinned], laidTests := true, laidLooks := .later }
def FnExactReadCatalogueUptoCardSaid : Prop := Claim7.holds Tryd.pinned (.plain (OpenSpec.upto fnExactReadCatalogueSpec)) fnExactReadCatalogueUptoCard

/-- THE SECOND FORM's CARD OF 'laws.FnMerged'. -/
def fnMergedUptoCard : Claim7 := { stood := { row := fnMergedUptoRow, standIns := [], harness := (true, "be3faacc7d01a2b5d30d06d29aff964762ec544bc49b6a84ac8f42f1642eac8b"), looks := true }, kinds := [], alts := [], laidByText := true, laidKinds := [.data, .pinned], laidTests := true, laidLooks := .later }
def FnMergedUptoCardSaid : Prop := Claim7.holds Tryd.pinned (.plain (OpenSpec.upto fnMergedSpec)) fnMergedUptoCard

/-- THE SECOND FORM's CARD OF 'laws.FnFiled'. -/
def fnFiledUptoCard : Claim7 := { stood := { row := fnFiledUptoRow, standIns := [], harness := (true, "be3faacc7d01a2b5d30d06d29aff964762ec544bc49b6a84ac8f42f1642eac8b"), looks := true }, kinds := [], alts := [], laidByText := true, laidKinds := [.data, .pinned], laidTests := true, laidLooks := .later }
def FnFiledUptoCardSaid : Prop := Claim7.holds Tryd.pinned (.plain (OpenSpec.upto fnFiledSpec)) fnFiledUptoCard
end Rows
end Go.Proofs.YtcbcggnpbjcdfabDoor
