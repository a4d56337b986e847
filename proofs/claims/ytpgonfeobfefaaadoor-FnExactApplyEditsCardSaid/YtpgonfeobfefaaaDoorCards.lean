/-
  DERIVED. GIVEN WITH THE SEED: THE CARDS: each row of YtpgonfeobfefaaaDoorRows.lean that lists a variable, with what it lists TIED to the program's text (the seventh form; the later family's looks); each row that meets fmt, with fmt's text TOLD by the authors' own Lean function (tested against real Go, not proved from fmt's source: count such statements apart). THE CARD IS WHAT COUNTS. Prove the row's statement (the work); the ties are given (YtpgonfeobfefaaaDoorTie.lean); close each card by the builder's one call (the guide's Derived/Test/ToyasCard.lean, 'card_holds'). Laid BY PROGRAM, IN A SANDBOX (cutbox-door.mjs). By AI agents, Wed Nov 11 2026. No macro, syntax, notation, axiom, sorry.
-/
import Derived.Test.YtpgonfeobfefaaaDoorRows
import GoSem.ClaimSeven
namespace Go.Proofs.YtpgonfeobfefaaaDoor
namespace Rows

/-- THE TIED CARD OF 'laws.FnExactCheckAfter'. -/
def fnExactCheckAfterCard : Claim7 := { stood := { row := fnExactCheckAfterRow, standIns := [], harness := (true, "80992a232d7c9c474d740cb1a7192bf09cdaafb8a1e9808a52c99a2bb67c20d9"), looks := true }, kinds := [], alts := [], laidByText := true, laidKinds := [.handle], laidTests := true, laidLooks := .later }
def FnExactCheckAfterCardSaid : Prop := Claim7.holds Tryd.pinned (.plain (OpenSpec.ofChange fnExactCheckAfterSpec)) fnExactCheckAfterCard

/-- THE TIED CARD OF 'laws.FnExactApplyEdit'. -/
def fnExactApplyEditCard : Claim7 := { stood := { row := fnExactApplyEditRow, standIns := [], harness := (true, "80992a232d7c9c474d740cb1a7192bf09cdaafb8a1e9808a52c99a2bb67c20d9"), looks := true }, kinds := [], alts := [], laidByText := true, laidKinds := [.handle], laidTests := true, laidLooks := .later }
def FnExactApplyEditCardSaid : Prop := Claim7.holds Tryd.pinned (.plain (OpenSpec.ofChange fnExactApplyEditSpec)) fnExactApplyEditCard

/-- THE TIED CARD OF 'laws.FnExactApplyEdits'. -/
def fnExactApplyEditsCard : Claim7 := { stood := { row := fnExactApplyEditsRow, standIns := [], harness := (true, "80992a232d7c9c474d740cb1a7192bf09cdaafb8a1e9808a52c99a2bb67c20d9"), looks := true }, kinds := [], alts := [], laidByText := true, laidKinds := [.handle], laidTests := true, laidLooks := .later }
def FnExactApplyEditsCardSaid : Prop := Claim7.holds Tryd.pinned (.plain (OpenSpec.ofChange fnExactApplyEditsSpec)) fnExactApplyEditsCard

/-- THE TIED CARD OF 'laws.FnExactMergeThree'. -/
def fnExactMergeThreeCard : Claim7 := { stood := { row := fnExactMergeThreeRow, standIns := [], harness := (true, "80992a232d7c9c474d740cb1a7192bf09cdaafb8a1e9808a52c99a2bb67c20d9"), looks := true }, kinds := [], alts := [], laidByText := true, laidKinds := [.handle], laidTests := true, laidLooks := .later }
def FnExactMergeThreeCardSaid : Prop := Claim7.holds Tryd.pinned (.plain (OpenSpec.ofChange fnExactMergeThreeSpec)) fnExactMergeThreeCard

/-- THE TIED CARD OF 'laws.FnExactCompareNames'. -/
def fnExactCompareNamesCard : Claim7 := { stood := { row := fnExactCompareNamesRow, standIns := [], harness := (true, "80992a232d7c9c474d740cb1a7192bf09cdaafb8a1e9808a52c99a2bb67c20d9"), looks := true }, kinds := [], alts := [], laidByText := true, laidKinds := [.data, .pinned], laidTests := true, laidLooks := .later }
def FnExactCompareNamesCardSaid : Prop := Claim7.holds Tryd.pinned (.plain (OpenSpec.ofChange fnExactCompareNamesSpec)) fnExactCompareNamesCard

/-- THE SECOND FORM's CARD OF 'laws.FnExactCheckAfter'. -/
def fnExactCheckAfterUptoCard : Claim7 := { stood := { row := fnExactCheckAfterUptoRow, standIns := [], harness := (true, "80992a232d7c9c474d740cb1a7192bf09cdaafb8a1e9808a52c99a2bb67c20d9"), looks := true }, kinds := [], alts := [], laidByText := true, laidKinds := [.handle], laidTests := true, laidLooks := .later }
def FnExactCheckAfterUptoCardSaid : Prop := Claim7.holds Tryd.pinned (.plain (OpenSpec.upto fnExactCheckAfterSpec)) fnExactCheckAfterUptoCard

/-- THE SECOND FORM's CARD OF 'laws.FnExactApplyEdit'. -/
def fnExactApplyEditUptoCard : Claim7 := { stood := { row := fnExactApplyEditUptoRow, standIns := [], harness := (true, "80992a232d7c9c474d740cb1a7192bf09cdaafb8a1e9808a52c99a2bb67c20d9"), looks := true }, kinds := [], alts := [], laidByText := true, laidKinds := [.handle], laidTests := true, laidLooks := .later }
def FnExactApplyEditUptoCardSaid : Prop := Claim7.holds Tryd.pinned (.plain (OpenSpec.upto fnExactApplyEditSpec)) fnExactApplyEditUptoCard

/-- THE SECOND FORM's CARD OF 'laws.FnExactApplyEdits'. -/
def fnExactApplyEditsUptoCard : Claim7 := { stood := { row := fnExactApplyEditsUptoRow, standIns := [], harness := (true, "80992a232d7c9c474d740cb1a7192bf09cdaafb8a1e9808a52c99a2bb67c20d9"), looks := true }, kinds := [], alts := [], laidByText := true, laidKinds := [.handle], laidTests := true, laidLooks := .later }
def FnExactApplyEditsUptoCardSaid : Prop := Claim7.holds Tryd.pinned (.plain (OpenSpec.upto fnExactApplyEditsSpec)) fnExactApplyEditsUptoCard

/-- THE SECOND FORM's CARD OF 'laws.FnExactMergeThree'. -/
def fnExactMergeThreeUptoCard : Claim7 := { stood := { row := fnExactMergeThreeUptoRow, standIns := [], harness := (true, "80992a232d7c9c474d740cb1a7192bf09cdaafb8a1e9808a52c99a2bb67c20d9"), looks := true }, kinds := [], alts := [], laidByText := true, laidKinds := [.handle], laidTests := true, laidLooks := .later }
def FnExactMergeThreeUptoCardSaid : Prop := Claim7.holds Tryd.pinned (.plain (OpenSpec.upto fnExactMergeThreeSpec)) fnExactMergeThreeUptoCard

/-- THE SECOND FORM's CARD OF 'laws.FnExactCompareNames'. -/
def fnExactCompareNamesUptoCard : Claim7 := { stood := { row := fnExactCompareNamesUptoRow, standIns := [], harness := (true, "80992a232d7c9c474d740cb1a7192bf09cdaafb8a1e9808a52c99a2bb67c20d9"), looks := true }, kinds := [], alts := [], laidByText := true, laidKinds := [.data, .pinned], laidTests := true, laidLooks := .later }
def FnExactCompareNamesUptoCardSaid : Prop := Claim7.holds Tryd.pinned (.plain (OpenSpec.upto fnExactCompareNamesSpec)) fnExactCompareNamesUptoCard
end Rows
end Go.Proofs.YtpgonfeobfefaaaDoor
