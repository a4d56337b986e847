/-
  DERIVED. GIVEN WITH THE SEED: THE CARDS: each row of YtllhglakihfjmaaDoorRows.lean that lists a variable, with what it lists TIED to the program's text (the seventh form; the later family's looks); each row that meets fmt, with fmt's text TOLD by the authors' own Lean function (tested against real Go, not proved from fmt's source: count such statements apart). THE CARD IS WHAT COUNTS. Prove the row's statement (the work); the ties are given (YtllhglakihfjmaaDoorTie.lean); close each card by the builder's one call (the guide's Derived/Test/ToyasCard.lean, 'card_holds'). Laid BY PROGRAM, IN A SANDBOX (cutbox-door.mjs). By AI agents, Wed Nov 11 2026. No macro, syntax, notation, axiom, sorry.
-/
import Derived.Test.YtllhglakihfjmaaDoorRows
import GoSem.ClaimSeven
namespace Go.Proofs.YtllhglakihfjmaaDoor
namespace Rows

/-- THE TIED CARD OF 'laws.FnExactCardText'. -/
def fnExactCardTextCard : Claim7 := { stood := { row := fnExactCardTextRow, standIns := [], harness := (true, "9ce78da314fee39baf9df12bee822546c72168df900dfa317846aac0efa7dbc1"), looks := true }, kinds := [], alts := [], laidByText := true, laidKinds := [.data, .data, .data], laidTests := true, laidLooks := .later }
def FnExactCardTextCardSaid : Prop := Claim7.holds Tryd.pinned (.plain (OpenSpec.ofChange fnExactCardTextSpec)) fnExactCardTextCard

/-- THE TIED CARD OF 'laws.FnExactMixText'. -/
def fnExactMixTextCard : Claim7 := { stood := { row := fnExactMixTextRow, standIns := [], harness := (true, "9ce78da314fee39baf9df12bee822546c72168df900dfa317846aac0efa7dbc1"), looks := true }, kinds := [], alts := [], laidByText := true, laidKinds := [.data, .data, .data], laidTests := true, laidLooks := .later }
def FnExactMixTextCardSaid : Prop := Claim7.holds Tryd.pinned (.plain (OpenSpec.ofChange fnExactMixTextSpec)) fnExactMixTextCard

/-- THE TIED CARD OF 'laws.FnExactSchemeText'. -/
def fnExactSchemeTextCard : Claim7 := { stood := { row := fnExactSchemeTextRow, standIns := [], harness := (true, "9ce78da314fee39baf9df12bee822546c72168df900dfa317846aac0efa7dbc1"), looks := true }, kinds := [], alts := [], laidByText := true, laidKinds := [.data, .data, .data, .data], laidTests := true, laidLooks := .later }
def FnExactSchemeTextCardSaid : Prop := Claim7.holds Tryd.pinned (.plain (OpenSpec.ofChange fnExactSchemeTextSpec)) fnExactSchemeTextCard

/-- THE TIED CARD OF 'laws.FnExactDeckText'. -/
def fnExactDeckTextCard : Claim7 := { stood := { row := fnExactDeckTextRow, standIns := [], harness := (true, "9ce78da314fee39baf9df12bee822546c72168df900dfa317846aac0efa7dbc1"), looks := true }, kinds := [], alts := [], laidByText := true, laidKinds := [.data, .data, .data], laidTests := true, laidLooks := .later }
def FnExactDeckTextCardSaid : Prop := Claim7.holds Tryd.pinned (.plain (OpenSpec.ofChange fnExactDeckTextSpec)) fnExactDeckTextCard

/-- THE TIED CARD OF 'laws.FnExactEditsText'. -/
def fnExactEditsTextCard : Claim7 := { stood := { row := fnExactEditsTextRow, standIns := [], harness := (true, "9ce78da314fee39baf9df12bee822546c72168df900dfa317846aac0efa7dbc1"), looks := true }, kinds := [], alts := [], laidByText := true, laidKinds := [.data, .data, .data, .data], laidTests := true, laidLooks := .later }
def FnExactEditsTextCardSaid : Prop := Claim7.holds Tryd.pinned (.plain (OpenSpec.ofChange fnExactEditsTextSpec)) fnExactEditsTextCard

/-- THE TIED CARD OF 'laws.FnExactCatalogueText'. -/
def fnExactCatalogueTextCard : Claim7 := { stood := { row := fnExactCatalogueTextRow, standIns := [], harness := (true, "9ce78da314fee39baf9df12bee822546c72168df900dfa317846aac0efa7dbc1"), looks := true }, kinds := [], alts := [], laidByText := true, laidKinds := [.data, .pinned], laidTests := true, laidLooks := .later }
def FnExactCatalogueTextCardSaid : Prop := Claim7.holds Tryd.pinned (.plain (OpenSpec.ofChange fnExactCatalogueTextSpec)) fnExactCatalogueTextCard

/-- THE SECOND FORM's CARD OF 'laws.FnExactCardText'. -/
def fnExactCardTextUptoCard : Claim7 := { stood := { row := fnExactCardTextUptoRow, standIns := [], harness := (true, "9ce78da314fee39baf9df12bee822546c72168df900dfa317846aac0efa7dbc1"), looks := true }, kinds := [], alts := [], laidByText := true, laidKinds := [.data, .data, .data], laidTests := true, laidLooks := .later }
def FnExactCardTextUptoCardSaid : Prop := Claim7.holds Tryd.pinned (.plain (OpenSpec.upto fnExactCardTextSpec)) fnExactCardTextUptoCard

/-- THE SECOND FORM's CARD OF 'laws.FnExactMixText'. -/
def fnExactMixTextUptoCard : Claim7 := { stood := { row := fnExactMixTextUptoRow, standIns := [], harness := (true, "9ce78da314fee39baf9df12bee822546c72168df900dfa317846aac0efa7dbc1"), looks := true }, kinds := [], alts := [], laidByText := true, laidKinds := [.data, .data, .data], laidTests := true, laidLooks := .later }
def FnExactMixTextUptoCardSaid : Prop := Claim7.holds Tryd.pinned (.plain (OpenSpec.upto fnExactMixTextSpec)) fnExactMixTextUptoCard

/-- THE SECOND FORM's CARD OF 'laws.FnExactSchemeText'. -/
def fnExactSchemeTextUptoCard : Claim7 := { stood := { row := fnExactSchemeTextUptoRow, standIns := [], harness := (true, "9ce78da314fee39baf9df12bee822546c72168df900dfa317846aac0efa7dbc1"), looks := true }, kinds := [], alts := [], laidByText := true, laidKinds := [.data, .data, .data, .data], laidTests := true, laidLooks := .later }
def FnExactSchemeTextUptoCardSaid : Prop := Claim7.holds Tryd.pinned (.plain (OpenSpec.upto fnExactSchemeTextSpec)) fnExactSchemeTextUptoCard

/-- THE SECOND FORM's CARD OF 'laws.FnExactDeckText'. -/
def fnExactDeckTextUptoCard : Claim7 := { stood := { row := fnExactDeckTextUptoRow, standIns := [], harness := (true, "9ce78da314fee39baf9df12bee822546c72168df900dfa317846aac0efa7dbc1"), looks := true }, kinds := [], alts := [], laidByText := true, laidKinds := [.data, .data, .data], laidTests := true, laidLooks := .later }
def FnExactDeckTextUptoCardSaid : Prop := Claim7.holds Tryd.pinned (.plain (OpenSpec.upto fnExactDeckTextSpec)) fnExactDeckTextUptoCard

/-- THE SECOND FORM's CARD OF 'laws.FnExactEditsText'. -/
def fnExactEditsTextUptoCard : Claim7 := { stood := { row := fnExactEditsTextUptoRow, standIns := [], harness := (true, "9ce78da314fee39baf9df12bee822546c72168df900dfa317846aac0efa7dbc1"), looks := true }, kinds := [], alts := [], laidByText := true, laidKinds := [.data, .data, .data, .data], laidTests := true, laidLooks := .later }
def FnExactEditsTextUptoCardSaid : Prop := Claim7.holds Tryd.pinned (.plain (OpenSpec.upto fnExactEditsTextSpec)) fnExactEditsTextUptoCard

/-- THE SECOND FORM's CARD OF 'laws.FnExactCatalogueText'. -/
def fnExactCatalogueTextUptoCard : Claim7 := { stood := { row := fnExactCatalogueTextUptoRow, standIns := [], harness := (true, "9ce78da314fee39baf9df12bee822546c72168df900dfa317846aac0efa7dbc1"), looks := true }, kinds := [], alts := [], laidByText := true, laidKinds := [.data, .pinned], laidTests := true, laidLooks := .later }
def FnExactCatalogueTextUptoCardSaid : Prop := Claim7.holds Tryd.pinned (.plain (OpenSpec.upto fnExactCatalogueTextSpec)) fnExactCatalogueTextUptoCard
end Rows
end Go.Proofs.YtllhglakihfjmaaDoor
