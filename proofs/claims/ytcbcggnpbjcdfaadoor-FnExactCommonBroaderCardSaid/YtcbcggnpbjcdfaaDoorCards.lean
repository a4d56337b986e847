/-
  DERIVED. GIVEN WITH THE SEED: THE CARDS: each row of YtcbcggnpbjcdfaaDoorRows.lean that lists a variable, with what it lists TIED to the program's text (the seventh form; the later family's looks); each row that meets fmt, with fmt's text TOLD by the authors' own Lean function (tested against real Go, not proved from fmt's source: count such statements apart). THE CARD IS WHAT COUNTS. Prove the row's statement (the work); the ties are given (YtcbcggnpbjcdfaaDoorTie.lean); close each card by the builder's one call (the guide's Derived/Test/ToyasCard.lean, 'card_holds'). Laid BY PROGRAM, IN A SANDBOX (cutbox-door.mjs). By AI agents, Wed Nov 11 2026. No macro, syntax, notation, axiom, sorry.
-/
import Derived.Test.YtcbcggnpbjcdfaaDoorRows
import GoSem.ClaimSeven
namespace Go.Proofs.YtcbcggnpbjcdfaaDoor
namespace Rows

/-- THE TIED CARD OF 'laws.FnExactIsEntryName'. -/
def fnExactIsEntryNameCard : Claim7 := { stood := { row := fnExactIsEntryNameRow, standIns := [], harness := (true, "5376f1bc3108a54a8015ac83e83663fd47907eae916c90737bf657e86ead7b9e"), looks := true }, kinds := [], alts := [], laidByText := true, laidKinds := [.data, .pinned], laidTests := true, laidLooks := .later }
def FnExactIsEntryNameCardSaid : Prop := Claim7.holds Tryd.pinned (.plain (OpenSpec.ofChange fnExactIsEntryNameSpec)) fnExactIsEntryNameCard

/-- THE TIED CARD OF 'laws.FnExactValidCatalogue'. -/
def fnExactValidCatalogueCard : Claim7 := { stood := { row := fnExactValidCatalogueRow, standIns := [], harness := (true, "5376f1bc3108a54a8015ac83e83663fd47907eae916c90737bf657e86ead7b9e"), looks := true }, kinds := [], alts := [], laidByText := true, laidKinds := [.data, .pinned], laidTests := true, laidLooks := .later }
def FnExactValidCatalogueCardSaid : Prop := Claim7.holds Tryd.pinned (.plain (OpenSpec.ofChange fnExactValidCatalogueSpec)) fnExactValidCatalogueCard

/-- THE TIED CARD OF 'laws.FnExactFindEntry'. -/
def fnExactFindEntryCard : Claim7 := { stood := { row := fnExactFindEntryRow, standIns := [], harness := (true, "5376f1bc3108a54a8015ac83e83663fd47907eae916c90737bf657e86ead7b9e"), looks := true }, kinds := [], alts := [], laidByText := true, laidKinds := [.data, .pinned], laidTests := true, laidLooks := .later }
def FnExactFindEntryCardSaid : Prop := Claim7.holds Tryd.pinned (.plain (OpenSpec.ofChange fnExactFindEntrySpec)) fnExactFindEntryCard

/-- THE TIED CARD OF 'laws.FnExactPreferredOf'. -/
def fnExactPreferredOfCard : Claim7 := { stood := { row := fnExactPreferredOfRow, standIns := [], harness := (true, "5376f1bc3108a54a8015ac83e83663fd47907eae916c90737bf657e86ead7b9e"), looks := true }, kinds := [], alts := [], laidByText := true, laidKinds := [.data, .pinned], laidTests := true, laidLooks := .later }
def FnExactPreferredOfCardSaid : Prop := Claim7.holds Tryd.pinned (.plain (OpenSpec.ofChange fnExactPreferredOfSpec)) fnExactPreferredOfCard

/-- THE TIED CARD OF 'laws.FnExactPathUp'. -/
def fnExactPathUpCard : Claim7 := { stood := { row := fnExactPathUpRow, standIns := [], harness := (true, "5376f1bc3108a54a8015ac83e83663fd47907eae916c90737bf657e86ead7b9e"), looks := true }, kinds := [], alts := [], laidByText := true, laidKinds := [.data, .pinned], laidTests := true, laidLooks := .later }
def FnExactPathUpCardSaid : Prop := Claim7.holds Tryd.pinned (.plain (OpenSpec.ofChange fnExactPathUpSpec)) fnExactPathUpCard

/-- THE TIED CARD OF 'laws.FnExactNarrowerOf'. -/
def fnExactNarrowerOfCard : Claim7 := { stood := { row := fnExactNarrowerOfRow, standIns := [], harness := (true, "5376f1bc3108a54a8015ac83e83663fd47907eae916c90737bf657e86ead7b9e"), looks := true }, kinds := [], alts := [], laidByText := true, laidKinds := [.data, .pinned], laidTests := true, laidLooks := .later }
def FnExactNarrowerOfCardSaid : Prop := Claim7.holds Tryd.pinned (.plain (OpenSpec.ofChange fnExactNarrowerOfSpec)) fnExactNarrowerOfCard

/-- THE TIED CARD OF 'laws.FnExactSynonymsOf'. -/
def fnExactSynonymsOfCard : Claim7 := { stood := { row := fnExactSynonymsOfRow, standIns := [], harness := (true, "5376f1bc3108a54a8015ac83e83663fd47907eae916c90737bf657e86ead7b9e"), looks := true }, kinds := [], alts := [], laidByText := true, laidKinds := [.data, .pinned], laidTests := true, laidLooks := .later }
def FnExactSynonymsOfCardSaid : Prop := Claim7.holds Tryd.pinned (.plain (OpenSpec.ofChange fnExactSynonymsOfSpec)) fnExactSynonymsOfCard

/-- THE TIED CARD OF 'laws.FnExactExpandEntry'. -/
def fnExactExpandEntryCard : Claim7 := { stood := { row := fnExactExpandEntryRow, standIns := [], harness := (true, "5376f1bc3108a54a8015ac83e83663fd47907eae916c90737bf657e86ead7b9e"), looks := true }, kinds := [], alts := [], laidByText := true, laidKinds := [.data, .pinned], laidTests := true, laidLooks := .later }
def FnExactExpandEntryCardSaid : Prop := Claim7.holds Tryd.pinned (.plain (OpenSpec.ofChange fnExactExpandEntrySpec)) fnExactExpandEntryCard

/-- THE TIED CARD OF 'laws.FnExactCommonBroader'. -/
def fnExactCommonBroaderCard : Claim7 := { stood := { row := fnExactCommonBroaderRow, standIns := [], harness := (true, "5376f1bc3108a54a8015ac83e83663fd47907eae916c90737bf657e86ead7b9e"), looks := true }, kinds := [], alts := [], laidByText := true, laidKinds := [.data, .pinned], laidTests := true, laidLooks := .later }
def FnExactCommonBroaderCardSaid : Prop := Claim7.holds Tryd.pinned (.plain (OpenSpec.ofChange fnExactCommonBroaderSpec)) fnExactCommonBroaderCard

/-- THE TIED CARD OF 'laws.FnExactTopsOf'. -/
def fnExactTopsOfCard : Claim7 := { stood := { row := fnExactTopsOfRow, standIns := [], harness := (true, "5376f1bc3108a54a8015ac83e83663fd47907eae916c90737bf657e86ead7b9e"), looks := true }, kinds := [], alts := [], laidByText := true, laidKinds := [.data, .pinned], laidTests := true, laidLooks := .later }
def FnExactTopsOfCardSaid : Prop := Claim7.holds Tryd.pinned (.plain (OpenSpec.ofChange fnExactTopsOfSpec)) fnExactTopsOfCard

/-- THE TIED CARD OF 'laws.FnExactAddEntry'. -/
def fnExactAddEntryCard : Claim7 := { stood := { row := fnExactAddEntryRow, standIns := [], harness := (true, "5376f1bc3108a54a8015ac83e83663fd47907eae916c90737bf657e86ead7b9e"), looks := true }, kinds := [], alts := [], laidByText := true, laidKinds := [.data, .pinned], laidTests := true, laidLooks := .later }
def FnExactAddEntryCardSaid : Prop := Claim7.holds Tryd.pinned (.plain (OpenSpec.ofChange fnExactAddEntrySpec)) fnExactAddEntryCard

/-- THE SECOND FORM's CARD OF 'laws.FnExactIsEntryName'. -/
def fnExactIsEntryNameUptoCard : Claim7 := { stood := { row := fnExactIsEntryNameUptoRow, standIns := [], harness := (true, "5376f1bc3108a54a8015ac83e83663fd47907eae916c90737bf657e86ead7b9e"), looks := true }, kinds := [], alts := [], laidByText := true, laidKinds := [.data, .pinned], laidTests := true, laidLooks := .later }
def FnExactIsEntryNameUptoCardSaid : Prop := Claim7.holds Tryd.pinned (.plain (OpenSpec.upto fnExactIsEntryNameSpec)) fnExactIsEntryNameUptoCard

/-- THE SECOND FORM's CARD OF 'laws.FnExactValidCatalogue'. -/
def fnExactValidCatalogueUptoCard : Claim7 := { stood := { row := fnExactValidCatalogueUptoRow, standIns := [], harness := (true, "5376f1bc3108a54a8015ac83e83663fd47907eae916c90737bf657e86ead7b9e"), looks := true }, kinds := [], alts := [], laidByText := true, laidKinds := [.data, .pinned], laidTests := true, laidLooks := .later }
def FnExactValidCatalogueUptoCardSaid : Prop := Claim7.holds Tryd.pinned (.plain (OpenSpec.upto fnExactValidCatalogueSpec)) fnExactValidCatalogueUptoCard

/-- THE SECOND FORM's CARD OF 'laws.FnExactFindEntry'. -/
def fnExactFindEntryUptoCard : Claim7 := { stood := { row := fnExactFindEntryUptoRow, standIns := [], harness := (true, "5376f1bc3108a54a8015ac83e83663fd47907eae916c90737bf657e86ead7b9e"), looks := true }, kinds := [], alts := [], laidByText := true, laidKinds := [.data, .pinned], laidTests := true, laidLooks := .later }
def FnExactFindEntryUptoCardSaid : Prop := Claim7.holds Tryd.pinned (.plain (OpenSpec.upto fnExactFindEntrySpec)) fnExactFindEntryUptoCard

/-- THE SECOND FORM's CARD OF 'laws.FnExactPreferredOf'. -/
def fnExactPreferredOfUptoCard : Claim7 := { stood := { row := fnExactPreferredOfUptoRow, standIns := [], harness := (true, "5376f1bc3108a54a8015ac83e83663fd47907eae916c90737bf657e86ead7b9e"), looks := true }, kinds := [], alts := [], laidByText := true, laidKinds := [.data, .pinned], laidTests := true, laidLooks := .later }
def FnExactPreferredOfUptoCardSaid : Prop := Claim7.holds Tryd.pinned (.plain (OpenSpec.upto fnExactPreferredOfSpec)) fnExactPreferredOfUptoCard

/-- THE SECOND FORM's CARD OF 'laws.FnExactPathUp'. -/
def fnExactPathUpUptoCard : Claim7 := { stood := { row := fnExactPathUpUptoRow, standIns := [], harness := (true, "5376f1bc3108a54a8015ac83e83663fd47907eae916c90737bf657e86ead7b9e"), looks := true }, kinds := [], alts := [], laidByText := true, laidKinds := [.data, .pinned], laidTests := true, laidLooks := .later }
def FnExactPathUpUptoCardSaid : Prop := Claim7.holds Tryd.pinned (.plain (OpenSpec.upto fnExactPathUpSpec)) fnExactPathUpUptoCard

/-- THE SECOND FORM's CARD OF 'laws.FnExactNarrowerOf'. -/
def fnExactNarrowerOfUptoCard : Claim7 := { stood := { row := fnExactNarrowerOfUptoRow, standIns := [], harness := (true, "5376f1bc3108a54a8015ac83e83663fd47907eae916c90737bf657e86ead7b9e"), looks := true }, kinds := [], alts := [], laidByText := true, laidKinds := [.data, .pinned], laidTests := true, laidLooks := .later }
def FnExactNarrowerOfUptoCardSaid : Prop := Claim7.holds Tryd.pinned (.plain (OpenSpec.upto fnExactNarrowerOfSpec)) fnExactNarrowerOfUptoCard

/-- THE SECOND FORM's CARD OF 'laws.FnExactSynonymsOf'. -/
def fnExactSynonymsOfUptoCard : Claim7 := { stood := { row := fnExactSynonymsOfUptoRow, standIns := [], harness := (true, "5376f1bc3108a54a8015ac83e83663fd47907eae916c90737bf657e86ead7b9e"), looks := true }, kinds := [], alts := [], laidByText := true, laidKinds := [.data, .pinned], laidTests := true, laidLooks := .later }
def FnExactSynonymsOfUptoCardSaid : Prop := Claim7.holds Tryd.pinned (.plain (OpenSpec.upto fnExactSynonymsOfSpec)) fnExactSynonymsOfUptoCard

/-- THE SECOND FORM's CARD OF 'laws.FnExactExpandEntry'. -/
def fnExactExpandEntryUptoCard : Claim7 := { stood := { row := fnExactExpandEntryUptoRow, standIns := [], harness := (true, "5376f1bc3108a54a8015ac83e83663fd47907eae916c90737bf657e86ead7b9e"), looks := true }, kinds := [], alts := [], laidByText := true, laidKinds := [.data, .pinned], laidTests := true, laidLooks := .later }
def FnExactExpandEntryUptoCardSaid : Prop := Claim7.holds Tryd.pinned (.plain (OpenSpec.upto fnExactExpandEntrySpec)) fnExactExpandEntryUptoCard

/-- THE SECOND FORM's CARD OF 'laws.FnExactCommonBroader'. -/
def fnExactCommonBroaderUptoCard : Claim7 := { stood := { row := fnExactCommonBroaderUptoRow, standIns := [], harness := (true, "5376f1bc3108a54a8015ac83e83663fd47907eae916c90737bf657e86ead7b9e"), looks := true }, kinds := [], alts := [], laidByText := true, laidKinds := [.data, .pinned], laidTests := true, laidLooks := .later }
def FnExactCommonBroaderUptoCardSaid : Prop := Claim7.holds Tryd.pinned (.plain (OpenSpec.upto fnExactCommonBroaderSpec)) fnExactCommonBroaderUptoCard

/-- THE SECOND FORM's CARD OF 'laws.FnExactTopsOf'. -/
def fnExactTopsOfUptoCard : Claim7 := { stood := { row := fnExactTopsOfUptoRow, standIns := [], harness := (true, "5376f1bc3108a54a8015ac83e83663fd47907eae916c90737bf657e86ead7b9e"), looks := true }, kinds := [], alts := [], laidByText := true, laidKinds := [.data, .pinned], laidTests := true, laidLooks := .later }
def FnExactTopsOfUptoCardSaid : Prop := Claim7.holds Tryd.pinned (.plain (OpenSpec.upto fnExactTopsOfSpec)) fnExactTopsOfUptoCard

/-- THE SECOND FORM's CARD OF 'laws.FnExactAddEntry'. -/
def fnExactAddEntryUptoCard : Claim7 := { stood := { row := fnExactAddEntryUptoRow, standIns := [], harness := (true, "5376f1bc3108a54a8015ac83e83663fd47907eae916c90737bf657e86ead7b9e"), looks := true }, kinds := [], alts := [], laidByText := true, laidKinds := [.data, .pinned], laidTests := true, laidLooks := .later }
def FnExactAddEntryUptoCardSaid : Prop := Claim7.holds Tryd.pinned (.plain (OpenSpec.upto fnExactAddEntrySpec)) fnExactAddEntryUptoCard
end Rows
end Go.Proofs.YtcbcggnpbjcdfaaDoor
