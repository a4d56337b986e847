/-
  DERIVED. GIVEN WITH THE SEED: THE CARDS: each row of YtppjmngnjdeigaaDoorRows.lean that lists a variable, with what it lists TIED to the program's text (the seventh form; the later family's looks); each row that meets fmt, with fmt's text TOLD by the authors' own Lean function (tested against real Go, not proved from fmt's source: count such statements apart). THE CARD IS WHAT COUNTS. Prove the row's statement (the work); the ties are given (YtppjmngnjdeigaaDoorTie.lean); close each card by the builder's one call (the guide's Derived/Test/ToyasCard.lean, 'card_holds'). Laid BY PROGRAM, IN A SANDBOX (cutbox-door.mjs). By AI agents, Wed Nov 11 2026. No macro, syntax, notation, axiom, sorry.
-/
import Derived.Test.YtppjmngnjdeigaaDoorRows
import GoSem.ClaimSeven
namespace Go.Proofs.YtppjmngnjdeigaaDoor
namespace Rows

/-- THE TIED CARD OF 'laws.FnExactReadWear'. -/
def fnExactReadWearCard : Claim7 := { stood := { row := fnExactReadWearRow, standIns := [], harness := (true, "af00981cfbdafb13434cfaab609d876809e5f2912e4fc5ec5f90089cb699af56"), looks := true }, kinds := [], alts := [], laidByText := true, laidKinds := [.data, .data, .data, .data, .sentinel, .sentinel, .listed, .data, .pinned], laidTests := true, laidLooks := .later }
def FnExactReadWearCardSaid : Prop := Claim7.holds Tryd.pinned (.plain (OpenSpec.ofChange fnExactReadWearSpec)) fnExactReadWearCard

/-- THE TIED CARD OF 'laws.FnExactWalkTree'. -/
def fnExactWalkTreeCard : Claim7 := { stood := { row := fnExactWalkTreeRow, standIns := [], harness := (true, "af00981cfbdafb13434cfaab609d876809e5f2912e4fc5ec5f90089cb699af56"), looks := true }, kinds := [], alts := [], laidByText := true, laidKinds := [.sentinel, .sentinel, .sentinel], laidTests := true, laidLooks := .later }
def FnExactWalkTreeCardSaid : Prop := Claim7.holds Tryd.pinned (.plain (OpenSpec.ofChange fnExactWalkTreeSpec)) fnExactWalkTreeCard

/-- THE TIED CARD OF 'laws.FnExactReadCatalogue'. -/
def fnExactReadCatalogueCard : Claim7 := { stood := { row := fnExactReadCatalogueRow, standIns := [], harness := (true, "af00981cfbdafb13434cfaab609d876809e5f2912e4fc5ec5f90089cb699af56"), looks := true }, kinds := [], alts := [], laidByText := true, laidKinds := [.data, .pinned], laidTests := true, laidLooks := .later }
def FnExactReadCatalogueCardSaid : Prop := Claim7.holds Tryd.pinned (.plain (OpenSpec.ofChange fnExactReadCatalogueSpec)) fnExactReadCatalogueCard

/-- THE SECOND FORM's CARD OF 'laws.FnExactReadWear'. -/
def fnExactReadWearUptoCard : Claim7 := { stood := { row := fnExactReadWearUptoRow, standIns := [], harness := (true, "af00981cfbdafb13434cfaab609d876809e5f2912e4fc5ec5f90089cb699af56"), looks := true }, kinds := [], alts := [], laidByText := true, laidKinds := [.data, .data, .data, .data, .sentinel, .sentinel, .listed, .data, .pinned], laidTests := true, laidLooks := .later }
def FnExactReadWearUptoCardSaid : Prop := Claim7.holds Tryd.pinned (.plain (OpenSpec.upto fnExactReadWearSpec)) fnExactReadWearUptoCard

/-- THE SECOND FORM's CARD OF 'laws.FnExactWalkTree'. -/
def fnExactWalkTreeUptoCard : Claim7 := { stood := { row := fnExactWalkTreeUptoRow, standIns := [], harness := (true, "af00981cfbdafb13434cfaab609d876809e5f2912e4fc5ec5f90089cb699af56"), looks := true }, kinds := [], alts := [], laidByText := true, laidKinds := [.sentinel, .sentinel, .sentinel], laidTests := true, laidLooks := .later }
def FnExactWalkTreeUptoCardSaid : Prop := Claim7.holds Tryd.pinned (.plain (OpenSpec.upto fnExactWalkTreeSpec)) fnExactWalkTreeUptoCard

/-- THE SECOND FORM's CARD OF 'laws.FnExactReadCatalogue'. -/
def fnExactReadCatalogueUptoCard : Claim7 := { stood := { row := fnExactReadCatalogueUptoRow, standIns := [], harness := (true, "af00981cfbdafb13434cfaab609d876809e5f2912e4fc5ec5f90089cb699af56"), looks := true }, kinds := [], alts := [], laidByText := true, laidKinds := [.data, .pinned], laidTests := true, laidLooks := .later }
def FnExactReadCatalogueUptoCardSaid : Prop := Claim7.holds Tryd.pinned (.plain (OpenSpec.upto fnExactReadCatalogueSpec)) fnExactReadCatalogueUptoCard
end Rows
end Go.Proofs.YtppjmngnjdeigaaDoor
