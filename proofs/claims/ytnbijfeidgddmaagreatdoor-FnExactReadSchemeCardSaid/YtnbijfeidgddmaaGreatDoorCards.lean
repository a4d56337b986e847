/-
  DERIVED. GIVEN WITH THE SEED: THE CARDS: each row of YtnbijfeidgddmaaGreatDoorRows.lean that lists a variable, with what it lists TIED to the program's text (the seventh form; the later family's looks); each row that meets fmt, with fmt's text TOLD by the authors' own Lean function (tested against real Go, not proved from fmt's source: count such statements apart). THE CARD IS WHAT COUNTS. Prove the row's statement (the work); the ties are given (YtnbijfeidgddmaaGreatDoorTie.lean); close each card by the builder's one call (the guide's Derived/Test/ToyasCard.lean, 'card_holds'). Laid BY PROGRAM, IN A SANDBOX (cutbox-door.mjs). By AI agents, Wed Nov 11 2026. No macro, syntax, notation, axiom, sorry.
-/
import Derived.Test.YtnbijfeidgddmaaGreatDoorRows
import GoSem.ClaimSeven
namespace Go.Proofs.YtnbijfeidgddmaaGreatDoor
namespace Rows

/-- THE TIED CARD OF 'laws.FnExactReadScheme'. -/
def fnExactReadSchemeCard : Claim7 := { stood := { row := fnExactReadSchemeRow, standIns := [], harness := (true, "6b9ee28c6e6d568a894cd0d160facaf1733a6b203b8aab01f1e3951b92e41ccb"), looks := true }, kinds := [], alts := [], laidByText := true, laidKinds := [.data, .data, .data, .data, .sentinel, .sentinel, .data, .pinned], laidTests := true, laidLooks := .later }
def FnExactReadSchemeCardSaid : Prop := Claim7.holds Tryz.pinned (.plain (OpenSpec.ofChange fnExactReadSchemeSpec)) fnExactReadSchemeCard

/-- THE TIED CARD OF 'laws.FnExactReadEdits'. -/
def fnExactReadEditsCard : Claim7 := { stood := { row := fnExactReadEditsRow, standIns := [], harness := (true, "6b9ee28c6e6d568a894cd0d160facaf1733a6b203b8aab01f1e3951b92e41ccb"), looks := true }, kinds := [], alts := [], laidByText := true, laidKinds := [.data, .data, .data, .data, .sentinel, .sentinel, .data, .pinned], laidTests := true, laidLooks := .later }
def FnExactReadEditsCardSaid : Prop := Claim7.holds Tryz.pinned (.plain (OpenSpec.ofChange fnExactReadEditsSpec)) fnExactReadEditsCard

/-- THE SECOND FORM's CARD OF 'laws.FnExactReadScheme'. -/
def fnExactReadSchemeUptoCard : Claim7 := { stood := { row := fnExactReadSchemeUptoRow, standIns := [], harness := (true, "6b9ee28c6e6d568a894cd0d160facaf1733a6b203b8aab01f1e3951b92e41ccb"), looks := true }, kinds := [], alts := [], laidByText := true, laidKinds := [.data, .data, .data, .data, .sentinel, .sentinel, .data, .pinned], laidTests := true, laidLooks := .later }
def FnExactReadSchemeUptoCardSaid : Prop := Claim7.holds Tryz.pinned (.plain (OpenSpec.upto fnExactReadSchemeSpec)) fnExactReadSchemeUptoCard

/-- THE SECOND FORM's CARD OF 'laws.FnExactReadEdits'. -/
def fnExactReadEditsUptoCard : Claim7 := { stood := { row := fnExactReadEditsUptoRow, standIns := [], harness := (true, "6b9ee28c6e6d568a894cd0d160facaf1733a6b203b8aab01f1e3951b92e41ccb"), looks := true }, kinds := [], alts := [], laidByText := true, laidKinds := [.data, .data, .data, .data, .sentinel, .sentinel, .data, .pinned], laidTests := true, laidLooks := .later }
def FnExactReadEditsUptoCardSaid : Prop := Claim7.holds Tryz.pinned (.plain (OpenSpec.upto fnExactReadEditsSpec)) fnExactReadEditsUptoCard
end Rows
end Go.Proofs.YtnbijfeidgddmaaGreatDoor
