/-
  DERIVED. GIVEN WITH THE SEED: THE CARDS: each row of YtpkpjkceiikakaaDoorRows.lean that lists a variable, with what it lists TIED to the program's text (the seventh form; the later family's looks); each row that meets fmt, with fmt's text TOLD by the authors' own Lean function (tested against real Go, not proved from fmt's source: count such statements apart). THE CARD IS WHAT COUNTS. Prove the row's statement (the work); the ties are given (YtpkpjkceiikakaaDoorTie.lean); close each card by the builder's one call (the guide's Derived/Test/ToyasCard.lean, 'card_holds'). Laid BY PROGRAM, IN A SANDBOX (cutbox-door.mjs). By AI agents, Wed Nov 11 2026. No macro, syntax, notation, axiom, sorry.
-/
import Derived.Test.YtpkpjkceiikakaaDoorRows
import GoSem.ClaimSeven
namespace Go.Proofs.YtpkpjkceiikakaaDoor
namespace Rows

/-- THE TIED CARD OF 'laws.FnExactReadMix'. -/
def fnExactReadMixCard : Claim7 := { stood := { row := fnExactReadMixRow, standIns := [], harness := (true, "d0cb95fe5fd02dcb488e52a51a8ca343763cab839cb2e2a30d91d53abb503bdf"), looks := true }, kinds := [], alts := [], laidByText := true, laidKinds := [.data, .data, .data, .data, .sentinel, .sentinel, .pinned], laidTests := true, laidLooks := .later }
def FnExactReadMixCardSaid : Prop := Claim7.holds Tryd.pinned (.plain (OpenSpec.ofChange fnExactReadMixSpec)) fnExactReadMixCard

/-- THE TIED CARD OF 'laws.FnExactReadCard'. -/
def fnExactReadCardCard : Claim7 := { stood := { row := fnExactReadCardRow, standIns := [], harness := (true, "d0cb95fe5fd02dcb488e52a51a8ca343763cab839cb2e2a30d91d53abb503bdf"), looks := true }, kinds := [], alts := [], laidByText := true, laidKinds := [.data, .data, .data, .data, .sentinel, .sentinel, .pinned], laidTests := true, laidLooks := .later }
def FnExactReadCardCardSaid : Prop := Claim7.holds Tryd.pinned (.plain (OpenSpec.ofChange fnExactReadCardSpec)) fnExactReadCardCard

/-- THE TIED CARD OF 'laws.FnExactReadDeck'. -/
def fnExactReadDeckCard : Claim7 := { stood := { row := fnExactReadDeckRow, standIns := [], harness := (true, "d0cb95fe5fd02dcb488e52a51a8ca343763cab839cb2e2a30d91d53abb503bdf"), looks := true }, kinds := [], alts := [], laidByText := true, laidKinds := [.data, .data, .data, .data, .sentinel, .sentinel, .pinned], laidTests := true, laidLooks := .later }
def FnExactReadDeckCardSaid : Prop := Claim7.holds Tryd.pinned (.plain (OpenSpec.ofChange fnExactReadDeckSpec)) fnExactReadDeckCard

/-- THE TIED CARD OF 'laws.FnExactReadWear'. -/
def fnExactReadWearCard : Claim7 := { stood := { row := fnExactReadWearRow, standIns := [], harness := (true, "d0cb95fe5fd02dcb488e52a51a8ca343763cab839cb2e2a30d91d53abb503bdf"), looks := true }, kinds := [], alts := [], laidByText := true, laidKinds := [.data, .data, .data, .data, .sentinel, .sentinel, .listed, .data, .pinned], laidTests := true, laidLooks := .later }
def FnExactReadWearCardSaid : Prop := Claim7.holds Tryd.pinned (.plain (OpenSpec.ofChange fnExactReadWearSpec)) fnExactReadWearCard

/-- THE SECOND FORM's CARD OF 'laws.FnExactReadMix'. -/
def fnExactReadMixUptoCard : Claim7 := { stood := { row := fnExactReadMixUptoRow, standIns := [], harness := (true, "d0cb95fe5fd02dcb488e52a51a8ca343763cab839cb2e2a30d91d53abb503bdf"), looks := true }, kinds := [], alts := [], laidByText := true, laidKinds := [.data, .data, .data, .data, .sentinel, .sentinel, .pinned], laidTests := true, laidLooks := .later }
def FnExactReadMixUptoCardSaid : Prop := Claim7.holds Tryd.pinned (.plain (OpenSpec.upto fnExactReadMixSpec)) fnExactReadMixUptoCard

/-- THE SECOND FORM's CARD OF 'laws.FnExactReadCard'. -/
def fnExactReadCardUptoCard : Claim7 := { stood := { row := fnExactReadCardUptoRow, standIns := [], harness := (true, "d0cb95fe5fd02dcb488e52a51a8ca343763cab839cb2e2a30d91d53abb503bdf"), looks := true }, kinds := [], alts := [], laidByText := true, laidKinds := [.data, .data, .data, .data, .sentinel, .sentinel, .pinned], laidTests := true, laidLooks := .later }
def FnExactReadCardUptoCardSaid : Prop := Claim7.holds Tryd.pinned (.plain (OpenSpec.upto fnExactReadCardSpec)) fnExactReadCardUptoCard

/-- THE SECOND FORM's CARD OF 'laws.FnExactReadDeck'. -/
def fnExactReadDeckUptoCard : Claim7 := { stood := { row := fnExactReadDeckUptoRow, standIns := [], harness := (true, "d0cb95fe5fd02dcb488e52a51a8ca343763cab839cb2e2a30d91d53abb503bdf"), looks := true }, kinds := [], alts := [], laidByText := true, laidKinds := [.data, .data, .data, .data, .sentinel, .sentinel, .pinned], laidTests := true, laidLooks := .later }
def FnExactReadDeckUptoCardSaid : Prop := Claim7.holds Tryd.pinned (.plain (OpenSpec.upto fnExactReadDeckSpec)) fnExactReadDeckUptoCard

/-- THE SECOND FORM's CARD OF 'laws.FnExactReadWear'. -/
def fnExactReadWearUptoCard : Claim7 := { stood := { row := fnExactReadWearUptoRow, standIns := [], harness := (true, "d0cb95fe5fd02dcb488e52a51a8ca343763cab839cb2e2a30d91d53abb503bdf"), looks := true }, kinds := [], alts := [], laidByText := true, laidKinds := [.data, .data, .data, .data, .sentinel, .sentinel, .listed, .data, .pinned], laidTests := true, laidLooks := .later }
def FnExactReadWearUptoCardSaid : Prop := Claim7.holds Tryd.pinned (.plain (OpenSpec.upto fnExactReadWearSpec)) fnExactReadWearUptoCard
end Rows
end Go.Proofs.YtpkpjkceiikakaaDoor
