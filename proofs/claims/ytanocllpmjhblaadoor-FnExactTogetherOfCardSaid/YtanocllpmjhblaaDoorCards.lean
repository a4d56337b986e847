/-
  DERIVED. GIVEN WITH THE SEED: THE CARDS: each row of YtanocllpmjhblaaDoorRows.lean that lists a variable, with what it lists TIED to the program's text (the seventh form; the later family's looks); each row that meets fmt, with fmt's text TOLD by the authors' own Lean function (tested against real Go, not proved from fmt's source: count such statements apart). THE CARD IS WHAT COUNTS. Prove the row's statement (the work); the ties are given (YtanocllpmjhblaaDoorTie.lean); close each card by the builder's one call (the guide's Derived/Test/ToyasCard.lean, 'card_holds'). Laid BY PROGRAM, IN A SANDBOX (cutbox-door.mjs). By AI agents, Wed Nov 11 2026. No macro, syntax, notation, axiom, sorry.
-/
import Derived.Test.YtanocllpmjhblaaDoorRows
import GoSem.ClaimSeven
namespace Go.Proofs.YtanocllpmjhblaaDoor
namespace Rows

/-- THE TIED CARD OF 'laws.FnExactIdleHoles'. -/
def fnExactIdleHolesCard : Claim7 := { stood := { row := fnExactIdleHolesRow, standIns := [], harness := (true, "76b3c170e1e81179bf744a48b6fcd4f09a6e9e0f80b6bfce6e346a5b090dbefa"), looks := true }, kinds := [], alts := [], laidByText := true, laidKinds := [.sentinel, .sentinel, .sentinel], laidTests := true, laidLooks := .later }
def FnExactIdleHolesCardSaid : Prop := Claim7.holds Tryd.pinned (.plain (OpenSpec.ofChange fnExactIdleHolesSpec)) fnExactIdleHolesCard

/-- THE TIED CARD OF 'laws.FnExactTogetherOf'. -/
def fnExactTogetherOfCard : Claim7 := { stood := { row := fnExactTogetherOfRow, standIns := [], harness := (true, "76b3c170e1e81179bf744a48b6fcd4f09a6e9e0f80b6bfce6e346a5b090dbefa"), looks := true }, kinds := [], alts := [], laidByText := true, laidKinds := [.sentinel, .sentinel, .sentinel], laidTests := true, laidLooks := .later }
def FnExactTogetherOfCardSaid : Prop := Claim7.holds Tryd.pinned (.plain (OpenSpec.ofChange fnExactTogetherOfSpec)) fnExactTogetherOfCard

/-- THE TIED CARD OF 'laws.FnExactCheckAfter'. -/
def fnExactCheckAfterCard : Claim7 := { stood := { row := fnExactCheckAfterRow, standIns := [], harness := (true, "76b3c170e1e81179bf744a48b6fcd4f09a6e9e0f80b6bfce6e346a5b090dbefa"), looks := true }, kinds := [], alts := [], laidByText := true, laidKinds := [.handle], laidTests := true, laidLooks := .later }
def FnExactCheckAfterCardSaid : Prop := Claim7.holds Tryd.pinned (.plain (OpenSpec.ofChange fnExactCheckAfterSpec)) fnExactCheckAfterCard

/-- THE TIED CARD OF 'laws.FnExactApplyEdit'. -/
def fnExactApplyEditCard : Claim7 := { stood := { row := fnExactApplyEditRow, standIns := [], harness := (true, "76b3c170e1e81179bf744a48b6fcd4f09a6e9e0f80b6bfce6e346a5b090dbefa"), looks := true }, kinds := [], alts := [], laidByText := true, laidKinds := [.handle], laidTests := true, laidLooks := .later }
def FnExactApplyEditCardSaid : Prop := Claim7.holds Tryd.pinned (.plain (OpenSpec.ofChange fnExactApplyEditSpec)) fnExactApplyEditCard

/-- THE TIED CARD OF 'laws.FnExactApplyEdits'. -/
def fnExactApplyEditsCard : Claim7 := { stood := { row := fnExactApplyEditsRow, standIns := [], harness := (true, "76b3c170e1e81179bf744a48b6fcd4f09a6e9e0f80b6bfce6e346a5b090dbefa"), looks := true }, kinds := [], alts := [], laidByText := true, laidKinds := [.handle], laidTests := true, laidLooks := .later }
def FnExactApplyEditsCardSaid : Prop := Claim7.holds Tryd.pinned (.plain (OpenSpec.ofChange fnExactApplyEditsSpec)) fnExactApplyEditsCard

/-- THE SECOND FORM's CARD OF 'laws.FnExactIdleHoles'. -/
def fnExactIdleHolesUptoCard : Claim7 := { stood := { row := fnExactIdleHolesUptoRow, standIns := [], harness := (true, "76b3c170e1e81179bf744a48b6fcd4f09a6e9e0f80b6bfce6e346a5b090dbefa"), looks := true }, kinds := [], alts := [], laidByText := true, laidKinds := [.sentinel, .sentinel, .sentinel], laidTests := true, laidLooks := .later }
def FnExactIdleHolesUptoCardSaid : Prop := Claim7.holds Tryd.pinned (.plain (OpenSpec.upto fnExactIdleHolesSpec)) fnExactIdleHolesUptoCard

/-- THE SECOND FORM's CARD OF 'laws.FnExactTogetherOf'. -/
def fnExactTogetherOfUptoCard : Claim7 := { stood := { row := fnExactTogetherOfUptoRow, standIns := [], harness := (true, "76b3c170e1e81179bf744a48b6fcd4f09a6e9e0f80b6bfce6e346a5b090dbefa"), looks := true }, kinds := [], alts := [], laidByText := true, laidKinds := [.sentinel, .sentinel, .sentinel], laidTests := true, laidLooks := .later }
def FnExactTogetherOfUptoCardSaid : Prop := Claim7.holds Tryd.pinned (.plain (OpenSpec.upto fnExactTogetherOfSpec)) fnExactTogetherOfUptoCard

/-- THE SECOND FORM's CARD OF 'laws.FnExactCheckAfter'. -/
def fnExactCheckAfterUptoCard : Claim7 := { stood := { row := fnExactCheckAfterUptoRow, standIns := [], harness := (true, "76b3c170e1e81179bf744a48b6fcd4f09a6e9e0f80b6bfce6e346a5b090dbefa"), looks := true }, kinds := [], alts := [], laidByText := true, laidKinds := [.handle], laidTests := true, laidLooks := .later }
def FnExactCheckAfterUptoCardSaid : Prop := Claim7.holds Tryd.pinned (.plain (OpenSpec.upto fnExactCheckAfterSpec)) fnExactCheckAfterUptoCard

/-- THE SECOND FORM's CARD OF 'laws.FnExactApplyEdit'. -/
def fnExactApplyEditUptoCard : Claim7 := { stood := { row := fnExactApplyEditUptoRow, standIns := [], harness := (true, "76b3c170e1e81179bf744a48b6fcd4f09a6e9e0f80b6bfce6e346a5b090dbefa"), looks := true }, kinds := [], alts := [], laidByText := true, laidKinds := [.handle], laidTests := true, laidLooks := .later }
def FnExactApplyEditUptoCardSaid : Prop := Claim7.holds Tryd.pinned (.plain (OpenSpec.upto fnExactApplyEditSpec)) fnExactApplyEditUptoCard

/-- THE SECOND FORM's CARD OF 'laws.FnExactApplyEdits'. -/
def fnExactApplyEditsUptoCard : Claim7 := { stood := { row := fnExactApplyEditsUptoRow, standIns := [], harness := (true, "76b3c170e1e81179bf744a48b6fcd4f09a6e9e0f80b6bfce6e346a5b090dbefa"), looks := true }, kinds := [], alts := [], laidByText := true, laidKinds := [.handle], laidTests := true, laidLooks := .later }
def FnExactApplyEditsUptoCardSaid : Prop := Claim7.holds Tryd.pinned (.plain (OpenSpec.upto fnExactApplyEditsSpec)) fnExactApplyEditsUptoCard
end Rows
end Go.Proofs.YtanocllpmjhblaaDoor
