/-
  DERIVED. GIVEN WITH THE SEED: THE CARDS: each row of YtdjflbanbhhniaaDoorRows.lean that lists a variable, with what it lists TIED to the program's text (the seventh form; the later family's looks); each row that meets fmt, with fmt's text TOLD by the authors' own Lean function (tested against real Go, not proved from fmt's source: count such statements apart). THE CARD IS WHAT COUNTS. Prove the row's statement (the work); the ties are given (YtdjflbanbhhniaaDoorTie.lean); close each card by the builder's one call (the guide's Derived/Test/ToyasCard.lean, 'card_holds'). Laid BY PROGRAM, IN A SANDBOX (cutbox-door.mjs). By AI agents, Wed Nov 11 2026. No macro, syntax, notation, axiom, sorry.
-/
import Derived.Test.YtdjflbanbhhniaaDoorRows
import GoSem.ClaimSeven
namespace Go.Proofs.YtdjflbanbhhniaaDoor
namespace Rows

/-- THE TIED CARD OF 'laws.FnExactRequestFields'. -/
def fnExactRequestFieldsCard : Claim7 := { stood := { row := fnExactRequestFieldsRow, standIns := [], harness := (true, "ac5a7e28c749a41926b7ad40855bc1ae68c9bcb1c9c8ea753bd3d24ef98c56c1"), looks := true }, kinds := [], alts := [], laidByText := true, laidKinds := [.data, .data, .data, .sentinel, .sentinel], laidTests := true, laidLooks := .later }
def FnExactRequestFieldsCardSaid : Prop := Claim7.holds Tryd.pinned (.plain (OpenSpec.ofChange fnExactRequestFieldsSpec)) fnExactRequestFieldsCard

/-- THE TIED CARD OF 'laws.FnExactRequestOf'. -/
def fnExactRequestOfCard : Claim7 := { stood := { row := fnExactRequestOfRow, standIns := [], harness := (true, "ac5a7e28c749a41926b7ad40855bc1ae68c9bcb1c9c8ea753bd3d24ef98c56c1"), looks := true }, kinds := [], alts := [], laidByText := true, laidKinds := [.data, .data, .data, .sentinel, .sentinel], laidTests := true, laidLooks := .later }
def FnExactRequestOfCardSaid : Prop := Claim7.holds Tryd.pinned (.plain (OpenSpec.ofChange fnExactRequestOfSpec)) fnExactRequestOfCard

/-- THE SECOND FORM's CARD OF 'laws.FnExactRequestFields'. -/
def fnExactRequestFieldsUptoCard : Claim7 := { stood := { row := fnExactRequestFieldsUptoRow, standIns := [], harness := (true, "ac5a7e28c749a41926b7ad40855bc1ae68c9bcb1c9c8ea753bd3d24ef98c56c1"), looks := true }, kinds := [], alts := [], laidByText := true, laidKinds := [.data, .data, .data, .sentinel, .sentinel], laidTests := true, laidLooks := .later }
def FnExactRequestFieldsUptoCardSaid : Prop := Claim7.holds Tryd.pinned (.plain (OpenSpec.upto fnExactRequestFieldsSpec)) fnExactRequestFieldsUptoCard

/-- THE SECOND FORM's CARD OF 'laws.FnExactRequestOf'. -/
def fnExactRequestOfUptoCard : Claim7 := { stood := { row := fnExactRequestOfUptoRow, standIns := [], harness := (true, "ac5a7e28c749a41926b7ad40855bc1ae68c9bcb1c9c8ea753bd3d24ef98c56c1"), looks := true }, kinds := [], alts := [], laidByText := true, laidKinds := [.data, .data, .data, .sentinel, .sentinel], laidTests := true, laidLooks := .later }
def FnExactRequestOfUptoCardSaid : Prop := Claim7.holds Tryd.pinned (.plain (OpenSpec.upto fnExactRequestOfSpec)) fnExactRequestOfUptoCard
end Rows
end Go.Proofs.YtdjflbanbhhniaaDoor
