/-
  DERIVED. GIVEN WITH THE SEED: THE CARDS: each row of YtdhkcejfcmobcaaDoorRows.lean that lists a variable, with what it lists TIED to the program's text (the seventh form; the later family's looks); each row that meets fmt, with fmt's text TOLD by the authors' own Lean function (tested against real Go, not proved from fmt's source: count such statements apart). THE CARD IS WHAT COUNTS. Prove the row's statement (the work); the ties are given (YtdhkcejfcmobcaaDoorTie.lean); close each card by the builder's one call (the guide's Derived/Test/ToyasCard.lean, 'card_holds'). Laid BY PROGRAM, IN A SANDBOX (cutbox-door.mjs). By AI agents, Wed Nov 11 2026. No macro, syntax, notation, axiom, sorry.
-/
import Derived.Test.YtdhkcejfcmobcaaDoorRows
import GoSem.ClaimSeven
namespace Go.Proofs.YtdhkcejfcmobcaaDoor
namespace Rows

/-- THE TIED CARD OF 'laws.FnExactResponseFields'. -/
def fnExactResponseFieldsCard : Claim7 := { stood := { row := fnExactResponseFieldsRow, standIns := [], harness := (true, "c3b92cfefce605e634e3eafe5b9e420d71d517d02e76e36b801916037811675d"), looks := true }, kinds := [], alts := [], laidByText := true, laidKinds := [.data, .data, .data, .sentinel, .sentinel], laidTests := true, laidLooks := .later }
def FnExactResponseFieldsCardSaid : Prop := Claim7.holds Tryd.pinned (.plain (OpenSpec.ofChange fnExactResponseFieldsSpec)) fnExactResponseFieldsCard

/-- THE TIED CARD OF 'laws.FnExactResponseOf'. -/
def fnExactResponseOfCard : Claim7 := { stood := { row := fnExactResponseOfRow, standIns := [], harness := (true, "c3b92cfefce605e634e3eafe5b9e420d71d517d02e76e36b801916037811675d"), looks := true }, kinds := [], alts := [], laidByText := true, laidKinds := [.data, .data, .data, .sentinel, .sentinel], laidTests := true, laidLooks := .later }
def FnExactResponseOfCardSaid : Prop := Claim7.holds Tryd.pinned (.plain (OpenSpec.ofChange fnExactResponseOfSpec)) fnExactResponseOfCard

/-- THE SECOND FORM's CARD OF 'laws.FnExactResponseFields'. -/
def fnExactResponseFieldsUptoCard : Claim7 := { stood := { row := fnExactResponseFieldsUptoRow, standIns := [], harness := (true, "c3b92cfefce605e634e3eafe5b9e420d71d517d02e76e36b801916037811675d"), looks := true }, kinds := [], alts := [], laidByText := true, laidKinds := [.data, .data, .data, .sentinel, .sentinel], laidTests := true, laidLooks := .later }
def FnExactResponseFieldsUptoCardSaid : Prop := Claim7.holds Tryd.pinned (.plain (OpenSpec.upto fnExactResponseFieldsSpec)) fnExactResponseFieldsUptoCard

/-- THE SECOND FORM's CARD OF 'laws.FnExactResponseOf'. -/
def fnExactResponseOfUptoCard : Claim7 := { stood := { row := fnExactResponseOfUptoRow, standIns := [], harness := (true, "c3b92cfefce605e634e3eafe5b9e420d71d517d02e76e36b801916037811675d"), looks := true }, kinds := [], alts := [], laidByText := true, laidKinds := [.data, .data, .data, .sentinel, .sentinel], laidTests := true, laidLooks := .later }
def FnExactResponseOfUptoCardSaid : Prop := Claim7.holds Tryd.pinned (.plain (OpenSpec.upto fnExactResponseOfSpec)) fnExactResponseOfUptoCard
end Rows
end Go.Proofs.YtdhkcejfcmobcaaDoor
