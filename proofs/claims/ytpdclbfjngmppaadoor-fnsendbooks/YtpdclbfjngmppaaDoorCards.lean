/-
  DERIVED. GIVEN WITH THE SEED: THE CARDS: each row of YtpdclbfjngmppaaDoorRows.lean that lists a variable, with what it lists TIED to the program's text (the seventh form; the later family's looks); each row that meets fmt, with fmt's text TOLD by the authors' own Lean function (tested against real Go, not proved from fmt's source: count such statements apart). THE CARD IS WHAT COUNTS. Prove the row's statement (the work); the ties are given (YtpdclbfjngmppaaDoorTie.lean); close each card by the builder's one call (the guide's Derived/Test/ToyasCard.lean, 'card_holds'). Laid BY PROGRAM, IN A SANDBOX (cutbox-door.mjs). By AI agents, Wed Nov 11 2026. No macro, syntax, notation, axiom, sorry.
-/
import Derived.Test.YtpdclbfjngmppaaDoorRows
import GoSem.ClaimSeven
namespace Go.Proofs.YtpdclbfjngmppaaDoor
namespace Rows

/-- THE TIED CARD OF 'laws.FnSendBooks'. -/
def fnSendBooksCard : Claim7 := { stood := { row := fnSendBooksRow, standIns := [], harness := (true, "192e979cb1117186633ae60048ec2ce028ee36f2a2b250f6602c6edc5b381519"), looks := false }, kinds := [], alts := [], laidByText := true, laidKinds := [.data], laidTests := true, laidLooks := .later }
def FnSendBooksCardSaid : Prop := Claim7.holds Tryd.pinned (.plain (OpenSpec.ofChange fnSendBooksSpec)) fnSendBooksCard

/-- THE SECOND FORM's CARD OF 'laws.FnSendBooks'. -/
def fnSendBooksUptoCard : Claim7 := { stood := { row := fnSendBooksUptoRow, standIns := [], harness := (true, "192e979cb1117186633ae60048ec2ce028ee36f2a2b250f6602c6edc5b381519"), looks := false }, kinds := [], alts := [], laidByText := true, laidKinds := [.data], laidTests := true, laidLooks := .later }
def FnSendBooksUptoCardSaid : Prop := Claim7.holds Tryd.pinned (.plain (OpenSpec.upto fnSendBooksSpec)) fnSendBooksUptoCard
end Rows
end Go.Proofs.YtpdclbfjngmppaaDoor
