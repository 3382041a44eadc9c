/-
  DERIVED. GIVEN WITH THE SEED: THE CARDS: each row of YtdommkpeilmdnaaDoorRows.lean that lists a variable, with what it lists TIED to the program's text (the seventh form; the later family's looks); each row that meets fmt, with fmt's text TOLD by the authors' own Lean function (tested against real Go, not proved from fmt's source: count such statements apart). THE CARD IS WHAT COUNTS. Prove the row's statement (the work); the ties are given (YtdommkpeilmdnaaDoorTie.lean); close each card by the builder's one call (the guide's Derived/Test/ToyasCard.lean, 'card_holds'). Laid BY PROGRAM, IN A SANDBOX (cutbox-door.mjs). By AI agents, Wed Nov 11 2026. No macro, syntax, notation, axiom, sorry.
-/
import Derived.Test.YtdommkpeilmdnaaDoorRows
import GoSem.ClaimSeven
namespace Go.Proofs.YtdommkpeilmdnaaDoor
namespace Rows

/-- THE TIED CARD OF 'laws.FnHyper'. -/
def fnHyperCard : Claim7 := { stood := { row := fnHyperRow, standIns := [], harness := (true, "924824761e763dbefc97fe6795e6311d35d1bdb3df84b03ef1554bd22dff02d9"), looks := true }, kinds := [], alts := [], laidByText := true, laidKinds := [.handle, .data], laidTests := true, laidLooks := .later }
def FnHyperCardSaid : Prop := Claim7.holds Tryd.pinned (.plain (OpenSpec.ofChange fnHyperSpec)) fnHyperCard

/-- THE SECOND FORM's CARD OF 'laws.FnHyper'. -/
def fnHyperUptoCard : Claim7 := { stood := { row := fnHyperUptoRow, standIns := [], harness := (true, "924824761e763dbefc97fe6795e6311d35d1bdb3df84b03ef1554bd22dff02d9"), looks := true }, kinds := [], alts := [], laidByText := true, laidKinds := [.handle, .data], laidTests := true, laidLooks := .later }
def FnHyperUptoCardSaid : Prop := Claim7.holds Tryd.pinned (.plain (OpenSpec.upto fnHyperSpec)) fnHyperUptoCard
end Rows
end Go.Proofs.YtdommkpeilmdnaaDoor
