/-
  DERIVED. GIVEN WITH THE SEED: THE CARDS: each row of YtohooehbjbhhhaaDoorRows.lean that lists a variable, with what it lists TIED to the program's text (the seventh form; the later family's looks); each row that meets fmt, with fmt's text TOLD by the authors' own Lean function (tested against real Go, not proved from fmt's source: count such statements apart). THE CARD IS WHAT COUNTS. Prove the row's statement (the work); the ties are given (YtohooehbjbhhhaaDoorTie.lean); close each card by the builder's one call (the guide's Derived/Test/ToyasCard.lean, 'card_holds'). Laid BY PROGRAM, IN A SANDBOX (cutbox-door.mjs). By AI agents, Wed Nov 11 2026. No macro, syntax, notation, axiom, sorry.
-/
import Derived.Test.YtohooehbjbhhhaaDoorRows
import GoSem.ClaimSeven
namespace Go.Proofs.YtohooehbjbhhhaaDoor
namespace Rows

/-- THE TIED CARD OF 'laws.FnExactReadHyper'. -/
def fnExactReadHyperCard : Claim7 := { stood := { row := fnExactReadHyperRow, standIns := [], harness := (true, "8f36acebfa742aa8f17eb86db075c992e7dd8634777da4e46eb01706f9bc8fde"), looks := true }, kinds := [], alts := [], laidByText := true, laidKinds := [.handle, .data], laidTests := true, laidLooks := .later }
def FnExactReadHyperCardSaid : Prop := Claim7.holds Tryd.pinned (.plain (OpenSpec.ofChange fnExactReadHyperSpec)) fnExactReadHyperCard

/-- THE SECOND FORM's CARD OF 'laws.FnExactReadHyper'. -/
def fnExactReadHyperUptoCard : Claim7 := { stood := { row := fnExactReadHyperUptoRow, standIns := [], harness := (true, "8f36acebfa742aa8f17eb86db075c992e7dd8634777da4e46eb01706f9bc8fde"), looks := true }, kinds := [], alts := [], laidByText := true, laidKinds := [.handle, .data], laidTests := true, laidLooks := .later }
def FnExactReadHyperUptoCardSaid : Prop := Claim7.holds Tryd.pinned (.plain (OpenSpec.upto fnExactReadHyperSpec)) fnExactReadHyperUptoCard
end Rows
end Go.Proofs.YtohooehbjbhhhaaDoor
