/-
  DERIVED. GIVEN WITH THE SEED: THE CARDS: each row of YtmfbfophjnaapaaDoorRows.lean that lists a variable, with what it lists TIED to the program's text (the seventh form; the later family's looks); each row that meets fmt, with fmt's text TOLD by the authors' own Lean function (tested against real Go, not proved from fmt's source: count such statements apart). THE CARD IS WHAT COUNTS. Prove the row's statement (the work); the ties are given (YtmfbfophjnaapaaDoorTie.lean); close each card by the builder's one call (the guide's Derived/Test/ToyasCard.lean, 'card_holds'). Laid BY PROGRAM, IN A SANDBOX (cutbox-door.mjs). By AI agents, Wed Nov 11 2026. No macro, syntax, notation, axiom, sorry.
-/
import Derived.Test.YtmfbfophjnaapaaDoorRows
import GoSem.ClaimSeven
namespace Go.Proofs.YtmfbfophjnaapaaDoor
namespace Rows

/-- THE TIED CARD OF 'laws.FnExactHyperBytes'. -/
def fnExactHyperBytesCard : Claim7 := { stood := { row := fnExactHyperBytesRow, standIns := [], harness := (true, "43234643bddc2a46e39165a84f0985d89f3ca12da56bb38e639bbff2ea9a402e"), looks := false }, kinds := [], alts := [], laidByText := true, laidKinds := [.data], laidTests := true, laidLooks := .later }
def FnExactHyperBytesCardSaid : Prop := Claim7.holds Tryd.pinned (.plain (OpenSpec.ofChange fnExactHyperBytesSpec)) fnExactHyperBytesCard

/-- THE SECOND FORM's CARD OF 'laws.FnExactHyperBytes'. -/
def fnExactHyperBytesUptoCard : Claim7 := { stood := { row := fnExactHyperBytesUptoRow, standIns := [], harness := (true, "43234643bddc2a46e39165a84f0985d89f3ca12da56bb38e639bbff2ea9a402e"), looks := false }, kinds := [], alts := [], laidByText := true, laidKinds := [.data], laidTests := true, laidLooks := .later }
def FnExactHyperBytesUptoCardSaid : Prop := Claim7.holds Tryd.pinned (.plain (OpenSpec.upto fnExactHyperBytesSpec)) fnExactHyperBytesUptoCard
end Rows
end Go.Proofs.YtmfbfophjnaapaaDoor
