/-
  DERIVED. GIVEN WITH THE SEED: THE CARDS: each row of YtcljchbceeiheaaDoorRows.lean that lists a variable, with what it lists TIED to the program's text (the seventh form; the later family's looks); each row that meets fmt, with fmt's text TOLD by the authors' own Lean function (tested against real Go, not proved from fmt's source: count such statements apart). THE CARD IS WHAT COUNTS. Prove the row's statement (the work); the ties are given (YtcljchbceeiheaaDoorTie.lean); close each card by the builder's one call (the guide's Derived/Test/ToyasCard.lean, 'card_holds'). Laid BY PROGRAM, IN A SANDBOX (cutbox-door.mjs). By AI agents, Wed Nov 11 2026. No macro, syntax, notation, axiom, sorry.
-/
import Derived.Test.YtcljchbceeiheaaDoorRows
import GoSem.ClaimSeven
namespace Go.Proofs.YtcljchbceeiheaaDoor
namespace Rows

/-- THE TIED CARD OF 'laws.FnExactHelloBytes'. -/
def fnExactHelloBytesCard : Claim7 := { stood := { row := fnExactHelloBytesRow, standIns := [], harness := (true, "cc2c29fa309fe81e8dda596ade6a5e7d0c0307ed9574404beda02bb895399a67"), looks := false }, kinds := [], alts := [], laidByText := true, laidKinds := [.data], laidTests := true, laidLooks := .later }
def FnExactHelloBytesCardSaid : Prop := Claim7.holds Tryd.pinned (.plain (OpenSpec.ofChange fnExactHelloBytesSpec)) fnExactHelloBytesCard

/-- THE SECOND FORM's CARD OF 'laws.FnExactHelloBytes'. -/
def fnExactHelloBytesUptoCard : Claim7 := { stood := { row := fnExactHelloBytesUptoRow, standIns := [], harness := (true, "cc2c29fa309fe81e8dda596ade6a5e7d0c0307ed9574404beda02bb895399a67"), looks := false }, kinds := [], alts := [], laidByText := true, laidKinds := [.data], laidTests := true, laidLooks := .later }
def FnExactHelloBytesUptoCardSaid : Prop := Claim7.holds Tryd.pinned (.plain (OpenSpec.upto fnExactHelloBytesSpec)) fnExactHelloBytesUptoCard
end Rows
end Go.Proofs.YtcljchbceeiheaaDoor
