/-
  DERIVED. GIVEN WITH THE SEED: THE CARDS: each row of YtcakofjifhjmkaaDoorRows.lean that lists a variable, with what it lists TIED to the program's text (the seventh form; the later family's looks); each row that meets fmt, with fmt's text TOLD by the authors' own Lean function (tested against real Go, not proved from fmt's source: count such statements apart). THE CARD IS WHAT COUNTS. Prove the row's statement (the work); the ties are given (YtcakofjifhjmkaaDoorTie.lean); close each card by the builder's one call (the guide's Derived/Test/ToyasCard.lean, 'card_holds'). Laid BY PROGRAM, IN A SANDBOX (cutbox-door.mjs). By AI agents, Wed Nov 11 2026. No macro, syntax, notation, axiom, sorry.
-/
import Derived.Test.YtcakofjifhjmkaaDoorRows
import GoSem.ClaimSeven
namespace Go.Proofs.YtcakofjifhjmkaaDoor
namespace Rows

/-- THE TIED CARD OF 'laws.FnExactParamsOK'. -/
def fnExactParamsOKCard : Claim7 := { stood := { row := fnExactParamsOKRow, standIns := [], harness := (true, "20bab6bd7a381186cd99ad0b93fd6ae1f4b65d79d774883b16024ccd0dc94443"), looks := false }, kinds := [], alts := [], laidByText := true, laidKinds := [.data], laidTests := true, laidLooks := .later }
def FnExactParamsOKCardSaid : Prop := Claim7.holds Tryd.pinned (.plain (OpenSpec.ofChange fnExactParamsOKSpec)) fnExactParamsOKCard

/-- THE SECOND FORM's CARD OF 'laws.FnExactParamsOK'. -/
def fnExactParamsOKUptoCard : Claim7 := { stood := { row := fnExactParamsOKUptoRow, standIns := [], harness := (true, "20bab6bd7a381186cd99ad0b93fd6ae1f4b65d79d774883b16024ccd0dc94443"), looks := false }, kinds := [], alts := [], laidByText := true, laidKinds := [.data], laidTests := true, laidLooks := .later }
def FnExactParamsOKUptoCardSaid : Prop := Claim7.holds Tryd.pinned (.plain (OpenSpec.upto fnExactParamsOKSpec)) fnExactParamsOKUptoCard
end Rows
end Go.Proofs.YtcakofjifhjmkaaDoor
