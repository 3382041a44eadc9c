/-
  DERIVED. GIVEN WITH THE SEED: THE CARDS: each row of YtdkonhjbcgnfhaaDoorRows.lean that lists a variable, with what it lists TIED to the program's text (the seventh form; the later family's looks); each row that meets fmt, with fmt's text TOLD by the authors' own Lean function (tested against real Go, not proved from fmt's source: count such statements apart). THE CARD IS WHAT COUNTS. Prove the row's statement (the work); the ties are given (YtdkonhjbcgnfhaaDoorTie.lean); close each card by the builder's one call (the guide's Derived/Test/ToyasCard.lean, 'card_holds'). Laid BY PROGRAM, IN A SANDBOX (cutbox-door.mjs). By AI agents, Wed Nov 11 2026. No macro, syntax, notation, axiom, sorry.
-/
import Derived.Test.YtdkonhjbcgnfhaaDoorRows
import GoSem.ClaimSeven
namespace Go.Proofs.YtdkonhjbcgnfhaaDoor
namespace Rows

/-- THE TIED CARD OF 'laws.FnExactSendRun'. -/
def fnExactSendRunCard : Claim7 := { stood := { row := fnExactSendRunRow, standIns := [], harness := (true, "f26220ece2daf75ec88e4abc1d9d6b59cb94f617182d64a19bed3dfd83907775"), looks := false }, kinds := [], alts := [], laidByText := true, laidKinds := [.data], laidTests := true, laidLooks := .later }
def FnExactSendRunCardSaid : Prop := Claim7.holds Tryd.pinned (.plain (OpenSpec.ofChange fnExactSendRunSpec)) fnExactSendRunCard

/-- THE SECOND FORM's CARD OF 'laws.FnExactSendRun'. -/
def fnExactSendRunUptoCard : Claim7 := { stood := { row := fnExactSendRunUptoRow, standIns := [], harness := (true, "f26220ece2daf75ec88e4abc1d9d6b59cb94f617182d64a19bed3dfd83907775"), looks := false }, kinds := [], alts := [], laidByText := true, laidKinds := [.data], laidTests := true, laidLooks := .later }
def FnExactSendRunUptoCardSaid : Prop := Claim7.holds Tryd.pinned (.plain (OpenSpec.upto fnExactSendRunSpec)) fnExactSendRunUptoCard
end Rows
end Go.Proofs.YtdkonhjbcgnfhaaDoor
