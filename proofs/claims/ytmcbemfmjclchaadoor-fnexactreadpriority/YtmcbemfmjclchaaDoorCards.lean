/-
  DERIVED. GIVEN WITH THE SEED: THE CARDS: each row of YtmcbemfmjclchaaDoorRows.lean that lists a variable, with what it lists TIED to the program's text (the seventh form; the later family's looks); each row that meets fmt, with fmt's text TOLD by the authors' own Lean function (tested against real Go, not proved from fmt's source: count such statements apart). THE CARD IS WHAT COUNTS. Prove the row's statement (the work); the ties are given (YtmcbemfmjclchaaDoorTie.lean); close each card by the builder's one call (the guide's Derived/Test/ToyasCard.lean, 'card_holds'). Laid BY PROGRAM, IN A SANDBOX (cutbox-door.mjs). By AI agents, Wed Nov 11 2026. No macro, syntax, notation, axiom, sorry.
-/
import Derived.Test.YtmcbemfmjclchaaDoorRows
import GoSem.ClaimSeven
namespace Go.Proofs.YtmcbemfmjclchaaDoor
namespace Rows

/-- THE TIED CARD OF 'laws.FnExactReadPriority'. -/
def fnExactReadPriorityCard : Claim7 := { stood := { row := fnExactReadPriorityRow, standIns := [], harness := (true, "9848f89f018b76f8a4145dbe894bd20066714dbfb79afc1f91fe21fe7daeaea0"), looks := false }, kinds := [], alts := [], laidByText := true, laidKinds := [.data, .data, .data, .data, .pinned], laidTests := true, laidLooks := .later }
def FnExactReadPriorityCardSaid : Prop := Claim7.holds Tryd.pinned (.plain (OpenSpec.ofChange fnExactReadPrioritySpec)) fnExactReadPriorityCard

/-- THE SECOND FORM's CARD OF 'laws.FnExactReadPriority'. -/
def fnExactReadPriorityUptoCard : Claim7 := { stood := { row := fnExactReadPriorityUptoRow, standIns := [], harness := (true, "9848f89f018b76f8a4145dbe894bd20066714dbfb79afc1f91fe21fe7daeaea0"), looks := false }, kinds := [], alts := [], laidByText := true, laidKinds := [.data, .data, .data, .data, .pinned], laidTests := true, laidLooks := .later }
def FnExactReadPriorityUptoCardSaid : Prop := Claim7.holds Tryd.pinned (.plain (OpenSpec.upto fnExactReadPrioritySpec)) fnExactReadPriorityUptoCard
end Rows
end Go.Proofs.YtmcbemfmjclchaaDoor
