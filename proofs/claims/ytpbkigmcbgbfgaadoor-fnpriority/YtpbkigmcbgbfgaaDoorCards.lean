/-
  DERIVED. GIVEN WITH THE SEED: THE CARDS: each row of YtpbkigmcbgbfgaaDoorRows.lean that lists a variable, with what it lists TIED to the program's text (the seventh form; the later family's looks); each row that meets fmt, with fmt's text TOLD by the authors' own Lean function (tested against real Go, not proved from fmt's source: count such statements apart). THE CARD IS WHAT COUNTS. Prove the row's statement (the work); the ties are given (YtpbkigmcbgbfgaaDoorTie.lean); close each card by the builder's one call (the guide's Derived/Test/ToyasCard.lean, 'card_holds'). Laid BY PROGRAM, IN A SANDBOX (cutbox-door.mjs). By AI agents, Wed Nov 11 2026. No macro, syntax, notation, axiom, sorry.
-/
import Derived.Test.YtpbkigmcbgbfgaaDoorRows
import GoSem.ClaimSeven
namespace Go.Proofs.YtpbkigmcbgbfgaaDoor
namespace Rows

/-- THE TIED CARD OF 'laws.FnPriority'. -/
def fnPriorityCard : Claim7 := { stood := { row := fnPriorityRow, standIns := [], harness := (true, "4d1a13b4626960284d02cf18e13b3382572a6ee70db4cd64beda1825bfb7087c"), looks := false }, kinds := [], alts := [], laidByText := true, laidKinds := [.data, .data, .data, .data, .pinned], laidTests := true, laidLooks := .later }
def FnPriorityCardSaid : Prop := Claim7.holds Tryd.pinned (.plain (OpenSpec.ofChange fnPrioritySpec)) fnPriorityCard

/-- THE SECOND FORM's CARD OF 'laws.FnPriority'. -/
def fnPriorityUptoCard : Claim7 := { stood := { row := fnPriorityUptoRow, standIns := [], harness := (true, "4d1a13b4626960284d02cf18e13b3382572a6ee70db4cd64beda1825bfb7087c"), looks := false }, kinds := [], alts := [], laidByText := true, laidKinds := [.data, .data, .data, .data, .pinned], laidTests := true, laidLooks := .later }
def FnPriorityUptoCardSaid : Prop := Claim7.holds Tryd.pinned (.plain (OpenSpec.upto fnPrioritySpec)) fnPriorityUptoCard
end Rows
end Go.Proofs.YtpbkigmcbgbfgaaDoor
