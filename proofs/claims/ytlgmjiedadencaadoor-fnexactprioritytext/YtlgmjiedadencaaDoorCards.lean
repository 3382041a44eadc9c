/-
  DERIVED. GIVEN WITH THE SEED: THE CARDS: each row of YtlgmjiedadencaaDoorRows.lean that lists a variable, with what it lists TIED to the program's text (the seventh form; the later family's looks); each row that meets fmt, with fmt's text TOLD by the authors' own Lean function (tested against real Go, not proved from fmt's source: count such statements apart). THE CARD IS WHAT COUNTS. Prove the row's statement (the work); the ties are given (YtlgmjiedadencaaDoorTie.lean); close each card by the builder's one call (the guide's Derived/Test/ToyasCard.lean, 'card_holds'). Laid BY PROGRAM, IN A SANDBOX (cutbox-door.mjs). By AI agents, Wed Nov 11 2026. No macro, syntax, notation, axiom, sorry.
-/
import Derived.Test.YtlgmjiedadencaaDoorRows
import GoSem.ClaimSeven
namespace Go.Proofs.YtlgmjiedadencaaDoor
namespace Rows

/-- THE TIED CARD OF 'laws.FnExactPriorityText'. -/
def fnExactPriorityTextCard : Claim7 := { stood := { row := fnExactPriorityTextRow, standIns := [], harness := (true, "004685bfbcea413d25b0262f6956e0197cc8c7469869b7b17599ca35c8047dd3"), looks := false }, kinds := [], alts := [], laidByText := true, laidKinds := [.data, .data, .data], laidTests := true, laidLooks := .later }
def FnExactPriorityTextCardSaid : Prop := Claim7.holds Tryd.pinned (.plain (OpenSpec.ofChange fnExactPriorityTextSpec)) fnExactPriorityTextCard

/-- THE SECOND FORM's CARD OF 'laws.FnExactPriorityText'. -/
def fnExactPriorityTextUptoCard : Claim7 := { stood := { row := fnExactPriorityTextUptoRow, standIns := [], harness := (true, "004685bfbcea413d25b0262f6956e0197cc8c7469869b7b17599ca35c8047dd3"), looks := false }, kinds := [], alts := [], laidByText := true, laidKinds := [.data, .data, .data], laidTests := true, laidLooks := .later }
def FnExactPriorityTextUptoCardSaid : Prop := Claim7.holds Tryd.pinned (.plain (OpenSpec.upto fnExactPriorityTextSpec)) fnExactPriorityTextUptoCard
end Rows
end Go.Proofs.YtlgmjiedadencaaDoor
