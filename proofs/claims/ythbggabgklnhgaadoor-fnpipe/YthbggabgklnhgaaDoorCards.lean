/-
  DERIVED. GIVEN WITH THE SEED: THE CARDS: each row of YthbggabgklnhgaaDoorRows.lean that lists a variable, with what it lists TIED to the program's text (the seventh form; the later family's looks); each row that meets fmt, with fmt's text TOLD by the authors' own Lean function (tested against real Go, not proved from fmt's source: count such statements apart). THE CARD IS WHAT COUNTS. Prove the row's statement (the work); the ties are given (YthbggabgklnhgaaDoorTie.lean); close each card by the builder's one call (the guide's Derived/Test/ToyasCard.lean, 'card_holds'). Laid BY PROGRAM, IN A SANDBOX (cutbox-door.mjs). By AI agents, Wed Nov 11 2026. No macro, syntax, notation, axiom, sorry.
-/
import Derived.Test.YthbggabgklnhgaaDoorRows
import GoSem.ClaimSeven
namespace Go.Proofs.YthbggabgklnhgaaDoor
namespace Rows

/-- THE TIED CARD OF 'laws.FnPipe'. -/
def fnPipeCard : Claim7 := { stood := { row := fnPipeRow, standIns := [], harness := (true, "3ee222311b26ef129ac71bcb2cd7d8624294ab77c56fbcb6b16c1ed62bb7550a"), looks := false }, kinds := [], alts := [], laidByText := true, laidKinds := [.data], laidTests := true, laidLooks := .later }
def FnPipeCardSaid : Prop := Claim7.holds Tryd.pinned (.plain (OpenSpec.ofChange fnPipeSpec)) fnPipeCard

/-- THE SECOND FORM's CARD OF 'laws.FnPipe'. -/
def fnPipeUptoCard : Claim7 := { stood := { row := fnPipeUptoRow, standIns := [], harness := (true, "3ee222311b26ef129ac71bcb2cd7d8624294ab77c56fbcb6b16c1ed62bb7550a"), looks := false }, kinds := [], alts := [], laidByText := true, laidKinds := [.data], laidTests := true, laidLooks := .later }
def FnPipeUptoCardSaid : Prop := Claim7.holds Tryd.pinned (.plain (OpenSpec.upto fnPipeSpec)) fnPipeUptoCard
end Rows
end Go.Proofs.YthbggabgklnhgaaDoor
