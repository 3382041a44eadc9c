/-
  DERIVED. GIVEN WITH THE SEED: THE CARDS: each row of YtgifbpongpbjaaaDoorRows.lean that lists a variable, with what it lists TIED to the program's text (the seventh form; the later family's looks); each row that meets fmt, with fmt's text TOLD by the authors' own Lean function (tested against real Go, not proved from fmt's source: count such statements apart). THE CARD IS WHAT COUNTS. Prove the row's statement (the work); the ties are given (YtgifbpongpbjaaaDoorTie.lean); close each card by the builder's one call (the guide's Derived/Test/ToyasCard.lean, 'card_holds'). Laid BY PROGRAM, IN A SANDBOX (cutbox-door.mjs). By AI agents, Wed Nov 11 2026. No macro, syntax, notation, axiom, sorry.
-/
import Derived.Test.YtgifbpongpbjaaaDoorRows
import GoSem.ClaimSeven
namespace Go.Proofs.YtgifbpongpbjaaaDoor
namespace Rows

/-- THE TIED CARD OF 'laws.FnRecvPrefix'. -/
def fnRecvPrefixCard : Claim7 := { stood := { row := fnRecvPrefixRow, standIns := [], harness := (true, "5443188d9dd8c6b390cbc210919aeb2b9e09c14162636149fa515bb0290da3ea"), looks := false }, kinds := [], alts := [], laidByText := true, laidKinds := [.data], laidTests := true, laidLooks := .later }
def FnRecvPrefixCardSaid : Prop := Claim7.holds Tryd.pinned (.plain (OpenSpec.ofChange fnRecvPrefixSpec)) fnRecvPrefixCard

/-- THE SECOND FORM's CARD OF 'laws.FnRecvPrefix'. -/
def fnRecvPrefixUptoCard : Claim7 := { stood := { row := fnRecvPrefixUptoRow, standIns := [], harness := (true, "5443188d9dd8c6b390cbc210919aeb2b9e09c14162636149fa515bb0290da3ea"), looks := false }, kinds := [], alts := [], laidByText := true, laidKinds := [.data], laidTests := true, laidLooks := .later }
def FnRecvPrefixUptoCardSaid : Prop := Claim7.holds Tryd.pinned (.plain (OpenSpec.upto fnRecvPrefixSpec)) fnRecvPrefixUptoCard
end Rows
end Go.Proofs.YtgifbpongpbjaaaDoor
