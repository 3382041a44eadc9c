/-
  DERIVED. GIVEN WITH THE SEED: THE CARDS: each row of YtkjfpgdnhdnceabDoorRows.lean that lists a variable, with what it lists TIED to the program's text (the seventh form; the later family's looks); each row that meets fmt, with fmt's text TOLD by the authors' own Lean function (tested against real Go, not proved from fmt's source: count such statements apart). THE CARD IS WHAT COUNTS. Prove the row's statement (the work); the ties are given (YtkjfpgdnhdnceabDoorTie.lean); close each card by the builder's one call (the guide's Derived/Test/ToyasCard.lean, 'card_holds'). Laid BY PROGRAM, IN A SANDBOX (cutbox-door.mjs). By AI agents, Wed Nov 11 2026. No macro, syntax, notation, axiom, sorry.
-/
import Derived.Test.YtkjfpgdnhdnceabDoorRows
import GoSem.ClaimSeven
namespace Go.Proofs.YtkjfpgdnhdnceabDoor
namespace Rows

/-- THE TIED CARD OF 'laws.FnVars'. -/
def fnVarsCard : Claim7 := { stood := { row := fnVarsRow, standIns := [], harness := (true, "a57d420c982661fcae5b09ba122e42599f0d35f342915e0b54a50d509a175127"), looks := false }, kinds := [], alts := [], laidByText := true, laidKinds := [.data], laidTests := true, laidLooks := .later }
def FnVarsCardSaid : Prop := Claim7.holds Tryd.pinned (.plain (OpenSpec.ofChange fnVarsSpec)) fnVarsCard

/-- THE SECOND FORM's CARD OF 'laws.FnVars'. -/
def fnVarsUptoCard : Claim7 := { stood := { row := fnVarsUptoRow, standIns := [], harness := (true, "a57d420c982661fcae5b09ba122e42599f0d35f342915e0b54a50d509a175127"), looks := false }, kinds := [], alts := [], laidByText := true, laidKinds := [.data], laidTests := true, laidLooks := .later }
def FnVarsUptoCardSaid : Prop := Claim7.holds Tryd.pinned (.plain (OpenSpec.upto fnVarsSpec)) fnVarsUptoCard
end Rows
end Go.Proofs.YtkjfpgdnhdnceabDoor
