/-
  DERIVED. GIVEN WITH THE SEED: THE CARDS: each row of YtoalillggafnpaaGreatDoorRows.lean that lists a variable, with what it lists TIED to the program's text (the seventh form; the later family's looks); each row that meets fmt, with fmt's text TOLD by the authors' own Lean function (tested against real Go, not proved from fmt's source: count such statements apart). THE CARD IS WHAT COUNTS. Prove the row's statement (the work); the ties are given (YtoalillggafnpaaGreatDoorTie.lean); close each card by the builder's one call (the guide's Derived/Test/ToyasCard.lean, 'card_holds'). Laid BY PROGRAM, IN A SANDBOX (cutbox-door.mjs). By AI agents, Wed Nov 11 2026. No macro, syntax, notation, axiom, sorry.
-/
import Derived.Test.YtoalillggafnpaaGreatDoorRows
import GoSem.ClaimSeven
namespace Go.Proofs.YtoalillggafnpaaGreatDoor
namespace Rows

/-- THE TIED CARD OF 'laws.FnPlainPackets'. -/
def fnPlainPacketsCard : Claim7 := { stood := { row := fnPlainPacketsRow, standIns := [], harness := (true, "15709678e099d087684217188038903e5c07419e430f167340d19a4b70067132"), looks := true }, kinds := [], alts := [], laidByText := true, laidKinds := [.handle, .data, .data], laidTests := true, laidLooks := .later }
def FnPlainPacketsCardSaid : Prop := Claim7.holds Tryz.pinned (.plain (OpenSpec.ofChange fnPlainPacketsSpec)) fnPlainPacketsCard

/-- THE SECOND FORM's CARD OF 'laws.FnPlainPackets'. -/
def fnPlainPacketsUptoCard : Claim7 := { stood := { row := fnPlainPacketsUptoRow, standIns := [], harness := (true, "15709678e099d087684217188038903e5c07419e430f167340d19a4b70067132"), looks := true }, kinds := [], alts := [], laidByText := true, laidKinds := [.handle, .data, .data], laidTests := true, laidLooks := .later }
def FnPlainPacketsUptoCardSaid : Prop := Claim7.holds Tryz.pinned (.plain (OpenSpec.upto fnPlainPacketsSpec)) fnPlainPacketsUptoCard
end Rows
end Go.Proofs.YtoalillggafnpaaGreatDoor
