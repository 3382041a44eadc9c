/-
  DERIVED. GIVEN WITH THE SEED: THE CARDS: each row of YthokfbgpoffafaaGreatDoorRows.lean that lists a variable, with what it lists TIED to the program's text (the seventh form; the later family's looks); each row that meets fmt, with fmt's text TOLD by the authors' own Lean function (tested against real Go, not proved from fmt's source: count such statements apart). THE CARD IS WHAT COUNTS. Prove the row's statement (the work); the ties are given (YthokfbgpoffafaaGreatDoorTie.lean); close each card by the builder's one call (the guide's Derived/Test/ToyasCard.lean, 'card_holds'). Laid BY PROGRAM, IN A SANDBOX (cutbox-door.mjs). By AI agents, Wed Nov 11 2026. No macro, syntax, notation, axiom, sorry.
-/
import Derived.Test.YthokfbgpoffafaaGreatDoorRows
import GoSem.ClaimSeven
namespace Go.Proofs.YthokfbgpoffafaaGreatDoor
namespace Rows

/-- THE TIED CARD OF 'laws.FnExactOpenPacket'. -/
def fnExactOpenPacketCard : Claim7 := { stood := { row := fnExactOpenPacketRow, standIns := [], harness := (true, "c55bda316cbef8029d88db052ac220c33a78ee841c7263c309c7da4dc1b9beb9"), looks := true }, kinds := [], alts := [], laidByText := true, laidKinds := [.handle, .data, .data], laidTests := true, laidLooks := .later }
def FnExactOpenPacketCardSaid : Prop := Claim7.holds Tryz.pinned (.plain (OpenSpec.ofChange fnExactOpenPacketSpec)) fnExactOpenPacketCard

/-- THE SECOND FORM's CARD OF 'laws.FnExactOpenPacket'. -/
def fnExactOpenPacketUptoCard : Claim7 := { stood := { row := fnExactOpenPacketUptoRow, standIns := [], harness := (true, "c55bda316cbef8029d88db052ac220c33a78ee841c7263c309c7da4dc1b9beb9"), looks := true }, kinds := [], alts := [], laidByText := true, laidKinds := [.handle, .data, .data], laidTests := true, laidLooks := .later }
def FnExactOpenPacketUptoCardSaid : Prop := Claim7.holds Tryz.pinned (.plain (OpenSpec.upto fnExactOpenPacketSpec)) fnExactOpenPacketUptoCard
end Rows
end Go.Proofs.YthokfbgpoffafaaGreatDoor
