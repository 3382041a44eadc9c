/-
  DERIVED. GIVEN WITH THE SEED: THE CARDS: each row of YtkjfpgdnhdnceagDoorRows.lean that lists a variable, with what it lists TIED to the program's text (the seventh form; the later family's looks); each row that meets fmt, with fmt's text TOLD by the authors' own Lean function (tested against real Go, not proved from fmt's source: count such statements apart). THE CARD IS WHAT COUNTS. Prove the row's statement (the work); the ties are given (YtkjfpgdnhdnceagDoorTie.lean); close each card by the builder's one call (the guide's Derived/Test/ToyasCard.lean, 'card_holds'). Laid BY PROGRAM, IN A SANDBOX (cutbox-door.mjs). By AI agents, Wed Nov 11 2026. No macro, syntax, notation, axiom, sorry.
-/
import Derived.Test.YtkjfpgdnhdnceagDoorRows
import GoSem.ClaimSeven
namespace Go.Proofs.YtkjfpgdnhdnceagDoor
namespace Rows

/-- THE TIED CARD OF 'laws.FnExactVarLen'. -/
def fnExactVarLenCard : Claim7 := { stood := { row := fnExactVarLenRow, standIns := [], harness := (true, "c7fdb7657caab7f8b1ec8d36042c1ea311df7ceb383663e2a4bba540f38122a3"), looks := false }, kinds := [], alts := [], laidByText := true, laidKinds := [.data], laidTests := true, laidLooks := .later }
def FnExactVarLenCardSaid : Prop := Claim7.holds Tryd.pinned (.plain (OpenSpec.ofChange fnExactVarLenSpec)) fnExactVarLenCard

/-- THE TIED CARD OF 'laws.FnExactPutVar'. -/
def fnExactPutVarCard : Claim7 := { stood := { row := fnExactPutVarRow, standIns := [], harness := (true, "c7fdb7657caab7f8b1ec8d36042c1ea311df7ceb383663e2a4bba540f38122a3"), looks := false }, kinds := [], alts := [], laidByText := true, laidKinds := [.data], laidTests := true, laidLooks := .later }
def FnExactPutVarCardSaid : Prop := Claim7.holds Tryd.pinned (.plain (OpenSpec.ofChange fnExactPutVarSpec)) fnExactPutVarCard

/-- THE SECOND FORM's CARD OF 'laws.FnExactVarLen'. -/
def fnExactVarLenUptoCard : Claim7 := { stood := { row := fnExactVarLenUptoRow, standIns := [], harness := (true, "c7fdb7657caab7f8b1ec8d36042c1ea311df7ceb383663e2a4bba540f38122a3"), looks := false }, kinds := [], alts := [], laidByText := true, laidKinds := [.data], laidTests := true, laidLooks := .later }
def FnExactVarLenUptoCardSaid : Prop := Claim7.holds Tryd.pinned (.plain (OpenSpec.upto fnExactVarLenSpec)) fnExactVarLenUptoCard

/-- THE SECOND FORM's CARD OF 'laws.FnExactPutVar'. -/
def fnExactPutVarUptoCard : Claim7 := { stood := { row := fnExactPutVarUptoRow, standIns := [], harness := (true, "c7fdb7657caab7f8b1ec8d36042c1ea311df7ceb383663e2a4bba540f38122a3"), looks := false }, kinds := [], alts := [], laidByText := true, laidKinds := [.data], laidTests := true, laidLooks := .later }
def FnExactPutVarUptoCardSaid : Prop := Claim7.holds Tryd.pinned (.plain (OpenSpec.upto fnExactPutVarSpec)) fnExactPutVarUptoCard
end Rows
end Go.Proofs.YtkjfpgdnhdnceagDoor
