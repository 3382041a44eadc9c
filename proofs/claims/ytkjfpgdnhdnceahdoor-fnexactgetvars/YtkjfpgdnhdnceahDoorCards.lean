/-
  DERIVED. GIVEN WITH THE SEED: THE CARDS: each row of YtkjfpgdnhdnceahDoorRows.lean that lists a variable, with what it lists TIED to the program's text (the seventh form; the later family's looks); each row that meets fmt, with fmt's text TOLD by the authors' own Lean function (tested against real Go, not proved from fmt's source: count such statements apart). THE CARD IS WHAT COUNTS. Prove the row's statement (the work); the ties are given (YtkjfpgdnhdnceahDoorTie.lean); close each card by the builder's one call (the guide's Derived/Test/ToyasCard.lean, 'card_holds'). Laid BY PROGRAM, IN A SANDBOX (cutbox-door.mjs). By AI agents, Wed Nov 11 2026. No macro, syntax, notation, axiom, sorry.
-/
import Derived.Test.YtkjfpgdnhdnceahDoorRows
import GoSem.ClaimSeven
namespace Go.Proofs.YtkjfpgdnhdnceahDoor
namespace Rows

/-- THE TIED CARD OF 'laws.FnExactGetVar'. -/
def fnExactGetVarCard : Claim7 := { stood := { row := fnExactGetVarRow, standIns := [], harness := (true, "5d057505b83b657d9e25e2baf4f60f3ff1741c97b54c6e2bf3e336bc112e6df1"), looks := false }, kinds := [], alts := [], laidByText := true, laidKinds := [.data], laidTests := true, laidLooks := .later }
def FnExactGetVarCardSaid : Prop := Claim7.holds Tryd.pinned (.plain (OpenSpec.ofChange fnExactGetVarSpec)) fnExactGetVarCard

/-- THE TIED CARD OF 'laws.FnExactPutVars'. -/
def fnExactPutVarsCard : Claim7 := { stood := { row := fnExactPutVarsRow, standIns := [], harness := (true, "5d057505b83b657d9e25e2baf4f60f3ff1741c97b54c6e2bf3e336bc112e6df1"), looks := false }, kinds := [], alts := [], laidByText := true, laidKinds := [.data], laidTests := true, laidLooks := .later }
def FnExactPutVarsCardSaid : Prop := Claim7.holds Tryd.pinned (.plain (OpenSpec.ofChange fnExactPutVarsSpec)) fnExactPutVarsCard

/-- THE TIED CARD OF 'laws.FnExactGetVars'. -/
def fnExactGetVarsCard : Claim7 := { stood := { row := fnExactGetVarsRow, standIns := [], harness := (true, "5d057505b83b657d9e25e2baf4f60f3ff1741c97b54c6e2bf3e336bc112e6df1"), looks := false }, kinds := [], alts := [], laidByText := true, laidKinds := [.data], laidTests := true, laidLooks := .later }
def FnExactGetVarsCardSaid : Prop := Claim7.holds Tryd.pinned (.plain (OpenSpec.ofChange fnExactGetVarsSpec)) fnExactGetVarsCard

/-- THE SECOND FORM's CARD OF 'laws.FnExactGetVar'. -/
def fnExactGetVarUptoCard : Claim7 := { stood := { row := fnExactGetVarUptoRow, standIns := [], harness := (true, "5d057505b83b657d9e25e2baf4f60f3ff1741c97b54c6e2bf3e336bc112e6df1"), looks := false }, kinds := [], alts := [], laidByText := true, laidKinds := [.data], laidTests := true, laidLooks := .later }
def FnExactGetVarUptoCardSaid : Prop := Claim7.holds Tryd.pinned (.plain (OpenSpec.upto fnExactGetVarSpec)) fnExactGetVarUptoCard

/-- THE SECOND FORM's CARD OF 'laws.FnExactPutVars'. -/
def fnExactPutVarsUptoCard : Claim7 := { stood := { row := fnExactPutVarsUptoRow, standIns := [], harness := (true, "5d057505b83b657d9e25e2baf4f60f3ff1741c97b54c6e2bf3e336bc112e6df1"), looks := false }, kinds := [], alts := [], laidByText := true, laidKinds := [.data], laidTests := true, laidLooks := .later }
def FnExactPutVarsUptoCardSaid : Prop := Claim7.holds Tryd.pinned (.plain (OpenSpec.upto fnExactPutVarsSpec)) fnExactPutVarsUptoCard

/-- THE SECOND FORM's CARD OF 'laws.FnExactGetVars'. -/
def fnExactGetVarsUptoCard : Claim7 := { stood := { row := fnExactGetVarsUptoRow, standIns := [], harness := (true, "5d057505b83b657d9e25e2baf4f60f3ff1741c97b54c6e2bf3e336bc112e6df1"), looks := false }, kinds := [], alts := [], laidByText := true, laidKinds := [.data], laidTests := true, laidLooks := .later }
def FnExactGetVarsUptoCardSaid : Prop := Claim7.holds Tryd.pinned (.plain (OpenSpec.upto fnExactGetVarsSpec)) fnExactGetVarsUptoCard
end Rows
end Go.Proofs.YtkjfpgdnhdnceahDoor
