/-
  DERIVED. GIVEN WITH THE SEED: THE CARDS: each row of YtdfhpacioblcbaaDoorRows.lean that lists a variable, with what it lists TIED to the program's text (the seventh form; the later family's looks); each row that meets fmt, with fmt's text TOLD by the authors' own Lean function (tested against real Go, not proved from fmt's source: count such statements apart). THE CARD IS WHAT COUNTS. Prove the row's statement (the work); the ties are given (YtdfhpacioblcbaaDoorTie.lean); close each card by the builder's one call (the guide's Derived/Test/ToyasCard.lean, 'card_holds'). Laid BY PROGRAM, IN A SANDBOX (cutbox-door.mjs). By AI agents, Wed Nov 11 2026. No macro, syntax, notation, axiom, sorry.
-/
import Derived.Test.YtdfhpacioblcbaaDoorRows
import GoSem.ClaimSeven
namespace Go.Proofs.YtdfhpacioblcbaaDoor
namespace Rows

/-- THE TIED CARD OF 'laws.FnExactParamsBytes'. -/
def fnExactParamsBytesCard : Claim7 := { stood := { row := fnExactParamsBytesRow, standIns := [], harness := (true, "62baa56f5e4a443428f9cb9554c6c168156fecd10bff0daccf9bd3a107fc92e6"), looks := true }, kinds := [], alts := [], laidByText := true, laidKinds := [.data], laidTests := true, laidLooks := .later }
def FnExactParamsBytesCardSaid : Prop := Claim7.holds Tryd.pinned (.plain (OpenSpec.ofChange fnExactParamsBytesSpec)) fnExactParamsBytesCard

/-- THE TIED CARD OF 'laws.FnExactReadParams'. -/
def fnExactReadParamsCard : Claim7 := { stood := { row := fnExactReadParamsRow, standIns := [], harness := (true, "62baa56f5e4a443428f9cb9554c6c168156fecd10bff0daccf9bd3a107fc92e6"), looks := true }, kinds := [], alts := [], laidByText := true, laidKinds := [.handle, .data], laidTests := true, laidLooks := .later }
def FnExactReadParamsCardSaid : Prop := Claim7.holds Tryd.pinned (.plain (OpenSpec.ofChange fnExactReadParamsSpec)) fnExactReadParamsCard

/-- THE SECOND FORM's CARD OF 'laws.FnExactParamsBytes'. -/
def fnExactParamsBytesUptoCard : Claim7 := { stood := { row := fnExactParamsBytesUptoRow, standIns := [], harness := (true, "62baa56f5e4a443428f9cb9554c6c168156fecd10bff0daccf9bd3a107fc92e6"), looks := true }, kinds := [], alts := [], laidByText := true, laidKinds := [.data], laidTests := true, laidLooks := .later }
def FnExactParamsBytesUptoCardSaid : Prop := Claim7.holds Tryd.pinned (.plain (OpenSpec.upto fnExactParamsBytesSpec)) fnExactParamsBytesUptoCard

/-- THE SECOND FORM's CARD OF 'laws.FnExactReadParams'. -/
def fnExactReadParamsUptoCard : Claim7 := { stood := { row := fnExactReadParamsUptoRow, standIns := [], harness := (true, "62baa56f5e4a443428f9cb9554c6c168156fecd10bff0daccf9bd3a107fc92e6"), looks := true }, kinds := [], alts := [], laidByText := true, laidKinds := [.handle, .data], laidTests := true, laidLooks := .later }
def FnExactReadParamsUptoCardSaid : Prop := Claim7.holds Tryd.pinned (.plain (OpenSpec.upto fnExactReadParamsSpec)) fnExactReadParamsUptoCard
end Rows
end Go.Proofs.YtdfhpacioblcbaaDoor
