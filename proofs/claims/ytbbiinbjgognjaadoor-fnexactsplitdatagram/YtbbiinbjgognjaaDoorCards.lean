/-
  DERIVED. GIVEN WITH THE SEED: THE CARDS: each row of YtbbiinbjgognjaaDoorRows.lean that lists a variable, with what it lists TIED to the program's text (the seventh form; the later family's looks); each row that meets fmt, with fmt's text TOLD by the authors' own Lean function (tested against real Go, not proved from fmt's source: count such statements apart). THE CARD IS WHAT COUNTS. Prove the row's statement (the work); the ties are given (YtbbiinbjgognjaaDoorTie.lean); close each card by the builder's one call (the guide's Derived/Test/ToyasCard.lean, 'card_holds'). Laid BY PROGRAM, IN A SANDBOX (cutbox-door.mjs). By AI agents, Wed Nov 11 2026. No macro, syntax, notation, axiom, sorry.
-/
import Derived.Test.YtbbiinbjgognjaaDoorRows
import GoSem.ClaimSeven
namespace Go.Proofs.YtbbiinbjgognjaaDoor
namespace Rows

/-- THE TIED CARD OF 'laws.FnExactPeek'. -/
def fnExactPeekCard : Claim7 := { stood := { row := fnExactPeekRow, standIns := [], harness := (true, "d3074894330c4aa48bbf42c3c1dc9dd98fe052d8f3018d58c7b183efd2918670"), looks := true }, kinds := [], alts := [], laidByText := true, laidKinds := [.handle, .data, .data], laidTests := true, laidLooks := .later }
def FnExactPeekCardSaid : Prop := Claim7.holds Tryd.pinned (.plain (OpenSpec.ofChange fnExactPeekSpec)) fnExactPeekCard

/-- THE TIED CARD OF 'laws.FnExactSplitDatagram'. -/
def fnExactSplitDatagramCard : Claim7 := { stood := { row := fnExactSplitDatagramRow, standIns := [], harness := (true, "d3074894330c4aa48bbf42c3c1dc9dd98fe052d8f3018d58c7b183efd2918670"), looks := true }, kinds := [], alts := [], laidByText := true, laidKinds := [.handle, .data, .data], laidTests := true, laidLooks := .later }
def FnExactSplitDatagramCardSaid : Prop := Claim7.holds Tryd.pinned (.plain (OpenSpec.ofChange fnExactSplitDatagramSpec)) fnExactSplitDatagramCard

/-- THE TIED CARD OF 'laws.FnExactRetryOK'. -/
def fnExactRetryOKCard : Claim7 := { stood := { row := fnExactRetryOKRow, standIns := [], harness := (true, "d3074894330c4aa48bbf42c3c1dc9dd98fe052d8f3018d58c7b183efd2918670"), looks := true }, kinds := [], alts := [], laidByText := true, laidKinds := [.handle, .data, .data], laidTests := true, laidLooks := .later }
def FnExactRetryOKCardSaid : Prop := Claim7.holds Tryd.pinned (.plain (OpenSpec.ofChange fnExactRetryOKSpec)) fnExactRetryOKCard

/-- THE TIED CARD OF 'laws.FnExactReadVersions'. -/
def fnExactReadVersionsCard : Claim7 := { stood := { row := fnExactReadVersionsRow, standIns := [], harness := (true, "d3074894330c4aa48bbf42c3c1dc9dd98fe052d8f3018d58c7b183efd2918670"), looks := true }, kinds := [], alts := [], laidByText := true, laidKinds := [.handle, .data, .data], laidTests := true, laidLooks := .later }
def FnExactReadVersionsCardSaid : Prop := Claim7.holds Tryd.pinned (.plain (OpenSpec.ofChange fnExactReadVersionsSpec)) fnExactReadVersionsCard

/-- THE SECOND FORM's CARD OF 'laws.FnExactPeek'. -/
def fnExactPeekUptoCard : Claim7 := { stood := { row := fnExactPeekUptoRow, standIns := [], harness := (true, "d3074894330c4aa48bbf42c3c1dc9dd98fe052d8f3018d58c7b183efd2918670"), looks := true }, kinds := [], alts := [], laidByText := true, laidKinds := [.handle, .data, .data], laidTests := true, laidLooks := .later }
def FnExactPeekUptoCardSaid : Prop := Claim7.holds Tryd.pinned (.plain (OpenSpec.upto fnExactPeekSpec)) fnExactPeekUptoCard

/-- THE SECOND FORM's CARD OF 'laws.FnExactSplitDatagram'. -/
def fnExactSplitDatagramUptoCard : Claim7 := { stood := { row := fnExactSplitDatagramUptoRow, standIns := [], harness := (true, "d3074894330c4aa48bbf42c3c1dc9dd98fe052d8f3018d58c7b183efd2918670"), looks := true }, kinds := [], alts := [], laidByText := true, laidKinds := [.handle, .data, .data], laidTests := true, laidLooks := .later }
def FnExactSplitDatagramUptoCardSaid : Prop := Claim7.holds Tryd.pinned (.plain (OpenSpec.upto fnExactSplitDatagramSpec)) fnExactSplitDatagramUptoCard

/-- THE SECOND FORM's CARD OF 'laws.FnExactRetryOK'. -/
def fnExactRetryOKUptoCard : Claim7 := { stood := { row := fnExactRetryOKUptoRow, standIns := [], harness := (true, "d3074894330c4aa48bbf42c3c1dc9dd98fe052d8f3018d58c7b183efd2918670"), looks := true }, kinds := [], alts := [], laidByText := true, laidKinds := [.handle, .data, .data], laidTests := true, laidLooks := .later }
def FnExactRetryOKUptoCardSaid : Prop := Claim7.holds Tryd.pinned (.plain (OpenSpec.upto fnExactRetryOKSpec)) fnExactRetryOKUptoCard

/-- THE SECOND FORM's CARD OF 'laws.FnExactReadVersions'. -/
def fnExactReadVersionsUptoCard : Claim7 := { stood := { row := fnExactReadVersionsUptoRow, standIns := [], harness := (true, "d3074894330c4aa48bbf42c3c1dc9dd98fe052d8f3018d58c7b183efd2918670"), looks := true }, kinds := [], alts := [], laidByText := true, laidKinds := [.handle, .data, .data], laidTests := true, laidLooks := .later }
def FnExactReadVersionsUptoCardSaid : Prop := Claim7.holds Tryd.pinned (.plain (OpenSpec.upto fnExactReadVersionsSpec)) fnExactReadVersionsUptoCard
end Rows
end Go.Proofs.YtbbiinbjgognjaaDoor
