/-
  DERIVED. GIVEN WITH THE SEED: THE CARDS: each row of YthagbapcnanpjaaDoorRows.lean that lists a variable, with what it lists TIED to the program's text (the seventh form; the later family's looks); each row that meets fmt, with fmt's text TOLD by the authors' own Lean function (tested against real Go, not proved from fmt's source: count such statements apart). THE CARD IS WHAT COUNTS. Prove the row's statement (the work); the ties are given (YthagbapcnanpjaaDoorTie.lean); close each card by the builder's one call (the guide's Derived/Test/ToyasCard.lean, 'card_holds'). Laid BY PROGRAM, IN A SANDBOX (cutbox-door.mjs). By AI agents, Wed Nov 11 2026. No macro, syntax, notation, axiom, sorry.
-/
import Derived.Test.YthagbapcnanpjaaDoorRows
import GoSem.ClaimSeven
namespace Go.Proofs.YthagbapcnanpjaaDoor
namespace Rows

/-- THE TIED CARD OF 'laws.FnExactStaticField'. -/
def fnExactStaticFieldCard : Claim7 := { stood := { row := fnExactStaticFieldRow, standIns := [], harness := (true, "95803dd1477c5d2e4b7925118ec14b989bf0904c11b2d661584aa6944437ab8f"), looks := false }, kinds := [], alts := [], laidByText := true, laidKinds := [.data], laidTests := true, laidLooks := .later }
def FnExactStaticFieldCardSaid : Prop := Claim7.holds Tryd.pinned (.plain (OpenSpec.ofChange fnExactStaticFieldSpec)) fnExactStaticFieldCard

/-- THE TIED CARD OF 'laws.FnExactEncodeSection'. -/
def fnExactEncodeSectionCard : Claim7 := { stood := { row := fnExactEncodeSectionRow, standIns := [], harness := (true, "95803dd1477c5d2e4b7925118ec14b989bf0904c11b2d661584aa6944437ab8f"), looks := false }, kinds := [], alts := [], laidByText := true, laidKinds := [.data], laidTests := true, laidLooks := .later }
def FnExactEncodeSectionCardSaid : Prop := Claim7.holds Tryd.pinned (.plain (OpenSpec.ofChange fnExactEncodeSectionSpec)) fnExactEncodeSectionCard

/-- THE SECOND FORM's CARD OF 'laws.FnExactStaticField'. -/
def fnExactStaticFieldUptoCard : Claim7 := { stood := { row := fnExactStaticFieldUptoRow, standIns := [], harness := (true, "95803dd1477c5d2e4b7925118ec14b989bf0904c11b2d661584aa6944437ab8f"), looks := false }, kinds := [], alts := [], laidByText := true, laidKinds := [.data], laidTests := true, laidLooks := .later }
def FnExactStaticFieldUptoCardSaid : Prop := Claim7.holds Tryd.pinned (.plain (OpenSpec.upto fnExactStaticFieldSpec)) fnExactStaticFieldUptoCard

/-- THE SECOND FORM's CARD OF 'laws.FnExactEncodeSection'. -/
def fnExactEncodeSectionUptoCard : Claim7 := { stood := { row := fnExactEncodeSectionUptoRow, standIns := [], harness := (true, "95803dd1477c5d2e4b7925118ec14b989bf0904c11b2d661584aa6944437ab8f"), looks := false }, kinds := [], alts := [], laidByText := true, laidKinds := [.data], laidTests := true, laidLooks := .later }
def FnExactEncodeSectionUptoCardSaid : Prop := Claim7.holds Tryd.pinned (.plain (OpenSpec.upto fnExactEncodeSectionSpec)) fnExactEncodeSectionUptoCard
end Rows
end Go.Proofs.YthagbapcnanpjaaDoor
