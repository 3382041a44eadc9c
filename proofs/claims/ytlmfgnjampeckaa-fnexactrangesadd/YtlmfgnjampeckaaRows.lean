/-
  No cell of these rows narrows 'for every input' (looked for: loops, veiled, ifaces, maps, wideKeys, modest, calm, conditions, laid).
  DERIVED. THE GIVEN ROWS OF THIS SEAT. 5 by the template 'for every input the law returns true; each argument reads behind the call as it read before'; 0 by the template 'total and deterministic' (their statements: YtlmfgnjampeckaaTotals.lean).
  GIVEN WITH THE SEED: the statements are not yours to turn. If you find one false, say at which input.
  Laid BY PROGRAM, IN A SANDBOX (cutbox-rows.mjs): the forced cells as the released guide's own fill.sh prints them over the translation 0ccd595323d0a52a… (all of the seat's roots in one cut). By AI agents, Wed Nov 11 2026. No macro, syntax, notation, axiom, sorry.
-/
import Derived.Test.YtlmfgnjampeckaaChecked
import GoSem.Claim
import GoSem.ClaimJoined
import GoSem.ClaimMapViews
import Derived.JoinedTies
import Derived.KernelRfl
namespace Go.Proofs.Ytlmfgnjampeckaa
/- THE CELL 'sum', in the pinned program and in every row, IS THE sha256 OF THE DUMP (.gsa) THAT YtlmfgnjampeckaaProg.lean LOADS. Nothing in Lean hashes anything: it is a label: what it is worth is what the hold of that sum in a sandbox is worth. -/
noncomputable def Try.pinned : Pinned := { name := "ytlmfgnjampeckaa", sum := "0ccd595323d0a52abe5b4e1975f94536bdad249b5af389bc5cb90a81858c5886", checked := Try.checked }
namespace Rows
def none {H : Type} : Left H := { results := [], args := [] }

/-- 'laws.FnExactRangesOK': WHATEVER THE INPUT: true; the input reads as it did. -/
def fnExactRangesOKSpec : ChangeSpec := { name := "fnExactRangesOK", fn := fun _ => fun
  | [d] => { results := [.lit (.bool true)], args := [d] }
  | _ => none }
def fnExactRangesOKRow : OpenClaim := { program := "ytlmfgnjampeckaa", sum := "0ccd595323d0a52abe5b4e1975f94536bdad249b5af389bc5cb90a81858c5886", func := "loop.example/g00012/laws.FnExactRangesOK", spec := "fnExactRangesOK", apart := false }
def FnExactRangesOKSaid : Prop := fnExactRangesOKRow.holds Try.pinned (OpenSpec.ofChange fnExactRangesOKSpec)

/-- ITS FALSE NEIGHBOUR: 'it returns false'. Refute it at one input. -/
def fnExactRangesOKWrong : ChangeSpec := { name := "fnExactRangesOK", fn := fun _ => fun
  | [d] => { results := [.lit (.bool false)], args := [d] }
  | _ => none }
def FnExactRangesOKWrongFalsely : Prop := fnExactRangesOKRow.holds Try.pinned (OpenSpec.ofChange fnExactRangesOKWrong)

/-- 'laws.FnExactRangesAdd': WHATEVER THE INPUT: true; the input reads as it did. -/
def fnExactRangesAddSpec : ChangeSpec := { name := "fnExactRangesAdd", fn := fun _ => fun
  | [d1, d2] => { results := [.lit (.bool true)], args := [d1, d2] }
  | _ => none }
def fnExactRangesAddRow : OpenClaim := { program := "ytlmfgnjampeckaa", sum := "0ccd595323d0a52abe5b4e1975f94536bdad249b5af389bc5cb90a81858c5886", func := "loop.example/g00012/laws.FnExactRangesAdd", spec := "fnExactRangesAdd", unfollowed := true, recurses := true, apart := false }
def FnExactRangesAddSaid : Prop := fnExactRangesAddRow.holds Try.pinned (OpenSpec.ofChange fnExactRangesAddSpec)

/-- ITS FALSE NEIGHBOUR: 'it returns false'. Refute it at one input. -/
def fnExactRangesAddWrong : ChangeSpec := { name := "fnExactRangesAdd", fn := fun _ => fun
  | [d1, d2] => { results := [.lit (.bool false)], args := [d1, d2] }
  | _ => none }
def FnExactRangesAddWrongFalsely : Prop := fnExactRangesAddRow.holds Try.pinned (OpenSpec.ofChange fnExactRangesAddWrong)

/-- 'laws.FnExactRangesFrom': WHATEVER THE INPUT: true; the input reads as it did. -/
def fnExactRangesFromSpec : ChangeSpec := { name := "fnExactRangesFrom", fn := fun _ => fun
  | [d1, d2] => { results := [.lit (.bool true)], args := [d1, d2] }
  | _ => none }
def fnExactRangesFromRow : OpenClaim := { program := "ytlmfgnjampeckaa", sum := "0ccd595323d0a52abe5b4e1975f94536bdad249b5af389bc5cb90a81858c5886", func := "loop.example/g00012/laws.FnExactRangesFrom", spec := "fnExactRangesFrom", unfollowed := true, recurses := true, apart := false }
def FnExactRangesFromSaid : Prop := fnExactRangesFromRow.holds Try.pinned (OpenSpec.ofChange fnExactRangesFromSpec)

/-- ITS FALSE NEIGHBOUR: 'it returns false'. Refute it at one input. -/
def fnExactRangesFromWrong : ChangeSpec := { name := "fnExactRangesFrom", fn := fun _ => fun
  | [d1, d2] => { results := [.lit (.bool false)], args := [d1, d2] }
  | _ => none }
def FnExactRangesFromWrongFalsely : Prop := fnExactRangesFromRow.holds Try.pinned (OpenSpec.ofChange fnExactRangesFromWrong)

/-- 'laws.FnExactRangesHas': WHATEVER THE INPUT: true; the input reads as it did. -/
def fnExactRangesHasSpec : ChangeSpec := { name := "fnExactRangesHas", fn := fun _ => fun
  | [d1, d2] => { results := [.lit (.bool true)], args := [d1, d2] }
  | _ => none }
def fnExactRangesHasRow : OpenClaim := { program := "ytlmfgnjampeckaa", sum := "0ccd595323d0a52abe5b4e1975f94536bdad249b5af389bc5cb90a81858c5886", func := "loop.example/g00012/laws.FnExactRangesHas", spec := "fnExactRangesHas", unfollowed := true, recurses := true, apart := false }
def FnExactRangesHasSaid : Prop := fnExactRangesHasRow.holds Try.pinned (OpenSpec.ofChange fnExactRangesHasSpec)

/-- ITS FALSE NEIGHBOUR: 'it returns false'. Refute it at one input. -/
def fnExactRangesHasWrong : ChangeSpec := { name := "fnExactRangesHas", fn := fun _ => fun
  | [d1, d2] => { results := [.lit (.bool false)], args := [d1, d2] }
  | _ => none }
def FnExactRangesHasWrongFalsely : Prop := fnExactRangesHasRow.holds Try.pinned (OpenSpec.ofChange fnExactRangesHasWrong)

/-- 'laws.FnExactRangesCount': WHATEVER THE INPUT: true; the input reads as it did. -/
def fnExactRangesCountSpec : ChangeSpec := { name := "fnExactRangesCount", fn := fun _ => fun
  | [d] => { results := [.lit (.bool true)], args := [d] }
  | _ => none }
def fnExactRangesCountRow : OpenClaim := { program := "ytlmfgnjampeckaa", sum := "0ccd595323d0a52abe5b4e1975f94536bdad249b5af389bc5cb90a81858c5886", func := "loop.example/g00012/laws.FnExactRangesCount", spec := "fnExactRangesCount", apart := false }
def FnExactRangesCountSaid : Prop := fnExactRangesCountRow.holds Try.pinned (OpenSpec.ofChange fnExactRangesCountSpec)

/-- ITS FALSE NEIGHBOUR: 'it returns false'. Refute it at one input. -/
def fnExactRangesCountWrong : ChangeSpec := { name := "fnExactRangesCount", fn := fun _ => fun
  | [d] => { results := [.lit (.bool false)], args := [d] }
  | _ => none }
def FnExactRangesCountWrongFalsely : Prop := fnExactRangesCountRow.holds Try.pinned (OpenSpec.ofChange fnExactRangesCountWrong)

/- THE SECOND FORM. 'bulk': how many values and letters a reading holds, each counted each time it is reached (what is shared counts as often as it is met; a slice's spare places count too). A statement '..UptoSaid' is the law's where the arguments, and the package variables that the reading takes, are together of bulk at most 1048576: NARROWER than '..Said'. Prove '..Said' where nothing that the law and all that it calls make is longer than what came in: it says more and counts as full. Else prove '..UptoSaid'. A law counts once. -/
mutual
def uptoBulk {H : Type} : DataW H → Nat
  | .lit (.string bytes) => bytes.length + 1
  | .lit _ => 1
  | .nil => 1
  | .ptr d => uptoBulk d + 1
  | .slice elems spare => uptoBulkAll elems + uptoBulkAll spare + 1
  | .agg parts => uptoBulkAll parts + 1
  | .iface _ d => uptoBulk d + 1
  | .map entries => uptoBulkEntries entries + 1
  | .held _ => 1
def uptoBulkAll {H : Type} : List (DataW H) → Nat
  | [] => 0
  | d :: r => uptoBulk d + uptoBulkAll r
def uptoBulkEntries {H : Type} : List (Lit × DataW H) → Nat
  | [] => 0
  | x :: r => uptoBulkEntry x + uptoBulkEntries r
def uptoBulkEntry {H : Type} : Lit × DataW H → Nat
  | (.string bytes, d) => bytes.length + uptoBulk d + 1
  | (_, d) => uptoBulk d + 1
 end
def uptoSmall : (H : Type) → List (DataW H) → Bool := fun _ ds => decide (uptoBulkAll ds ≤ 1048576)
def OpenSpec.upto (s : _root_.Go.ChangeSpec) : _root_.Go.OpenSpec := { _root_.Go.OpenSpec.ofChange s with cond := some uptoSmall }

/-- 'laws.FnExactRangesOK', WHERE WHAT IT READS IS OF BULK AT MOST 1048576: true; the input reads as it did. -/
def fnExactRangesOKUptoRow : OpenClaim := { program := "ytlmfgnjampeckaa", sum := "0ccd595323d0a52abe5b4e1975f94536bdad249b5af389bc5cb90a81858c5886", func := "loop.example/g00012/laws.FnExactRangesOK", spec := "fnExactRangesOK", apart := false, narrowed := true }
def FnExactRangesOKUptoSaid : Prop := fnExactRangesOKUptoRow.holds Try.pinned (OpenSpec.upto fnExactRangesOKSpec)

/-- 'laws.FnExactRangesAdd', WHERE WHAT IT READS IS OF BULK AT MOST 1048576: true; the input reads as it did. -/
def fnExactRangesAddUptoRow : OpenClaim := { program := "ytlmfgnjampeckaa", sum := "0ccd595323d0a52abe5b4e1975f94536bdad249b5af389bc5cb90a81858c5886", func := "loop.example/g00012/laws.FnExactRangesAdd", spec := "fnExactRangesAdd", unfollowed := true, recurses := true, apart := false, narrowed := true }
def FnExactRangesAddUptoSaid : Prop := fnExactRangesAddUptoRow.holds Try.pinned (OpenSpec.upto fnExactRangesAddSpec)

/-- 'laws.FnExactRangesFrom', WHERE WHAT IT READS IS OF BULK AT MOST 1048576: true; the input reads as it did. -/
def fnExactRangesFromUptoRow : OpenClaim := { program := "ytlmfgnjampeckaa", sum := "0ccd595323d0a52abe5b4e1975f94536bdad249b5af389bc5cb90a81858c5886", func := "loop.example/g00012/laws.FnExactRangesFrom", spec := "fnExactRangesFrom", unfollowed := true, recurses := true, apart := false, narrowed := true }
def FnExactRangesFromUptoSaid : Prop := fnExactRangesFromUptoRow.holds Try.pinned (OpenSpec.upto fnExactRangesFromSpec)

/-- 'laws.FnExactRangesHas', WHERE WHAT IT READS IS OF BULK AT MOST 1048576: true; the input reads as it did. -/
def fnExactRangesHasUptoRow : OpenClaim := { program := "ytlmfgnjampeckaa", sum := "0ccd595323d0a52abe5b4e1975f94536bdad249b5af389bc5cb90a81858c5886", func := "loop.example/g00012/laws.FnExactRangesHas", spec := "fnExactRangesHas", unfollowed := true, recurses := true, apart := false, narrowed := true }
def FnExactRangesHasUptoSaid : Prop := fnExactRangesHasUptoRow.holds Try.pinned (OpenSpec.upto fnExactRangesHasSpec)

/-- 'laws.FnExactRangesCount', WHERE WHAT IT READS IS OF BULK AT MOST 1048576: true; the input reads as it did. -/
def fnExactRangesCountUptoRow : OpenClaim := { program := "ytlmfgnjampeckaa", sum := "0ccd595323d0a52abe5b4e1975f94536bdad249b5af389bc5cb90a81858c5886", func := "loop.example/g00012/laws.FnExactRangesCount", spec := "fnExactRangesCount", apart := false, narrowed := true }
def FnExactRangesCountUptoSaid : Prop := fnExactRangesCountUptoRow.holds Try.pinned (OpenSpec.upto fnExactRangesCountSpec)

end Rows
end Go.Proofs.Ytlmfgnjampeckaa
