/-
  No cell of these rows narrows 'for every input' (looked for: loops, veiled, ifaces, maps, wideKeys, modest, calm, conditions, laid).
  DERIVED. THE GIVEN ROWS OF THIS SEAT. 3 by the template 'for every input the law returns true; each argument reads behind the call as it read before'; 0 by the template 'total and deterministic' (their statements: YtgleephjglilhaaTotals.lean).
  GIVEN WITH THE SEED: the statements are not yours to turn. If you find one false, say at which input.
  Laid BY PROGRAM, IN A SANDBOX (cutbox-rows.mjs): the forced cells as the released guide's own fill.sh prints them over the translation 25a60abbddbcdf04… (all of the seat's roots in one cut). By AI agents, Wed Nov 11 2026. No macro, syntax, notation, axiom, sorry.
-/
import Derived.Test.YtgleephjglilhaaChecked
import GoSem.Claim
import GoSem.ClaimJoined
import GoSem.ClaimMapViews
import Derived.JoinedTies
import Derived.KernelRfl
namespace Go.Proofs.Ytgleephjglilhaa
/- THE CELL 'sum', in the pinned program and in every row, IS THE sha256 OF THE DUMP (.gsa) THAT YtgleephjglilhaaProg.lean LOADS. Nothing in Lean hashes anything: it is a label: what it is worth is what the hold of that sum in a sandbox is worth. -/
noncomputable def Try.pinned : Pinned := { name := "ytgleephjglilhaa", sum := "25a60abbddbcdf041203df3313a0d1741a61b20174e2094ba81de1839e991347", checked := Try.checked }
namespace Rows
def none {H : Type} : Left H := { results := [], args := [] }

/-- 'laws.FnExactRttStep': WHATEVER THE INPUT: true; the input reads as it did. -/
def fnExactRttStepSpec : ChangeSpec := { name := "fnExactRttStep", fn := fun _ => fun
  | [d1, d2, d3, d4] => { results := [.lit (.bool true)], args := [d1, d2, d3, d4] }
  | _ => none }
def fnExactRttStepRow : OpenClaim := { program := "ytgleephjglilhaa", sum := "25a60abbddbcdf041203df3313a0d1741a61b20174e2094ba81de1839e991347", func := "loop.example/g00012/laws.FnExactRttStep", spec := "fnExactRttStep", apart := false }
def FnExactRttStepSaid : Prop := fnExactRttStepRow.holds Try.pinned (OpenSpec.ofChange fnExactRttStepSpec)

/-- ITS FALSE NEIGHBOUR: 'it returns false'. Refute it at one input. -/
def fnExactRttStepWrong : ChangeSpec := { name := "fnExactRttStep", fn := fun _ => fun
  | [d1, d2, d3, d4] => { results := [.lit (.bool false)], args := [d1, d2, d3, d4] }
  | _ => none }
def FnExactRttStepWrongFalsely : Prop := fnExactRttStepRow.holds Try.pinned (OpenSpec.ofChange fnExactRttStepWrong)

/-- 'laws.FnExactLossDelay': WHATEVER THE INPUT: true; the input reads as it did. -/
def fnExactLossDelaySpec : ChangeSpec := { name := "fnExactLossDelay", fn := fun _ => fun
  | [d] => { results := [.lit (.bool true)], args := [d] }
  | _ => none }
def fnExactLossDelayRow : OpenClaim := { program := "ytgleephjglilhaa", sum := "25a60abbddbcdf041203df3313a0d1741a61b20174e2094ba81de1839e991347", func := "loop.example/g00012/laws.FnExactLossDelay", spec := "fnExactLossDelay", apart := false }
def FnExactLossDelaySaid : Prop := fnExactLossDelayRow.holds Try.pinned (OpenSpec.ofChange fnExactLossDelaySpec)

/-- ITS FALSE NEIGHBOUR: 'it returns false'. Refute it at one input. -/
def fnExactLossDelayWrong : ChangeSpec := { name := "fnExactLossDelay", fn := fun _ => fun
  | [d] => { results := [.lit (.bool false)], args := [d] }
  | _ => none }
def FnExactLossDelayWrongFalsely : Prop := fnExactLossDelayRow.holds Try.pinned (OpenSpec.ofChange fnExactLossDelayWrong)

/-- 'laws.FnExactProbeDelay': WHATEVER THE INPUT: true; the input reads as it did. -/
def fnExactProbeDelaySpec : ChangeSpec := { name := "fnExactProbeDelay", fn := fun _ => fun
  | [d1, d2, d3] => { results := [.lit (.bool true)], args := [d1, d2, d3] }
  | _ => none }
def fnExactProbeDelayRow : OpenClaim := { program := "ytgleephjglilhaa", sum := "25a60abbddbcdf041203df3313a0d1741a61b20174e2094ba81de1839e991347", func := "loop.example/g00012/laws.FnExactProbeDelay", spec := "fnExactProbeDelay", apart := false }
def FnExactProbeDelaySaid : Prop := fnExactProbeDelayRow.holds Try.pinned (OpenSpec.ofChange fnExactProbeDelaySpec)

/-- ITS FALSE NEIGHBOUR: 'it returns false'. Refute it at one input. -/
def fnExactProbeDelayWrong : ChangeSpec := { name := "fnExactProbeDelay", fn := fun _ => fun
  | [d1, d2, d3] => { results := [.lit (.bool false)], args := [d1, d2, d3] }
  | _ => none }
def FnExactProbeDelayWrongFalsely : Prop := fnExactProbeDelayRow.holds Try.pinned (OpenSpec.ofChange fnExactProbeDelayWrong)

/- THE SECOND FORM. 'bulk': how many values and letters a reading holds, each counted each time it is reached (what is shared counts as often as it is met; a slice's spare places count too). A statement '..UptoSaid' is the law's where the arguments, and the package variables that the reading takes, are together of bulk at most 1048576: NARROWER than '..Said'. Prove '..Said' where nothing that the law and all that it calls make is longer than what came in: it says more and counts as full. Else prove '..UptoSaid'. A law counts once. -/
mutual
def uptoBulk {H : Type} : DataW H → Nat
  | .lit (.string bytes) => bytes.length + 1
  | .lit _ => 1
  | .nil => 1
  | .ptr d => uptoBulk d + 1
  | .slice elems spare => uptoBulkAll elems + uptoBulkAll spare + 1
  | .agg parts => uptoBulkAll parts + 1
  | .iface _ d => uptoBulk d + 1
  | .map entries => uptoBulkEntries entries + 1
  | .held _ => 1
def uptoBulkAll {H : Type} : List (DataW H) → Nat
  | [] => 0
  | d :: r => uptoBulk d + uptoBulkAll r
def uptoBulkEntries {H : Type} : List (Lit × DataW H) → Nat
  | [] => 0
  | x :: r => uptoBulkEntry x + uptoBulkEntries r
def uptoBulkEntry {H : Type} : Lit × DataW H → Nat
  | (.string bytes, d) => bytes.length + uptoBulk d + 1
  | (_, d) => uptoBulk d + 1
 end
def uptoSmall : (H : Type) → List (DataW H) → Bool := fun _ ds => decide (uptoBulkAll ds ≤ 1048576)
def OpenSpec.upto (s : _root_.Go.ChangeSpec) : _root_.Go.OpenSpec := { _root_.Go.OpenSpec.ofChange s with cond := some uptoSmall }

/-- 'laws.FnExactRttStep', WHERE WHAT IT READS IS OF BULK AT MOST 1048576: true; the input reads as it did. -/
def fnExactRttStepUptoRow : OpenClaim := { program := "ytgleephjglilhaa", sum := "25a60abbddbcdf041203df3313a0d1741a61b20174e2094ba81de1839e991347", func := "loop.example/g00012/laws.FnExactRttStep", spec := "fnExactRttStep", apart := false, narrowed := true }
def FnExactRttStepUptoSaid : Prop := fnExactRttStepUptoRow.holds Try.pinned (OpenSpec.upto fnExactRttStepSpec)

/-- 'laws.FnExactLossDelay', WHERE WHAT IT READS IS OF BULK AT MOST 1048576: true; the input reads as it did. -/
def fnExactLossDelayUptoRow : OpenClaim := { program := "ytgleephjglilhaa", sum := "25a60abbddbcdf041203df3313a0d1741a61b20174e2094ba81de1839e991347", func := "loop.example/g00012/laws.FnExactLossDelay", spec := "fnExactLossDelay", apart := false, narrowed := true }
def FnExactLossDelayUptoSaid : Prop := fnExactLossDelayUptoRow.holds Try.pinned (OpenSpec.upto fnExactLossDelaySpec)

/-- 'laws.FnExactProbeDelay', WHERE WHAT IT READS IS OF BULK AT MOST 1048576: true; the input reads as it did. -/
def fnExactProbeDelayUptoRow : OpenClaim := { program := "ytgleephjglilhaa", sum := "25a60abbddbcdf041203df3313a0d1741a61b20174e2094ba81de1839e991347", func := "loop.example/g00012/laws.FnExactProbeDelay", spec := "fnExactProbeDelay", apart := false, narrowed := true }
def FnExactProbeDelayUptoSaid : Prop := fnExactProbeDelayUptoRow.holds Try.pinned (OpenSpec.upto fnExactProbeDelaySpec)

end Rows
end Go.Proofs.Ytgleephjglilhaa
