/-
  No cell of these rows narrows 'for every input' (looked for: loops, veiled, ifaces, maps, wideKeys, modest, calm, conditions, laid).
  DERIVED. THE GIVEN ROWS OF THIS SEAT. 3 by the template 'for every input the law returns true; each argument reads behind the call as it read before'; 0 by the template 'total and deterministic' (their statements: YtlbiaiohjohgiaaTotals.lean).
  GIVEN WITH THE SEED: the statements are not yours to turn. If you find one false, say at which input.
  Laid BY PROGRAM, IN A SANDBOX (cutbox-rows.mjs): the forced cells as the released guide's own fill.sh prints them over the translation f1f59d896d5b3b10… (all of the seat's roots in one cut). By AI agents, Wed Nov 11 2026. No macro, syntax, notation, axiom, sorry.
-/
import Derived.Test.YtlbiaiohjohgiaaChecked
import GoSem.Claim
import GoSem.ClaimJoined
import GoSem.ClaimMapViews
import Derived.JoinedTies
import Derived.KernelRfl
namespace Go.Proofs.Ytlbiaiohjohgiaa
/- THE CELL 'sum', in the pinned program and in every row, IS THE sha256 OF THE DUMP (.gsa) THAT YtlbiaiohjohgiaaProg.lean LOADS. Nothing in Lean hashes anything: it is a label: what it is worth is what the hold of that sum in a sandbox is worth. -/
noncomputable def Try.pinned : Pinned := { name := "ytlbiaiohjohgiaa", sum := "f1f59d896d5b3b106876d49259176f80ab4aaedc1ca0d85e23ad732e79d8abbc", checked := Try.checked }
namespace Rows
def none {H : Type} : Left H := { results := [], args := [] }

/-- 'laws.FnExactFrameOK': WHATEVER THE INPUT: true; the input reads as it did. -/
def fnExactFrameOKSpec : ChangeSpec := { name := "fnExactFrameOK", fn := fun _ => fun
  | [d] => { results := [.lit (.bool true)], args := [d] }
  | _ => none }
def fnExactFrameOKRow : OpenClaim := { program := "ytlbiaiohjohgiaa", sum := "f1f59d896d5b3b106876d49259176f80ab4aaedc1ca0d85e23ad732e79d8abbc", func := "loop.example/g00012/laws.FnExactFrameOK", spec := "fnExactFrameOK", unfollowed := true, recurses := true, apart := false }
def FnExactFrameOKSaid : Prop := fnExactFrameOKRow.holds Try.pinned (OpenSpec.ofChange fnExactFrameOKSpec)

/-- ITS FALSE NEIGHBOUR: 'it returns false'. Refute it at one input. -/
def fnExactFrameOKWrong : ChangeSpec := { name := "fnExactFrameOK", fn := fun _ => fun
  | [d] => { results := [.lit (.bool false)], args := [d] }
  | _ => none }
def FnExactFrameOKWrongFalsely : Prop := fnExactFrameOKRow.holds Try.pinned (OpenSpec.ofChange fnExactFrameOKWrong)

/-- 'laws.FnExactFrameBytes': WHATEVER THE INPUT: true; the input reads as it did. -/
def fnExactFrameBytesSpec : ChangeSpec := { name := "fnExactFrameBytes", fn := fun _ => fun
  | [d] => { results := [.lit (.bool true)], args := [d] }
  | _ => none }
def fnExactFrameBytesRow : OpenClaim := { program := "ytlbiaiohjohgiaa", sum := "f1f59d896d5b3b106876d49259176f80ab4aaedc1ca0d85e23ad732e79d8abbc", func := "loop.example/g00012/laws.FnExactFrameBytes", spec := "fnExactFrameBytes", unfollowed := true, recurses := true, apart := false }
def FnExactFrameBytesSaid : Prop := fnExactFrameBytesRow.holds Try.pinned (OpenSpec.ofChange fnExactFrameBytesSpec)

/-- ITS FALSE NEIGHBOUR: 'it returns false'. Refute it at one input. -/
def fnExactFrameBytesWrong : ChangeSpec := { name := "fnExactFrameBytes", fn := fun _ => fun
  | [d] => { results := [.lit (.bool false)], args := [d] }
  | _ => none }
def FnExactFrameBytesWrongFalsely : Prop := fnExactFrameBytesRow.holds Try.pinned (OpenSpec.ofChange fnExactFrameBytesWrong)

/-- 'laws.FnExactFrameFits': WHATEVER THE INPUT: true; the input reads as it did. -/
def fnExactFrameFitsSpec : ChangeSpec := { name := "fnExactFrameFits", fn := fun _ => fun
  | [d1, d2] => { results := [.lit (.bool true)], args := [d1, d2] }
  | _ => none }
def fnExactFrameFitsRow : OpenClaim := { program := "ytlbiaiohjohgiaa", sum := "f1f59d896d5b3b106876d49259176f80ab4aaedc1ca0d85e23ad732e79d8abbc", func := "loop.example/g00012/laws.FnExactFrameFits", spec := "fnExactFrameFits", unfollowed := true, recurses := true, apart := false }
def FnExactFrameFitsSaid : Prop := fnExactFrameFitsRow.holds Try.pinned (OpenSpec.ofChange fnExactFrameFitsSpec)

/-- ITS FALSE NEIGHBOUR: 'it returns false'. Refute it at one input. -/
def fnExactFrameFitsWrong : ChangeSpec := { name := "fnExactFrameFits", fn := fun _ => fun
  | [d1, d2] => { results := [.lit (.bool false)], args := [d1, d2] }
  | _ => none }
def FnExactFrameFitsWrongFalsely : Prop := fnExactFrameFitsRow.holds Try.pinned (OpenSpec.ofChange fnExactFrameFitsWrong)

/- THE SECOND FORM. 'bulk': how many values and letters a reading holds, each counted each time it is reached (what is shared counts as often as it is met; a slice's spare places count too). A statement '..UptoSaid' is the law's where the arguments, and the package variables that the reading takes, are together of bulk at most 1048576: NARROWER than '..Said'. Prove '..Said' where nothing that the law and all that it calls make is longer than what came in: it says more and counts as full. Else prove '..UptoSaid'. A law counts once. -/
mutual
def uptoBulk {H : Type} : DataW H → Nat
  | .lit (.string bytes) => bytes.length + 1
  | .lit _ => 1
  | .nil => 1
  | .ptr d => uptoBulk d + 1
  | .slice elems spare => uptoBulkAll elems + uptoBulkAll spare + 1
  | .agg parts => uptoBulkAll parts + 1
  | .iface _ d => uptoBulk d + 1
  | .map entries => uptoBulkEntries entries + 1
  | .held _ => 1
def uptoBulkAll {H : Type} : List (DataW H) → Nat
  | [] => 0
  | d :: r => uptoBulk d + uptoBulkAll r
def uptoBulkEntries {H : Type} : List (Lit × DataW H) → Nat
  | [] => 0
  | x :: r => uptoBulkEntry x + uptoBulkEntries r
def uptoBulkEntry {H : Type} : Lit × DataW H → Nat
  | (.string bytes, d) => bytes.length + uptoBulk d + 1
  | (_, d) => uptoBulk d + 1
 end
def uptoSmall : (H : Type) → List (DataW H) → Bool := fun _ ds => decide (uptoBulkAll ds ≤ 1048576)
def OpenSpec.upto (s : _root_.Go.ChangeSpec) : _root_.Go.OpenSpec := { _root_.Go.OpenSpec.ofChange s with cond := some uptoSmall }

/-- 'laws.FnExactFrameOK', WHERE WHAT IT READS IS OF BULK AT MOST 1048576: true; the input reads as it did. -/
def fnExactFrameOKUptoRow : OpenClaim := { program := "ytlbiaiohjohgiaa", sum := "f1f59d896d5b3b106876d49259176f80ab4aaedc1ca0d85e23ad732e79d8abbc", func := "loop.example/g00012/laws.FnExactFrameOK", spec := "fnExactFrameOK", unfollowed := true, recurses := true, apart := false, narrowed := true }
def FnExactFrameOKUptoSaid : Prop := fnExactFrameOKUptoRow.holds Try.pinned (OpenSpec.upto fnExactFrameOKSpec)

/-- 'laws.FnExactFrameBytes', WHERE WHAT IT READS IS OF BULK AT MOST 1048576: true; the input reads as it did. -/
def fnExactFrameBytesUptoRow : OpenClaim := { program := "ytlbiaiohjohgiaa", sum := "f1f59d896d5b3b106876d49259176f80ab4aaedc1ca0d85e23ad732e79d8abbc", func := "loop.example/g00012/laws.FnExactFrameBytes", spec := "fnExactFrameBytes", unfollowed := true, recurses := true, apart := false, narrowed := true }
def FnExactFrameBytesUptoSaid : Prop := fnExactFrameBytesUptoRow.holds Try.pinned (OpenSpec.upto fnExactFrameBytesSpec)

/-- 'laws.FnExactFrameFits', WHERE WHAT IT READS IS OF BULK AT MOST 1048576: true; the input reads as it did. -/
def fnExactFrameFitsUptoRow : OpenClaim := { program := "ytlbiaiohjohgiaa", sum := "f1f59d896d5b3b106876d49259176f80ab4aaedc1ca0d85e23ad732e79d8abbc", func := "loop.example/g00012/laws.FnExactFrameFits", spec := "fnExactFrameFits", unfollowed := true, recurses := true, apart := false, narrowed := true }
def FnExactFrameFitsUptoSaid : Prop := fnExactFrameFitsUptoRow.holds Try.pinned (OpenSpec.upto fnExactFrameFitsSpec)

end Rows
end Go.Proofs.Ytlbiaiohjohgiaa
