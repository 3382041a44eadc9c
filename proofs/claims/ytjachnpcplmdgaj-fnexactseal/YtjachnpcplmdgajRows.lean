/-
  No cell of these rows narrows 'for every input' (looked for: loops, veiled, ifaces, maps, wideKeys, modest, calm, conditions, laid).
  DERIVED. THE GIVEN ROWS OF THIS SEAT. 3 by the template 'for every input the law returns true; each argument reads behind the call as it read before'; 0 by the template 'total and deterministic' (their statements: YtjachnpcplmdgajTotals.lean).
  GIVEN WITH THE SEED: the statements are not yours to turn. If you find one false, say at which input.
  Laid BY PROGRAM, IN A SANDBOX (cutbox-rows.mjs): the forced cells as the released guide's own fill.sh prints them over the translation ad6ce3d95755aadf… (all of the seat's roots in one cut). By AI agents, Wed Nov 11 2026. No macro, syntax, notation, axiom, sorry.
-/
import Derived.Test.YtjachnpcplmdgajChecked
import GoSem.Claim
import GoSem.ClaimJoined
import GoSem.ClaimMapViews
import Derived.JoinedTies
import Derived.KernelRfl
namespace Go.Proofs.Ytjachnpcplmdgaj
/- THE CELL 'sum', in the pinned program and in every row, IS THE sha256 OF THE DUMP (.gsa) THAT YtjachnpcplmdgajProg.lean LOADS. Nothing in Lean hashes anything: it is a label: what it is worth is what the hold of that sum in a sandbox is worth. -/
noncomputable def Try.pinned : Pinned := { name := "ytjachnpcplmdgaj", sum := "ad6ce3d95755aadfef3fa6d3df34bb4b86f5a5f273528c5acda32b13b9bdd531", checked := Try.checked }
namespace Rows
def none {H : Type} : Left H := { results := [], args := [] }

/-- 'laws.FnExactSeal': WHATEVER THE INPUT: true; the input reads as it did. -/
def fnExactSealSpec : ChangeSpec := { name := "fnExactSeal", fn := fun _ => fun
  | [d1, d2, d3, d4] => { results := [.lit (.bool true)], args := [d1, d2, d3, d4] }
  | _ => none }
def fnExactSealRow : OpenClaim := { program := "ytjachnpcplmdgaj", sum := "ad6ce3d95755aadfef3fa6d3df34bb4b86f5a5f273528c5acda32b13b9bdd531", func := "loop.example/g00012/laws.FnExactSeal", spec := "fnExactSeal", unfollowed := true, recurses := true, apart := false }
def FnExactSealSaid : Prop := fnExactSealRow.holds Try.pinned (OpenSpec.ofChange fnExactSealSpec)

/-- ITS FALSE NEIGHBOUR: 'it returns false'. Refute it at one input. -/
def fnExactSealWrong : ChangeSpec := { name := "fnExactSeal", fn := fun _ => fun
  | [d1, d2, d3, d4] => { results := [.lit (.bool false)], args := [d1, d2, d3, d4] }
  | _ => none }
def FnExactSealWrongFalsely : Prop := fnExactSealRow.holds Try.pinned (OpenSpec.ofChange fnExactSealWrong)

/-- 'laws.FnExactOpenSealed': WHATEVER THE INPUT: true; the input reads as it did. -/
def fnExactOpenSealedSpec : ChangeSpec := { name := "fnExactOpenSealed", fn := fun _ => fun
  | [d1, d2, d3, d4] => { results := [.lit (.bool true)], args := [d1, d2, d3, d4] }
  | _ => none }
def fnExactOpenSealedRow : OpenClaim := { program := "ytjachnpcplmdgaj", sum := "ad6ce3d95755aadfef3fa6d3df34bb4b86f5a5f273528c5acda32b13b9bdd531", func := "loop.example/g00012/laws.FnExactOpenSealed", spec := "fnExactOpenSealed", unfollowed := true, recurses := true, apart := false }
def FnExactOpenSealedSaid : Prop := fnExactOpenSealedRow.holds Try.pinned (OpenSpec.ofChange fnExactOpenSealedSpec)

/-- ITS FALSE NEIGHBOUR: 'it returns false'. Refute it at one input. -/
def fnExactOpenSealedWrong : ChangeSpec := { name := "fnExactOpenSealed", fn := fun _ => fun
  | [d1, d2, d3, d4] => { results := [.lit (.bool false)], args := [d1, d2, d3, d4] }
  | _ => none }
def FnExactOpenSealedWrongFalsely : Prop := fnExactOpenSealedRow.holds Try.pinned (OpenSpec.ofChange fnExactOpenSealedWrong)

/-- 'laws.FnExactHeadMask': WHATEVER THE INPUT: true; the input reads as it did. -/
def fnExactHeadMaskSpec : ChangeSpec := { name := "fnExactHeadMask", fn := fun _ => fun
  | [d1, d2] => { results := [.lit (.bool true)], args := [d1, d2] }
  | _ => none }
def fnExactHeadMaskRow : OpenClaim := { program := "ytjachnpcplmdgaj", sum := "ad6ce3d95755aadfef3fa6d3df34bb4b86f5a5f273528c5acda32b13b9bdd531", func := "loop.example/g00012/laws.FnExactHeadMask", spec := "fnExactHeadMask", recurses := true, apart := false }
def FnExactHeadMaskSaid : Prop := fnExactHeadMaskRow.holds Try.pinned (OpenSpec.ofChange fnExactHeadMaskSpec)

/-- ITS FALSE NEIGHBOUR: 'it returns false'. Refute it at one input. -/
def fnExactHeadMaskWrong : ChangeSpec := { name := "fnExactHeadMask", fn := fun _ => fun
  | [d1, d2] => { results := [.lit (.bool false)], args := [d1, d2] }
  | _ => none }
def FnExactHeadMaskWrongFalsely : Prop := fnExactHeadMaskRow.holds Try.pinned (OpenSpec.ofChange fnExactHeadMaskWrong)

/- THE SECOND FORM. 'bulk': how many values and letters a reading holds, each counted each time it is reached (what is shared counts as often as it is met; a slice's spare places count too). A statement '..UptoSaid' is the law's where the arguments, and the package variables that the reading takes, are together of bulk at most 1048576: NARROWER than '..Said'. Prove '..Said' where nothing that the law and all that it calls make is longer than what came in: it says more and counts as full. Else prove '..UptoSaid'. A law counts once. -/
mutual
def uptoBulk {H : Type} : DataW H → Nat
  | .lit (.string bytes) => bytes.length + 1
  | .lit _ => 1
  | .nil => 1
  | .ptr d => uptoBulk d + 1
  | .slice elems spare => uptoBulkAll elems + uptoBulkAll spare + 1
  | .agg parts => uptoBulkAll parts + 1
  | .iface _ d => uptoBulk d + 1
  | .map entries => uptoBulkEntries entries + 1
  | .held _ => 1
def uptoBulkAll {H : Type} : List (DataW H) → Nat
  | [] => 0
  | d :: r => uptoBulk d + uptoBulkAll r
def uptoBulkEntries {H : Type} : List (Lit × DataW H) → Nat
  | [] => 0
  | x :: r => uptoBulkEntry x + uptoBulkEntries r
def uptoBulkEntry {H : Type} : Lit × DataW H → Nat
  | (.string bytes, d) => bytes.length + uptoBulk d + 1
  | (_, d) => uptoBulk d + 1
 end
def uptoSmall : (H : Type) → List (DataW H) → Bool := fun _ ds => decide (uptoBulkAll ds ≤ 1048576)
def OpenSpec.upto (s : _root_.Go.ChangeSpec) : _root_.Go.OpenSpec := { _root_.Go.OpenSpec.ofChange s with cond := some uptoSmall }

/-- 'laws.FnExactSeal', WHERE WHAT IT READS IS OF BULK AT MOST 1048576: true; the input reads as it did. -/
def fnExactSealUptoRow : OpenClaim := { program := "ytjachnpcplmdgaj", sum := "ad6ce3d95755aadfef3fa6d3df34bb4b86f5a5f273528c5acda32b13b9bdd531", func := "loop.example/g00012/laws.FnExactSeal", spec := "fnExactSeal", unfollowed := true, recurses := true, apart := false, narrowed := true }
def FnExactSealUptoSaid : Prop := fnExactSealUptoRow.holds Try.pinned (OpenSpec.upto fnExactSealSpec)

/-- 'laws.FnExactOpenSealed', WHERE WHAT IT READS IS OF BULK AT MOST 1048576: true; the input reads as it did. -/
def fnExactOpenSealedUptoRow : OpenClaim := { program := "ytjachnpcplmdgaj", sum := "ad6ce3d95755aadfef3fa6d3df34bb4b86f5a5f273528c5acda32b13b9bdd531", func := "loop.example/g00012/laws.FnExactOpenSealed", spec := "fnExactOpenSealed", unfollowed := true, recurses := true, apart := false, narrowed := true }
def FnExactOpenSealedUptoSaid : Prop := fnExactOpenSealedUptoRow.holds Try.pinned (OpenSpec.upto fnExactOpenSealedSpec)

/-- 'laws.FnExactHeadMask', WHERE WHAT IT READS IS OF BULK AT MOST 1048576: true; the input reads as it did. -/
def fnExactHeadMaskUptoRow : OpenClaim := { program := "ytjachnpcplmdgaj", sum := "ad6ce3d95755aadfef3fa6d3df34bb4b86f5a5f273528c5acda32b13b9bdd531", func := "loop.example/g00012/laws.FnExactHeadMask", spec := "fnExactHeadMask", recurses := true, apart := false, narrowed := true }
def FnExactHeadMaskUptoSaid : Prop := fnExactHeadMaskUptoRow.holds Try.pinned (OpenSpec.upto fnExactHeadMaskSpec)

end Rows
end Go.Proofs.Ytjachnpcplmdgaj
