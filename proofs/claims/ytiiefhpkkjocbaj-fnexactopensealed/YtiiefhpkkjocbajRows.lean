/-
  No cell of these rows narrows 'for every input' (looked for: loops, veiled, ifaces, maps, wideKeys, modest, calm, conditions, laid).
  DERIVED. THE GIVEN ROWS OF THIS SEAT. 5 by the template 'for every input the law returns true; each argument reads behind the call as it read before'; 0 by the template 'total and deterministic' (their statements: YtiiefhpkkjocbajTotals.lean).
  GIVEN WITH THE SEED: the statements are not yours to turn. If you find one false, say at which input.
  Laid BY PROGRAM, IN A SANDBOX (cutbox-rows.mjs): the forced cells as the released guide's own fill.sh prints them over the translation 8933ebb9f77fe695… (all of the seat's roots in one cut). By AI agents, Wed Nov 11 2026. No macro, syntax, notation, axiom, sorry.
-/
import Derived.Test.YtiiefhpkkjocbajChecked
import GoSem.Claim
import GoSem.ClaimJoined
import GoSem.ClaimMapViews
import Derived.JoinedTies
import Derived.KernelRfl
namespace Go.Proofs.Ytiiefhpkkjocbaj
/- THE CELL 'sum', in the pinned program and in every row, IS THE sha256 OF THE DUMP (.gsa) THAT YtiiefhpkkjocbajProg.lean LOADS. Nothing in Lean hashes anything: it is a label: what it is worth is what the hold of that sum in a sandbox is worth. -/
noncomputable def Try.pinned : Pinned := { name := "ytiiefhpkkjocbaj", sum := "8933ebb9f77fe695aff8f006230112b31d95da36dca4eb50ca3fbbe5a0d8a977", checked := Try.checked }
namespace Rows
def none {H : Type} : Left H := { results := [], args := [] }

/-- 'laws.FnExactSeal': WHATEVER THE INPUT: true; the input reads as it did. -/
def fnExactSealSpec : ChangeSpec := { name := "fnExactSeal", fn := fun _ => fun
  | [d1, d2, d3, d4] => { results := [.lit (.bool true)], args := [d1, d2, d3, d4] }
  | _ => none }
def fnExactSealRow : OpenClaim := { program := "ytiiefhpkkjocbaj", sum := "8933ebb9f77fe695aff8f006230112b31d95da36dca4eb50ca3fbbe5a0d8a977", func := "loop.example/g00012/laws.FnExactSeal", spec := "fnExactSeal", unfollowed := true, recurses := true, apart := false }
def FnExactSealSaid : Prop := fnExactSealRow.holds Try.pinned (OpenSpec.ofChange fnExactSealSpec)

/-- ITS FALSE NEIGHBOUR: 'it returns false'. Refute it at one input. -/
def fnExactSealWrong : ChangeSpec := { name := "fnExactSeal", fn := fun _ => fun
  | [d1, d2, d3, d4] => { results := [.lit (.bool false)], args := [d1, d2, d3, d4] }
  | _ => none }
def FnExactSealWrongFalsely : Prop := fnExactSealRow.holds Try.pinned (OpenSpec.ofChange fnExactSealWrong)

/-- 'laws.FnExactOpenSealed': WHATEVER THE INPUT: true; the input reads as it did. -/
def fnExactOpenSealedSpec : ChangeSpec := { name := "fnExactOpenSealed", fn := fun _ => fun
  | [d1, d2, d3, d4] => { results := [.lit (.bool true)], args := [d1, d2, d3, d4] }
  | _ => none }
def fnExactOpenSealedRow : OpenClaim := { program := "ytiiefhpkkjocbaj", sum := "8933ebb9f77fe695aff8f006230112b31d95da36dca4eb50ca3fbbe5a0d8a977", func := "loop.example/g00012/laws.FnExactOpenSealed", spec := "fnExactOpenSealed", unfollowed := true, recurses := true, apart := false }
def FnExactOpenSealedSaid : Prop := fnExactOpenSealedRow.holds Try.pinned (OpenSpec.ofChange fnExactOpenSealedSpec)

/-- ITS FALSE NEIGHBOUR: 'it returns false'. Refute it at one input. -/
def fnExactOpenSealedWrong : ChangeSpec := { name := "fnExactOpenSealed", fn := fun _ => fun
  | [d1, d2, d3, d4] => { results := [.lit (.bool false)], args := [d1, d2, d3, d4] }
  | _ => none }
def FnExactOpenSealedWrongFalsely : Prop := fnExactOpenSealedRow.holds Try.pinned (OpenSpec.ofChange fnExactOpenSealedWrong)

/-- 'laws.FnExactHeadMask': WHATEVER THE INPUT: true; the input reads as it did. -/
def fnExactHeadMaskSpec : ChangeSpec := { name := "fnExactHeadMask", fn := fun _ => fun
  | [d1, d2] => { results := [.lit (.bool true)], args := [d1, d2] }
  | _ => none }
def fnExactHeadMaskRow : OpenClaim := { program := "ytiiefhpkkjocbaj", sum := "8933ebb9f77fe695aff8f006230112b31d95da36dca4eb50ca3fbbe5a0d8a977", func := "loop.example/g00012/laws.FnExactHeadMask", spec := "fnExactHeadMask", recurses := true, apart := false }
def FnExactHeadMaskSaid : Prop := fnExactHeadMaskRow.holds Try.pinned (OpenSpec.ofChange fnExactHeadMaskSpec)

/-- ITS FALSE NEIGHBOUR: 'it returns false'. Refute it at one input. -/
def fnExactHeadMaskWrong : ChangeSpec := { name := "fnExactHeadMask", fn := fun _ => fun
  | [d1, d2] => { results := [.lit (.bool false)], args := [d1, d2] }
  | _ => none }
def FnExactHeadMaskWrongFalsely : Prop := fnExactHeadMaskRow.holds Try.pinned (OpenSpec.ofChange fnExactHeadMaskWrong)

/-- 'laws.FnExactHeadBytes': WHATEVER THE INPUT: true; the input reads as it did. -/
def fnExactHeadBytesSpec : ChangeSpec := { name := "fnExactHeadBytes", fn := fun _ => fun
  | [d1, d2] => { results := [.lit (.bool true)], args := [d1, d2] }
  | _ => none }
def fnExactHeadBytesRow : OpenClaim := { program := "ytiiefhpkkjocbaj", sum := "8933ebb9f77fe695aff8f006230112b31d95da36dca4eb50ca3fbbe5a0d8a977", func := "loop.example/g00012/laws.FnExactHeadBytes", spec := "fnExactHeadBytes", unfollowed := true, recurses := true, apart := false }
def FnExactHeadBytesSaid : Prop := fnExactHeadBytesRow.holds Try.pinned (OpenSpec.ofChange fnExactHeadBytesSpec)

/-- ITS FALSE NEIGHBOUR: 'it returns false'. Refute it at one input. -/
def fnExactHeadBytesWrong : ChangeSpec := { name := "fnExactHeadBytes", fn := fun _ => fun
  | [d1, d2] => { results := [.lit (.bool false)], args := [d1, d2] }
  | _ => none }
def FnExactHeadBytesWrongFalsely : Prop := fnExactHeadBytesRow.holds Try.pinned (OpenSpec.ofChange fnExactHeadBytesWrong)

/-- 'laws.FnExactProtectPacket': WHATEVER THE INPUT: true; the input reads as it did. -/
def fnExactProtectPacketSpec : ChangeSpec := { name := "fnExactProtectPacket", fn := fun _ => fun
  | [d1, d2, d3] => { results := [.lit (.bool true)], args := [d1, d2, d3] }
  | _ => none }
def fnExactProtectPacketRow : OpenClaim := { program := "ytiiefhpkkjocbaj", sum := "8933ebb9f77fe695aff8f006230112b31d95da36dca4eb50ca3fbbe5a0d8a977", func := "loop.example/g00012/laws.FnExactProtectPacket", spec := "fnExactProtectPacket", unfollowed := true, recurses := true, apart := false }
def FnExactProtectPacketSaid : Prop := fnExactProtectPacketRow.holds Try.pinned (OpenSpec.ofChange fnExactProtectPacketSpec)

/-- ITS FALSE NEIGHBOUR: 'it returns false'. Refute it at one input. -/
def fnExactProtectPacketWrong : ChangeSpec := { name := "fnExactProtectPacket", fn := fun _ => fun
  | [d1, d2, d3] => { results := [.lit (.bool false)], args := [d1, d2, d3] }
  | _ => none }
def FnExactProtectPacketWrongFalsely : Prop := fnExactProtectPacketRow.holds Try.pinned (OpenSpec.ofChange fnExactProtectPacketWrong)

/- THE SECOND FORM. 'bulk': how many values and letters a reading holds, each counted each time it is reached (what is shared counts as often as it is met; a slice's spare places count too). A statement '..UptoSaid' is the law's where the arguments, and the package variables that the reading takes, are together of bulk at most 1048576: NARROWER than '..Said'. Prove '..Said' where nothing that the law and all that it calls make is longer than what came in: it says more and counts as full. Else prove '..UptoSaid'. A law counts once. -/
mutual
def uptoBulk {H : Type} : DataW H → Nat
  | .lit (.string bytes) => bytes.length + 1
  | .lit _ => 1
  | .nil => 1
  | .ptr d => uptoBulk d + 1
  | .slice elems spare => uptoBulkAll elems + uptoBulkAll spare + 1
  | .agg parts => uptoBulkAll parts + 1
  | .iface _ d => uptoBulk d + 1
  | .map entries => uptoBulkEntries entries + 1
  | .held _ => 1
def uptoBulkAll {H : Type} : List (DataW H) → Nat
  | [] => 0
  | d :: r => uptoBulk d + uptoBulkAll r
def uptoBulkEntries {H : Type} : List (Lit × DataW H) → Nat
  | [] => 0
  | x :: r => uptoBulkEntry x + uptoBulkEntries r
def uptoBulkEntry {H : Type} : Lit × DataW H → Nat
  | (.string bytes, d) => bytes.length + uptoBulk d + 1
  | (_, d) => uptoBulk d + 1
 end
def uptoSmall : (H : Type) → List (DataW H) → Bool := fun _ ds => decide (uptoBulkAll ds ≤ 1048576)
def OpenSpec.upto (s : _root_.Go.ChangeSpec) : _root_.Go.OpenSpec := { _root_.Go.OpenSpec.ofChange s with cond := some uptoSmall }

/-- 'laws.FnExactSeal', WHERE WHAT IT READS IS OF BULK AT MOST 1048576: true; the input reads as it did. -/
def fnExactSealUptoRow : OpenClaim := { program := "ytiiefhpkkjocbaj", sum := "8933ebb9f77fe695aff8f006230112b31d95da36dca4eb50ca3fbbe5a0d8a977", func := "loop.example/g00012/laws.FnExactSeal", spec := "fnExactSeal", unfollowed := true, recurses := true, apart := false, narrowed := true }
def FnExactSealUptoSaid : Prop := fnExactSealUptoRow.holds Try.pinned (OpenSpec.upto fnExactSealSpec)

/-- 'laws.FnExactOpenSealed', WHERE WHAT IT READS IS OF BULK AT MOST 1048576: true; the input reads as it did. -/
def fnExactOpenSealedUptoRow : OpenClaim := { program := "ytiiefhpkkjocbaj", sum := "8933ebb9f77fe695aff8f006230112b31d95da36dca4eb50ca3fbbe5a0d8a977", func := "loop.example/g00012/laws.FnExactOpenSealed", spec := "fnExactOpenSealed", unfollowed := true, recurses := true, apart := false, narrowed := true }
def FnExactOpenSealedUptoSaid : Prop := fnExactOpenSealedUptoRow.holds Try.pinned (OpenSpec.upto fnExactOpenSealedSpec)

/-- 'laws.FnExactHeadMask', WHERE WHAT IT READS IS OF BULK AT MOST 1048576: true; the input reads as it did. -/
def fnExactHeadMaskUptoRow : OpenClaim := { program := "ytiiefhpkkjocbaj", sum := "8933ebb9f77fe695aff8f006230112b31d95da36dca4eb50ca3fbbe5a0d8a977", func := "loop.example/g00012/laws.FnExactHeadMask", spec := "fnExactHeadMask", recurses := true, apart := false, narrowed := true }
def FnExactHeadMaskUptoSaid : Prop := fnExactHeadMaskUptoRow.holds Try.pinned (OpenSpec.upto fnExactHeadMaskSpec)

/-- 'laws.FnExactHeadBytes', WHERE WHAT IT READS IS OF BULK AT MOST 1048576: true; the input reads as it did. -/
def fnExactHeadBytesUptoRow : OpenClaim := { program := "ytiiefhpkkjocbaj", sum := "8933ebb9f77fe695aff8f006230112b31d95da36dca4eb50ca3fbbe5a0d8a977", func := "loop.example/g00012/laws.FnExactHeadBytes", spec := "fnExactHeadBytes", unfollowed := true, recurses := true, apart := false, narrowed := true }
def FnExactHeadBytesUptoSaid : Prop := fnExactHeadBytesUptoRow.holds Try.pinned (OpenSpec.upto fnExactHeadBytesSpec)

/-- 'laws.FnExactProtectPacket', WHERE WHAT IT READS IS OF BULK AT MOST 1048576: true; the input reads as it did. -/
def fnExactProtectPacketUptoRow : OpenClaim := { program := "ytiiefhpkkjocbaj", sum := "8933ebb9f77fe695aff8f006230112b31d95da36dca4eb50ca3fbbe5a0d8a977", func := "loop.example/g00012/laws.FnExactProtectPacket", spec := "fnExactProtectPacket", unfollowed := true, recurses := true, apart := false, narrowed := true }
def FnExactProtectPacketUptoSaid : Prop := fnExactProtectPacketUptoRow.holds Try.pinned (OpenSpec.upto fnExactProtectPacketSpec)

end Rows
end Go.Proofs.Ytiiefhpkkjocbaj
