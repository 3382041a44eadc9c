/-
  No cell of these rows narrows 'for every input' (looked for: loops, veiled, ifaces, maps, wideKeys, modest, calm, conditions, laid).
  DERIVED. THE GIVEN ROWS OF THIS SEAT. 3 by the template 'for every input the law returns true; each argument reads behind the call as it read before'; 0 by the template 'total and deterministic' (their statements: YtiiefhpkkjocbalTotals.lean).
  GIVEN WITH THE SEED: the statements are not yours to turn. If you find one false, say at which input.
  Laid BY PROGRAM, IN A SANDBOX (cutbox-rows.mjs): the forced cells as the released guide's own fill.sh prints them over the translation 0c87affc25272689… (all of the seat's roots in one cut). By AI agents, Wed Nov 11 2026. No macro, syntax, notation, axiom, sorry.
-/
import Derived.Test.YtiiefhpkkjocbalChecked
import GoSem.Claim
import GoSem.ClaimJoined
import GoSem.ClaimMapViews
import Derived.JoinedTies
import Derived.KernelRfl
namespace Go.Proofs.Ytiiefhpkkjocbal
/- THE CELL 'sum', in the pinned program and in every row, IS THE sha256 OF THE DUMP (.gsa) THAT YtiiefhpkkjocbalProg.lean LOADS. Nothing in Lean hashes anything: it is a label: what it is worth is what the hold of that sum in a sandbox is worth. -/
noncomputable def Try.pinned : Pinned := { name := "ytiiefhpkkjocbal", sum := "0c87affc252726891042fcab1bb7b89bfafc4c38f39e5eba028e43f92a261530", checked := Try.checked }
namespace Rows
def none {H : Type} : Left H := { results := [], args := [] }

/-- 'laws.FnExactResetToken': WHATEVER THE INPUT: true; the input reads as it did. -/
def fnExactResetTokenSpec : ChangeSpec := { name := "fnExactResetToken", fn := fun _ => fun
  | [d1, d2] => { results := [.lit (.bool true)], args := [d1, d2] }
  | _ => none }
def fnExactResetTokenRow : OpenClaim := { program := "ytiiefhpkkjocbal", sum := "0c87affc252726891042fcab1bb7b89bfafc4c38f39e5eba028e43f92a261530", func := "loop.example/g00012/laws.FnExactResetToken", spec := "fnExactResetToken", recurses := true, apart := false }
def FnExactResetTokenSaid : Prop := fnExactResetTokenRow.holds Try.pinned (OpenSpec.ofChange fnExactResetTokenSpec)

/-- ITS FALSE NEIGHBOUR: 'it returns false'. Refute it at one input. -/
def fnExactResetTokenWrong : ChangeSpec := { name := "fnExactResetToken", fn := fun _ => fun
  | [d1, d2] => { results := [.lit (.bool false)], args := [d1, d2] }
  | _ => none }
def FnExactResetTokenWrongFalsely : Prop := fnExactResetTokenRow.holds Try.pinned (OpenSpec.ofChange fnExactResetTokenWrong)

/-- 'laws.FnExactResetPacket': WHATEVER THE INPUT: true; the input reads as it did. -/
def fnExactResetPacketSpec : ChangeSpec := { name := "fnExactResetPacket", fn := fun _ => fun
  | [d1, d2] => { results := [.lit (.bool true)], args := [d1, d2] }
  | _ => none }
def fnExactResetPacketRow : OpenClaim := { program := "ytiiefhpkkjocbal", sum := "0c87affc252726891042fcab1bb7b89bfafc4c38f39e5eba028e43f92a261530", func := "loop.example/g00012/laws.FnExactResetPacket", spec := "fnExactResetPacket", apart := false }
def FnExactResetPacketSaid : Prop := fnExactResetPacketRow.holds Try.pinned (OpenSpec.ofChange fnExactResetPacketSpec)

/-- ITS FALSE NEIGHBOUR: 'it returns false'. Refute it at one input. -/
def fnExactResetPacketWrong : ChangeSpec := { name := "fnExactResetPacket", fn := fun _ => fun
  | [d1, d2] => { results := [.lit (.bool false)], args := [d1, d2] }
  | _ => none }
def FnExactResetPacketWrongFalsely : Prop := fnExactResetPacketRow.holds Try.pinned (OpenSpec.ofChange fnExactResetPacketWrong)

/-- 'laws.FnExactIsReset': WHATEVER THE INPUT: true; the input reads as it did. -/
def fnExactIsResetSpec : ChangeSpec := { name := "fnExactIsReset", fn := fun _ => fun
  | [d1, d2] => { results := [.lit (.bool true)], args := [d1, d2] }
  | _ => none }
def fnExactIsResetRow : OpenClaim := { program := "ytiiefhpkkjocbal", sum := "0c87affc252726891042fcab1bb7b89bfafc4c38f39e5eba028e43f92a261530", func := "loop.example/g00012/laws.FnExactIsReset", spec := "fnExactIsReset", unfollowed := true, recurses := true, apart := false }
def FnExactIsResetSaid : Prop := fnExactIsResetRow.holds Try.pinned (OpenSpec.ofChange fnExactIsResetSpec)

/-- ITS FALSE NEIGHBOUR: 'it returns false'. Refute it at one input. -/
def fnExactIsResetWrong : ChangeSpec := { name := "fnExactIsReset", fn := fun _ => fun
  | [d1, d2] => { results := [.lit (.bool false)], args := [d1, d2] }
  | _ => none }
def FnExactIsResetWrongFalsely : Prop := fnExactIsResetRow.holds Try.pinned (OpenSpec.ofChange fnExactIsResetWrong)

/- THE SECOND FORM. 'bulk': how many values and letters a reading holds, each counted each time it is reached (what is shared counts as often as it is met; a slice's spare places count too). A statement '..UptoSaid' is the law's where the arguments, and the package variables that the reading takes, are together of bulk at most 1048576: NARROWER than '..Said'. Prove '..Said' where nothing that the law and all that it calls make is longer than what came in: it says more and counts as full. Else prove '..UptoSaid'. A law counts once. -/
mutual
def uptoBulk {H : Type} : DataW H → Nat
  | .lit (.string bytes) => bytes.length + 1
  | .lit _ => 1
  | .nil => 1
  | .ptr d => uptoBulk d + 1
  | .slice elems spare => uptoBulkAll elems + uptoBulkAll spare + 1
  | .agg parts => uptoBulkAll parts + 1
  | .iface _ d => uptoBulk d + 1
  | .map entries => uptoBulkEntries entries + 1
  | .held _ => 1
def uptoBulkAll {H : Type} : List (DataW H) → Nat
  | [] => 0
  | d :: r => uptoBulk d + uptoBulkAll r
def uptoBulkEntries {H : Type} : List (Lit × DataW H) → Nat
  | [] => 0
  | x :: r => uptoBulkEntry x + uptoBulkEntries r
def uptoBulkEntry {H : Type} : Lit × DataW H → Nat
  | (.string bytes, d) => bytes.length + uptoBulk d + 1
  | (_, d) => uptoBulk d + 1
 end
def uptoSmall : (H : Type) → List (DataW H) → Bool := fun _ ds => decide (uptoBulkAll ds ≤ 1048576)
def OpenSpec.upto (s : _root_.Go.ChangeSpec) : _root_.Go.OpenSpec := { _root_.Go.OpenSpec.ofChange s with cond := some uptoSmall }

/-- 'laws.FnExactResetToken', WHERE WHAT IT READS IS OF BULK AT MOST 1048576: true; the input reads as it did. -/
def fnExactResetTokenUptoRow : OpenClaim := { program := "ytiiefhpkkjocbal", sum := "0c87affc252726891042fcab1bb7b89bfafc4c38f39e5eba028e43f92a261530", func := "loop.example/g00012/laws.FnExactResetToken", spec := "fnExactResetToken", recurses := true, apart := false, narrowed := true }
def FnExactResetTokenUptoSaid : Prop := fnExactResetTokenUptoRow.holds Try.pinned (OpenSpec.upto fnExactResetTokenSpec)

/-- 'laws.FnExactResetPacket', WHERE WHAT IT READS IS OF BULK AT MOST 1048576: true; the input reads as it did. -/
def fnExactResetPacketUptoRow : OpenClaim := { program := "ytiiefhpkkjocbal", sum := "0c87affc252726891042fcab1bb7b89bfafc4c38f39e5eba028e43f92a261530", func := "loop.example/g00012/laws.FnExactResetPacket", spec := "fnExactResetPacket", apart := false, narrowed := true }
def FnExactResetPacketUptoSaid : Prop := fnExactResetPacketUptoRow.holds Try.pinned (OpenSpec.upto fnExactResetPacketSpec)

/-- 'laws.FnExactIsReset', WHERE WHAT IT READS IS OF BULK AT MOST 1048576: true; the input reads as it did. -/
def fnExactIsResetUptoRow : OpenClaim := { program := "ytiiefhpkkjocbal", sum := "0c87affc252726891042fcab1bb7b89bfafc4c38f39e5eba028e43f92a261530", func := "loop.example/g00012/laws.FnExactIsReset", spec := "fnExactIsReset", unfollowed := true, recurses := true, apart := false, narrowed := true }
def FnExactIsResetUptoSaid : Prop := fnExactIsResetUptoRow.holds Try.pinned (OpenSpec.upto fnExactIsResetSpec)

end Rows
end Go.Proofs.Ytiiefhpkkjocbal
