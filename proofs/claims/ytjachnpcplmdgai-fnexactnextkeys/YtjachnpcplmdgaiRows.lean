/-
  No cell of these rows narrows 'for every input' (looked for: loops, veiled, ifaces, maps, wideKeys, modest, calm, conditions, laid).
  DERIVED. THE GIVEN ROWS OF THIS SEAT. 6 by the template 'for every input the law returns true; each argument reads behind the call as it read before'; 0 by the template 'total and deterministic' (their statements: YtjachnpcplmdgaiTotals.lean).
  GIVEN WITH THE SEED: the statements are not yours to turn. If you find one false, say at which input.
  Laid BY PROGRAM, IN A SANDBOX (cutbox-rows.mjs): the forced cells as the released guide's own fill.sh prints them over the translation 66502587d269b074… (all of the seat's roots in one cut). By AI agents, Wed Nov 11 2026. No macro, syntax, notation, axiom, sorry.
-/
import Derived.Test.YtjachnpcplmdgaiChecked
import GoSem.Claim
import GoSem.ClaimJoined
import GoSem.ClaimMapViews
import Derived.JoinedTies
import Derived.KernelRfl
namespace Go.Proofs.Ytjachnpcplmdgai
/- THE CELL 'sum', in the pinned program and in every row, IS THE sha256 OF THE DUMP (.gsa) THAT YtjachnpcplmdgaiProg.lean LOADS. Nothing in Lean hashes anything: it is a label: what it is worth is what the hold of that sum in a sandbox is worth. -/
noncomputable def Try.pinned : Pinned := { name := "ytjachnpcplmdgai", sum := "66502587d269b074fb42e484963ffa5e0f862ae096ef011dc9e0de2d24d0bd66", checked := Try.checked }
namespace Rows
def none {H : Type} : Left H := { results := [], args := [] }

/-- 'laws.FnExactCutNum': WHATEVER THE INPUT: true; the input reads as it did. -/
def fnExactCutNumSpec : ChangeSpec := { name := "fnExactCutNum", fn := fun _ => fun
  | [d1, d2] => { results := [.lit (.bool true)], args := [d1, d2] }
  | _ => none }
def fnExactCutNumRow : OpenClaim := { program := "ytjachnpcplmdgai", sum := "66502587d269b074fb42e484963ffa5e0f862ae096ef011dc9e0de2d24d0bd66", func := "loop.example/g00012/laws.FnExactCutNum", spec := "fnExactCutNum", apart := false }
def FnExactCutNumSaid : Prop := fnExactCutNumRow.holds Try.pinned (OpenSpec.ofChange fnExactCutNumSpec)

/-- ITS FALSE NEIGHBOUR: 'it returns false'. Refute it at one input. -/
def fnExactCutNumWrong : ChangeSpec := { name := "fnExactCutNum", fn := fun _ => fun
  | [d1, d2] => { results := [.lit (.bool false)], args := [d1, d2] }
  | _ => none }
def FnExactCutNumWrongFalsely : Prop := fnExactCutNumRow.holds Try.pinned (OpenSpec.ofChange fnExactCutNumWrong)

/-- 'laws.FnExactExpandNum': WHATEVER THE INPUT: true; the input reads as it did. -/
def fnExactExpandNumSpec : ChangeSpec := { name := "fnExactExpandNum", fn := fun _ => fun
  | [d1, d2, d3] => { results := [.lit (.bool true)], args := [d1, d2, d3] }
  | _ => none }
def fnExactExpandNumRow : OpenClaim := { program := "ytjachnpcplmdgai", sum := "66502587d269b074fb42e484963ffa5e0f862ae096ef011dc9e0de2d24d0bd66", func := "loop.example/g00012/laws.FnExactExpandNum", spec := "fnExactExpandNum", apart := false }
def FnExactExpandNumSaid : Prop := fnExactExpandNumRow.holds Try.pinned (OpenSpec.ofChange fnExactExpandNumSpec)

/-- ITS FALSE NEIGHBOUR: 'it returns false'. Refute it at one input. -/
def fnExactExpandNumWrong : ChangeSpec := { name := "fnExactExpandNum", fn := fun _ => fun
  | [d1, d2, d3] => { results := [.lit (.bool false)], args := [d1, d2, d3] }
  | _ => none }
def FnExactExpandNumWrongFalsely : Prop := fnExactExpandNumRow.holds Try.pinned (OpenSpec.ofChange fnExactExpandNumWrong)

/-- 'laws.FnExactDigest': WHATEVER THE INPUT: true; the input reads as it did. -/
def fnExactDigestSpec : ChangeSpec := { name := "fnExactDigest", fn := fun _ => fun
  | [d1, d2] => { results := [.lit (.bool true)], args := [d1, d2] }
  | _ => none }
def fnExactDigestRow : OpenClaim := { program := "ytjachnpcplmdgai", sum := "66502587d269b074fb42e484963ffa5e0f862ae096ef011dc9e0de2d24d0bd66", func := "loop.example/g00012/laws.FnExactDigest", spec := "fnExactDigest", recurses := true, apart := false }
def FnExactDigestSaid : Prop := fnExactDigestRow.holds Try.pinned (OpenSpec.ofChange fnExactDigestSpec)

/-- ITS FALSE NEIGHBOUR: 'it returns false'. Refute it at one input. -/
def fnExactDigestWrong : ChangeSpec := { name := "fnExactDigest", fn := fun _ => fun
  | [d1, d2] => { results := [.lit (.bool false)], args := [d1, d2] }
  | _ => none }
def FnExactDigestWrongFalsely : Prop := fnExactDigestRow.holds Try.pinned (OpenSpec.ofChange fnExactDigestWrong)

/-- 'laws.FnExactDerive': WHATEVER THE INPUT: true; the input reads as it did. -/
def fnExactDeriveSpec : ChangeSpec := { name := "fnExactDerive", fn := fun _ => fun
  | [d1, d2, d3] => { results := [.lit (.bool true)], args := [d1, d2, d3] }
  | _ => none }
def fnExactDeriveRow : OpenClaim := { program := "ytjachnpcplmdgai", sum := "66502587d269b074fb42e484963ffa5e0f862ae096ef011dc9e0de2d24d0bd66", func := "loop.example/g00012/laws.FnExactDerive", spec := "fnExactDerive", recurses := true, apart := false }
def FnExactDeriveSaid : Prop := fnExactDeriveRow.holds Try.pinned (OpenSpec.ofChange fnExactDeriveSpec)

/-- ITS FALSE NEIGHBOUR: 'it returns false'. Refute it at one input. -/
def fnExactDeriveWrong : ChangeSpec := { name := "fnExactDerive", fn := fun _ => fun
  | [d1, d2, d3] => { results := [.lit (.bool false)], args := [d1, d2, d3] }
  | _ => none }
def FnExactDeriveWrongFalsely : Prop := fnExactDeriveRow.holds Try.pinned (OpenSpec.ofChange fnExactDeriveWrong)

/-- 'laws.FnExactKeysOf': WHATEVER THE INPUT: true; the input reads as it did. -/
def fnExactKeysOfSpec : ChangeSpec := { name := "fnExactKeysOf", fn := fun _ => fun
  | [d] => { results := [.lit (.bool true)], args := [d] }
  | _ => none }
def fnExactKeysOfRow : OpenClaim := { program := "ytjachnpcplmdgai", sum := "66502587d269b074fb42e484963ffa5e0f862ae096ef011dc9e0de2d24d0bd66", func := "loop.example/g00012/laws.FnExactKeysOf", spec := "fnExactKeysOf", recurses := true, apart := false }
def FnExactKeysOfSaid : Prop := fnExactKeysOfRow.holds Try.pinned (OpenSpec.ofChange fnExactKeysOfSpec)

/-- ITS FALSE NEIGHBOUR: 'it returns false'. Refute it at one input. -/
def fnExactKeysOfWrong : ChangeSpec := { name := "fnExactKeysOf", fn := fun _ => fun
  | [d] => { results := [.lit (.bool false)], args := [d] }
  | _ => none }
def FnExactKeysOfWrongFalsely : Prop := fnExactKeysOfRow.holds Try.pinned (OpenSpec.ofChange fnExactKeysOfWrong)

/-- 'laws.FnExactNextKeys': WHATEVER THE INPUT: true; the input reads as it did. -/
def fnExactNextKeysSpec : ChangeSpec := { name := "fnExactNextKeys", fn := fun _ => fun
  | [d] => { results := [.lit (.bool true)], args := [d] }
  | _ => none }
def fnExactNextKeysRow : OpenClaim := { program := "ytjachnpcplmdgai", sum := "66502587d269b074fb42e484963ffa5e0f862ae096ef011dc9e0de2d24d0bd66", func := "loop.example/g00012/laws.FnExactNextKeys", spec := "fnExactNextKeys", recurses := true, apart := false }
def FnExactNextKeysSaid : Prop := fnExactNextKeysRow.holds Try.pinned (OpenSpec.ofChange fnExactNextKeysSpec)

/-- ITS FALSE NEIGHBOUR: 'it returns false'. Refute it at one input. -/
def fnExactNextKeysWrong : ChangeSpec := { name := "fnExactNextKeys", fn := fun _ => fun
  | [d] => { results := [.lit (.bool false)], args := [d] }
  | _ => none }
def FnExactNextKeysWrongFalsely : Prop := fnExactNextKeysRow.holds Try.pinned (OpenSpec.ofChange fnExactNextKeysWrong)

/- THE SECOND FORM. 'bulk': how many values and letters a reading holds, each counted each time it is reached (what is shared counts as often as it is met; a slice's spare places count too). A statement '..UptoSaid' is the law's where the arguments, and the package variables that the reading takes, are together of bulk at most 1048576: NARROWER than '..Said'. Prove '..Said' where nothing that the law and all that it calls make is longer than what came in: it says more and counts as full. Else prove '..UptoSaid'. A law counts once. -/
mutual
def uptoBulk {H : Type} : DataW H → Nat
  | .lit (.string bytes) => bytes.length + 1
  | .lit _ => 1
  | .nil => 1
  | .ptr d => uptoBulk d + 1
  | .slice elems spare => uptoBulkAll elems + uptoBulkAll spare + 1
  | .agg parts => uptoBulkAll parts + 1
  | .iface _ d => uptoBulk d + 1
  | .map entries => uptoBulkEntries entries + 1
  | .held _ => 1
def uptoBulkAll {H : Type} : List (DataW H) → Nat
  | [] => 0
  | d :: r => uptoBulk d + uptoBulkAll r
def uptoBulkEntries {H : Type} : List (Lit × DataW H) → Nat
  | [] => 0
  | x :: r => uptoBulkEntry x + uptoBulkEntries r
def uptoBulkEntry {H : Type} : Lit × DataW H → Nat
  | (.string bytes, d) => bytes.length + uptoBulk d + 1
  | (_, d) => uptoBulk d + 1
 end
def uptoSmall : (H : Type) → List (DataW H) → Bool := fun _ ds => decide (uptoBulkAll ds ≤ 1048576)
def OpenSpec.upto (s : _root_.Go.ChangeSpec) : _root_.Go.OpenSpec := { _root_.Go.OpenSpec.ofChange s with cond := some uptoSmall }

/-- 'laws.FnExactCutNum', WHERE WHAT IT READS IS OF BULK AT MOST 1048576: true; the input reads as it did. -/
def fnExactCutNumUptoRow : OpenClaim := { program := "ytjachnpcplmdgai", sum := "66502587d269b074fb42e484963ffa5e0f862ae096ef011dc9e0de2d24d0bd66", func := "loop.example/g00012/laws.FnExactCutNum", spec := "fnExactCutNum", apart := false, narrowed := true }
def FnExactCutNumUptoSaid : Prop := fnExactCutNumUptoRow.holds Try.pinned (OpenSpec.upto fnExactCutNumSpec)

/-- 'laws.FnExactExpandNum', WHERE WHAT IT READS IS OF BULK AT MOST 1048576: true; the input reads as it did. -/
def fnExactExpandNumUptoRow : OpenClaim := { program := "ytjachnpcplmdgai", sum := "66502587d269b074fb42e484963ffa5e0f862ae096ef011dc9e0de2d24d0bd66", func := "loop.example/g00012/laws.FnExactExpandNum", spec := "fnExactExpandNum", apart := false, narrowed := true }
def FnExactExpandNumUptoSaid : Prop := fnExactExpandNumUptoRow.holds Try.pinned (OpenSpec.upto fnExactExpandNumSpec)

/-- 'laws.FnExactDigest', WHERE WHAT IT READS IS OF BULK AT MOST 1048576: true; the input reads as it did. -/
def fnExactDigestUptoRow : OpenClaim := { program := "ytjachnpcplmdgai", sum := "66502587d269b074fb42e484963ffa5e0f862ae096ef011dc9e0de2d24d0bd66", func := "loop.example/g00012/laws.FnExactDigest", spec := "fnExactDigest", recurses := true, apart := false, narrowed := true }
def FnExactDigestUptoSaid : Prop := fnExactDigestUptoRow.holds Try.pinned (OpenSpec.upto fnExactDigestSpec)

/-- 'laws.FnExactDerive', WHERE WHAT IT READS IS OF BULK AT MOST 1048576: true; the input reads as it did. -/
def fnExactDeriveUptoRow : OpenClaim := { program := "ytjachnpcplmdgai", sum := "66502587d269b074fb42e484963ffa5e0f862ae096ef011dc9e0de2d24d0bd66", func := "loop.example/g00012/laws.FnExactDerive", spec := "fnExactDerive", recurses := true, apart := false, narrowed := true }
def FnExactDeriveUptoSaid : Prop := fnExactDeriveUptoRow.holds Try.pinned (OpenSpec.upto fnExactDeriveSpec)

/-- 'laws.FnExactKeysOf', WHERE WHAT IT READS IS OF BULK AT MOST 1048576: true; the input reads as it did. -/
def fnExactKeysOfUptoRow : OpenClaim := { program := "ytjachnpcplmdgai", sum := "66502587d269b074fb42e484963ffa5e0f862ae096ef011dc9e0de2d24d0bd66", func := "loop.example/g00012/laws.FnExactKeysOf", spec := "fnExactKeysOf", recurses := true, apart := false, narrowed := true }
def FnExactKeysOfUptoSaid : Prop := fnExactKeysOfUptoRow.holds Try.pinned (OpenSpec.upto fnExactKeysOfSpec)

/-- 'laws.FnExactNextKeys', WHERE WHAT IT READS IS OF BULK AT MOST 1048576: true; the input reads as it did. -/
def fnExactNextKeysUptoRow : OpenClaim := { program := "ytjachnpcplmdgai", sum := "66502587d269b074fb42e484963ffa5e0f862ae096ef011dc9e0de2d24d0bd66", func := "loop.example/g00012/laws.FnExactNextKeys", spec := "fnExactNextKeys", recurses := true, apart := false, narrowed := true }
def FnExactNextKeysUptoSaid : Prop := fnExactNextKeysUptoRow.holds Try.pinned (OpenSpec.upto fnExactNextKeysSpec)

end Rows
end Go.Proofs.Ytjachnpcplmdgai
