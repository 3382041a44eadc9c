import Derived.Test.YtjachnpcplmdgaiKeysOfLaw
import Derived.Test.YtjachnpcplmdgaiIKeysOf
namespace Go.Proofs.Ytjachnpcplmdgai
open Go.RowKit
set_option linter.unusedVariables false

theorem fnExactKeysOf_walk (v0 : Value) (x0 : List Int) (l0 : x0.length ≤ maxLen) (wf0 : ∀ x ∈ x0, (Lit.int .u8 x).wf = true)
    (w : World) (row0 : Row w .u8 v0 x0) :
    Calls Try.prog 7 #[v0] w fun e w' => e = .returned (.bool true) ∧ Below w.heap.size w w' := by
  have b0 := bytes_of_wf wf0
  have m0 : x0.length ≤ 9223372036854775807 := by have h := l0; unfold maxLen at h; omega
  exact keysOf_walkOf v0 x0 (keysV x0) w (fun _ => True) (fun _ _ => trivial) l0 wf0 row0 (small_mono (keysV_small x0) (by decide))
    (fun w u0 r0 => specKeysOf u0 x0 w r0 b0 m0) (fun w u0 _ r0 => implKeysOf u0 x0 w r0 b0 m0)
end Go.Proofs.Ytjachnpcplmdgai
