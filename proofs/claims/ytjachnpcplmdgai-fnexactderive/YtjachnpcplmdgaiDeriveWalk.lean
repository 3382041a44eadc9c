import Derived.Test.YtjachnpcplmdgaiDeriveLaw
import Derived.Test.YtjachnpcplmdgaiIDerive
namespace Go.Proofs.Ytjachnpcplmdgai
open Go.RowKit
set_option linter.unusedVariables false

theorem fnExactDerive_walk (v0 : Value) (x0 : List Int) (s1 : ByteArray) (a2 : Int) (l0 : x0.length ≤ maxLen) (wf0 : ∀ x ∈ x0, (Lit.int .u8 x).wf = true) (l1 : s1.size ≤ maxLen) (wf2 : (Lit.int .i64 a2).wf = true)
    (w : World) (row0 : Row w .u8 v0 x0) :
    Calls Try.prog 6 #[v0, .string s1, .int .i64 a2] w fun e w' => e = .returned (.bool true) ∧ Below w.heap.size w w' := by
  have b0 := bytes_of_wf wf0
  have m0 : x0.length ≤ 9223372036854775807 := by have h := l0; unfold maxLen at h; omega
  have m1 : s1.size ≤ 9223372036854775807 := by have h := l1; unfold maxLen at h; omega
  exact derive_walkOf v0 x0 s1 a2 (derV x0 s1 a2) w (fun _ => True) (fun _ _ => trivial) l0 wf0 l1 wf2 row0 (by have := derV_length x0 s1 a2; omega)
    (fun w u0 r0 => specDerive u0 x0 s1 a2 w r0 b0 m0 m1) (fun w u0 _ r0 => implDerive u0 x0 s1 a2 w r0 b0 m0 m1)
end Go.Proofs.Ytjachnpcplmdgai
