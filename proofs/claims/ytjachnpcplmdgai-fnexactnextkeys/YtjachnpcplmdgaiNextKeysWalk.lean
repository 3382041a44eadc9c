import Derived.Test.YtjachnpcplmdgaiNextKeysLaw
import Derived.Test.YtjachnpcplmdgaiINextKeys
namespace Go.Proofs.Ytjachnpcplmdgai
open Go.RowKit
set_option linter.unusedVariables false

theorem fnExactNextKeys_walk (v0 : Value) (k0 : K4) (sm0 : k0.small maxLen) (kb0 : k0.bytes) (w : World) (row0 : KRow w v0 k0) :
    Calls Try.prog 8 #[v0] w fun e w' => e = .returned (.bool true) ∧ Below w.heap.size w w' := by
  by_cases h : kok k0
  · refine nextKeys_walkOf v0 k0 (nextV k0) w (fun _ => True) (fun _ _ => trivial) sm0 kb0 row0 ?_
      (fun w u0 r0 => nextKeys_ok u0 k0 w r0 kb0 h) (fun w u0 _ r0 => inextKeys_ok u0 k0 w r0 kb0 h)
    obtain ⟨h0, h1, h2, h3⟩ := nextV_kok k0 h
    exact ⟨by omega, by omega, by omega, by omega⟩
  · exact nextKeys_walkOf v0 k0 kZero w (fun _ => True) (fun _ _ => trivial) sm0 kb0 row0 (by simp [K4.small, kZero])
      (fun w u0 r0 => nextKeys_bad u0 k0 w r0 h) (fun w u0 _ r0 => inextKeys_bad u0 k0 w r0 h)
end Go.Proofs.Ytjachnpcplmdgai
