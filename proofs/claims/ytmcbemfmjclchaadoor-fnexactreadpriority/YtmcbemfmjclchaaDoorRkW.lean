import Derived.Test.YtmcbemfmjclchaaDoorRkS
import Derived.Test.YtmcbemfmjclchaaDoorRkX
namespace Go.Proofs.YtmcbemfmjclchaaDoor
open Go.RowKit
set_option linter.unusedVariables false

set_option maxHeartbeats 1000000 in
theorem rp_law (s : ByteArray) (w : World) (hm : s.size ≤ 9223372036854775807) :
    Calls Tryd.prog 3 #[.string s] w fun e w' => e = .returned (.bool true) ∧ Below w.heap.size w w' := by
  have both : ∃ V : Int × Bool, (∀ u, Calls Tryd.prog 4 #[.string s] u fun e w' => e = .returned (.tuple #[.int .i64 V.1, .bool V.2]) ∧ w' = u) ∧ (∀ u, Calls Tryd.prog 5 #[.string s] u fun e w' => e = .returned (.tuple #[.int .i64 V.1, .bool V.2]) ∧ Below u.heap.size u w') := by
    by_cases h : 1024 < s.size
    · exact ⟨(3, false), fun u => specP_long s u h hm, fun u => readP_long s u h hm⟩
    · have e := bl_of s
      have hl : s.data.toList.length ≤ 1024 := by have := congrArg ByteArray.size e; rw [bl_size] at this; omega
      rw [e]
      exact ⟨rpV s.data.toList, fun u => specP _ u hl, fun u => readP _ u hl⟩
  obtain ⟨V, CS, CI⟩ := both
  have h1 : (V.1 == V.1) = true := by simp
  have h2 : (V.2 == V.2) = true := by simp
  have H : Hid _ := And.intro CS CI
  clear CS CI
  go_enter Tryd.func3, Tryd.ntmps3
  by_cases h20 : (1048576 : Int) < (s.size : Int)
  · go_wp2
    go_ret
    exact ⟨rfl, Below.refl _ _⟩
  · go_wp2_with (first | (go_at_call 4; refine (H.out.1 _).mono ?_; rintro e w1 ⟨rfl, hw⟩; subst hw) | (go_at_call 5; refine (H.out.2 _).mono ?_; rintro e w2 ⟨rfl, b2⟩))
    go_ret
    exact ⟨rfl, b2⟩
theorem fnExactReadPriority_walk (s : ByteArray) (hl : s.size ≤ maxLen) (w : World) :
    Calls Tryd.prog 3 #[.string s] w fun e w' => e = .returned (.bool true) ∧ Below w.heap.size w w' :=
  rp_law s w (by unfold maxLen at hl; omega)
end Go.Proofs.YtmcbemfmjclchaaDoor
