import Derived.Test.YtiiefhpkkjocbalHeadS
namespace Go.Proofs.Ytiiefhpkkjocbal
open Go.RowKit
set_option linter.unusedVariables false

/-- The token of an id. -/
def tokV (ks cs : List Int) : List Int := (digV ks cs).take 8
theorem tokV_length (ks cs : List Int) : (tokV ks cs).length = 8 := by simp [tokV, digV_length]
set_option maxHeartbeats 1000000 in
theorem rtok_bad (ak ac : Option Addr) (n m pk pc : Nat) (w : World) (h : n ≠ 16 ∨ 8 < m) (hn : n ≤ 9223372036854775807) (hm : m ≤ 9223372036854775807) :
    Calls Try.prog 6 #[.slice ak n pk, .slice ac m pc] w fun e w' => ∃ r, e = .returned r ∧ w'.ownsRow w.heap.size 5 1 r 0 (([] : List Int).map (Value.int .u8)) ∧ Below w.heap.size w w' := by
  by_cases h16 : n = 16
  · subst h16
    have h8 : 8 < m := by omega
    clear h
    go_enter Try.func6, Try.ntmps6
    go_wp2
    go_ret
    exact ⟨_, rfl, World.ownsRow_lit _ #[] 0 (Nat.le_refl _) (by decide) rfl, (Below.refl _ _).alloc (Nat.le_refl _) _⟩
  · have hne : ((n : Int) != 16) = true := by simp; omega
    clear h h16
    go_enter Try.func6, Try.ntmps6
    go_wp2
    go_ret
    exact ⟨_, rfl, World.ownsRow_lit _ #[] 0 (Nat.le_refl _) (by decide) rfl, (Below.refl _ _).alloc (Nat.le_refl _) _⟩
set_option maxHeartbeats 1000000 in
theorem rtok_ok (ak ac : Option Addr) (m pk pc : Nat) (ks cs : List Int) (w : World) (hk : Row w .u8 (.slice ak 16 pk) ks) (hc : Row w .u8 (.slice ac m pc) cs) (lk : ks.length = 16) (em : m = cs.length) (h8 : m ≤ 8) (bk : Bytes ks) (bc : Bytes cs) :
    Calls Try.prog 6 #[.slice ak 16 pk, .slice ac m pc] w fun e w' => ∃ r, e = .returned r ∧ w'.ownsRow w.heap.size 5 1 r (tokV ks cs).length ((tokV ks cs).map (Value.int .u8)) ∧ Below w.heap.size w w' := by
  have HH : Hid _ := And.intro (And.intro hk hc) (And.intro (And.intro bk bc) (And.intro lk em))
  clear hk hc bk bc lk em
  go_enter Try.func6, Try.ntmps6
  go_wp2_with fail
  go_at_call 20
  refine (specDigest _ _ ks cs _ HH.out.1.1 HH.out.1.2 HH.out.2.1.1 HH.out.2.1.2 (by rw [HH.out.2.2.1]; decide) (by rw [← HH.out.2.2.2]; omega)).mono ?_
  rintro e w2 ⟨q2, rfl, o2, b2⟩
  obtain ⟨g2, p2, rfl, _, _⟩ := owns_shape o2 (by decide)
  obtain ⟨hc1, hc2⟩ := hm_cap o2
  have hc8 : (8 : Int) ≤ (p2 : Int) := by omega
  have H2 : Hid _ := And.intro (hm_take (m := 8) o2 (by decide)) b2
  clear o2 b2
  go_wp2_with fail
  go_at_call 19
  refine (copyC _ ((digV ks cs).take 8) _ H2.out.1 (by rw [List.length_take, digV_length]; decide) (by rw [List.length_take, digV_length]; decide)).mono ?_
  rintro e w3 ⟨q3, rfl, o3, b3⟩
  have HF : Hid _ := And.intro (owns_mono o3 H2.out.2.size) (H2.out.2.trans (b3.mono H2.out.2.size))
  clear o3 b3
  go_wp2
  go_ret
  exact ⟨_, rfl, HF.out.1, HF.out.2⟩
end Go.Proofs.Ytiiefhpkkjocbal
