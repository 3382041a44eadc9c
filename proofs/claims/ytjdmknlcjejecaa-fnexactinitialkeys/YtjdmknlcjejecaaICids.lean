import Derived.Test.YtjdmknlcjejecaaPartsB
namespace Go.Proofs.Ytjdmknlcjejecaa
open Go.RowKit
set_option linter.unusedVariables false

set_option maxRecDepth 20000 in
set_option maxHeartbeats 1000000 in
/-- Whether all ids are short enough. -/
theorem icids (vp : Value) (L : List (List Int)) (w : World) (hp : Parts w vp L) (lL : L.length ≤ 1000) (hs : ∀ j, (L.getD j []).length ≤ 9223372036854775807) :
    Calls Try.prog 18 #[vp] w fun e w' => e = .returned (.bool (decide (∀ j, j < L.length → (L.getD j []).length ≤ 8))) ∧ w' = w := by
  obtain ⟨p, capp, rfl, hpl, hpc⟩ := hp.at'
  obtain ⟨m, em⟩ : ∃ m, m = L.length := ⟨_, rfl⟩
  have HH : Hid _ := And.intro em (And.intro hs hpc)
  rw [← em] at lL ⊢
  clear em hs hp hpc
  go_enter Try.func18, Try.ntmps18
  go_wp2_with fail
  go_loopw [7] (fun i wr => ∃ k : Nat, k ≤ m ∧ i = .int .i64 (k : Int) ∧ wr = w ∧ ∀ j, j < k → (L.getD j []).length ≤ 8) (fun i _ => m - (intOf i).toNat)
  case atStart => exact ⟨0, by omega, rfl, rfl, fun j hj => by omega⟩
  case round =>
    obtain ⟨k, hk, rfl, ewr, st⟩ := hrel
    subst wr
    by_cases hlt : k < m
    · obtain ⟨v, hv, hr⟩ := HH.out.2.2 k (by have := HH.out.1; omega)
      obtain ⟨av, cpv, rfl⟩ := hr.form
      have hlx := HH.out.2.1 k
      have H4 : Hid _ := And.intro st True.intro
      clear hr st
      obtain ⟨nx, enx⟩ : ∃ q, q = (L.getD k []).length := ⟨_, rfl⟩
      rw [← enx] at hv hlx
      have EN : Hid _ := And.intro enx True.intro
      clear enx
      by_cases h8 : nx ≤ 8
      · go_wp2
        go_roundw
        case rel =>
          refine ⟨k + 1, by omega, by go_num, by trivial, fun j hj => ?_⟩
          by_cases hjk : j = k
          · subst hjk; rw [← EN.out.1]; exact h8
          · exact H4.out.1 j (by omega)
        case measure => simp [intOf]; omega
      · go_wp2
        go_ret
        have hd : decide (∀ j, j < m → (L.getD j []).length ≤ 8) = false := decide_eq_false (fun h => by have h2 := h k hlt; rw [← EN.out.1] at h2; exact h8 h2)
        exact ⟨by rw [hd]; rfl, by trivial⟩
    · obtain rfl : k = m := by omega
      have H4 : Hid _ := And.intro st True.intro
      clear st
      go_wp2
      go_ret
      have hd : decide (∀ j, j < k → (L.getD j []).length ≤ 8) = true := decide_eq_true H4.out.1
      exact ⟨by rw [hd]; rfl, by trivial⟩
end Go.Proofs.Ytjdmknlcjejecaa
