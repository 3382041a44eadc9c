import Derived.Test.YtkpmdcmgcdnpfaaVals
namespace Go.Proofs.Ytkpmdcmgcdnpfaa
open Go.RowKit
set_option linter.unusedVariables false

set_option maxHeartbeats 400000 in
theorem value_core (n : Nat) (xs : List Int) (b off cap : Nat) (w : World) (hn : n ≤ 8) (hl : xs.length = n) (hb : Bytes xs) (hv : vals xs ≤ 9223372036854775807)
    (hc : ∀ j, j < n → w.cell? ⟨b, off + j, none⟩ = some (.int .u8 (xs.getD j 0))) :
    Calls Try.prog 26 #[.slice (some ⟨b, off, none⟩) n cap] w fun e w' => e = .returned (.int .i64 (vals xs)) ∧ w' = w := by
  have HC : Hid (∀ j, j < n → w.cell? ⟨b, off + j, none⟩ = some (.int .u8 (xs.getD j 0))) := hc
  have HB : Hid (Bytes xs ∧ xs.length = n ∧ vals xs ≤ 9223372036854775807) := ⟨hb, hl, hv⟩
  clear hc hb hl hv
  go_enter Try.func26, Try.ntmps26
  go_wp2
  go_loop [3, 4] (fun s i => ∃ k : Nat, k ≤ n ∧ i = .int .i64 k ∧ s = .int .i64 (vals (xs.take k))) (fun _ i => n - (intOf i).toNat)
  case atStart => exact ⟨0, Nat.zero_le _, rfl, by simp [vals]⟩
  case round =>
    obtain ⟨k, hk, rfl, rfl⟩ := hrel
    by_cases hlt : k < n
    · have c1 := HC.out k hlt
      have x1 := HB.out.1.at k
      have a1 := vals_take_le xs HB.out.1 (k + 1)
      have a2 := HB.out.2.2
      have a0 := vals_nonneg _ (HB.out.1.take k)
      have hs : vals (xs.take (k + 1)) = vals (xs.take k) * 256 + xs.getD k 0 := vals_snoc xs k (by rw [HB.out.2.1]; exact hlt)
      have a3 : vals (xs.take k) * 256 + xs.getD k 0 ≤ 9223372036854775807 := by omega
      have HS : Hid (vals (xs.take (k + 1)) = vals (xs.take k) * 256 + xs.getD k 0) := hs
      clear a1 a2 hs
      obtain ⟨x, hx⟩ : ∃ x, x = xs.getD k 0 := ⟨_, rfl⟩
      obtain ⟨a, ha⟩ : ∃ a, a = vals (xs.take k) := ⟨_, rfl⟩
      rw [← hx] at c1 x1 HS a3
      rw [← ha] at a0 HS a3 ⊢
      clear hx ha
      go_wp2
      go_round
      case rel => exact ⟨k + 1, by omega, by go_num, by rw [HS.out]⟩
      case measure => simp [intOf]; omega
    · go_wp2
      go_ret
      obtain rfl : k = n := by omega
      have : xs.take k = xs := by rw [← HB.out.2.1, List.take_length]
      rw [← this]
      exact ⟨by rw [List.take_take, Nat.min_self]; rfl, rfl⟩
end Go.Proofs.Ytkpmdcmgcdnpfaa
