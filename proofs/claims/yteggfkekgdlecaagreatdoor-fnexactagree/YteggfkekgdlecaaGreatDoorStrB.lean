import Derived.Test.YteggfkekgdlecaaGreatDoorStrA
namespace Go.Proofs.YteggfkekgdlecaaGreatDoor
open Go.RowKit
set_option linter.unusedVariables false

/-- The bytes of the first k texts. -/
def tsum (L : List ByteArray) (k : Nat) : Nat := ((L.take k).map ByteArray.size).sum
theorem tsum_zero (L : List ByteArray) : tsum L 0 = 0 := rfl
theorem tsum_succ (L : List ByteArray) (k : Nat) (h : k < L.length) : tsum L (k + 1) = tsum L k + (L.getD k ByteArray.empty).size := by
  unfold tsum
  rw [List.take_add_one, List.map_append, List.sum_append]
  simp [List.getD, h]
theorem tsum_mono (L : List ByteArray) : ∀ (d k : Nat), k + d ≤ L.length → tsum L k ≤ tsum L (k + d)
  | 0, k, _ => Nat.le_refl _
  | d + 1, k, h => by
    have := tsum_mono L d k (by omega)
    have e := tsum_succ L (k + d) (by omega)
    rw [show k + (d + 1) = k + d + 1 by omega]
    omega
def ttot (L : List ByteArray) : Int := (L.length : Int) + (tsum L L.length : Int)
set_option maxHeartbeats 800000 in
theorem szStrs (v : Value) (L : List ByteArray) (l : Int) (w : World) (h : TRow w v L) (hn : L.length ≤ 9223372036854775807) (hs : ∀ j, (L.getD j ByteArray.empty).size ≤ 9223372036854775807) (l0 : 0 ≤ l) (l1 : l ≤ 9223372036854775807) :
    Calls Tryz.prog 18 #[v, .int .i64 l] w fun e w' => e = .returned (.int .i64 (if ttot L ≤ l then l - ttot L else -1)) ∧ w' = w := by
  obtain ⟨ao, cap, rfl, hcs⟩ := h.cells
  obtain ⟨R, eR⟩ : ∃ R, R = (if ttot L ≤ l then l - ttot L else -1) := ⟨_, rfl⟩
  rw [← eR]
  obtain ⟨n, en⟩ : ∃ n, n = L.length := ⟨_, rfl⟩
  have MO := tsum_mono L
  rw [← en] at hn hcs ⊢
  have HC : Hid _ := And.intro hcs (And.intro en (And.intro hs (And.intro eR MO)))
  clear hcs en hs eR MO h
  by_cases hb : l < (n : Int)
  · have ER : R = -1 := by rw [HC.out.2.2.2.1, if_neg (by unfold ttot; have := HC.out.2.1; omega)]
    have HR : Hid _ := And.intro ER True.intro
    clear ER
    go_enter Tryz.func18, Tryz.ntmps18
    go_wp2
    go_ret
    exact ⟨by rw [HR.out.1]; rfl, rfl⟩
  · go_enter Tryz.func18, Tryz.ntmps18
    go_wp2
    go_loopg [1, 5] n (fun q s i wr => ∃ k : Nat, k ≤ n ∧ q = n - k ∧ i = .int .i64 (k : Int) ∧ s = .int .i64 (l - (n : Int) - (tsum L k : Int)) ∧ (tsum L k : Int) ≤ l - (n : Int) ∧ wr = w)
    case atStart => exact ⟨0, Nat.zero_le _, rfl, rfl, by rw [tsum_zero]; simp, by rw [tsum_zero]; omega, rfl⟩
    case round =>
      obtain ⟨k, hk, rfl, rfl, rfl, hle, rfl⟩ := hrel
      by_cases hlt : k < n
      · obtain ⟨b, off, rfl, _, c1⟩ := HC.out.1 k hlt
        have e1 := tsum_succ L k (by rw [← HC.out.2.1]; exact hlt)
        have e2 := HC.out.2.2.1 k
        have e3 := HC.out.2.2.2.2 (n - (k + 1)) (k + 1) (by rw [← HC.out.2.1]; omega)
        obtain ⟨x, hx⟩ : ∃ x, x = L.getD k ByteArray.empty := ⟨_, rfl⟩
        rw [← hx] at c1 e1 e2
        clear hx
        obtain ⟨T, eT⟩ : ∃ T, T = tsum L k := ⟨_, rfl⟩
        rw [← eT] at e1 hle ⊢
        have HE : Hid _ := And.intro e1 (And.intro e3 eT)
        have h2 : x.size ≤ 9223372036854775807 := e2
        clear e1 e3 eT e2
        by_cases ho : l - (n : Int) - (T : Int) - (x.size : Int) < 0
        · have ER : R = -1 := by
            rw [HC.out.2.2.2.1, if_neg]
            have a := HE.out.1
            have b := HE.out.2.1
            unfold ttot
            rw [← HC.out.2.1]
            rw [show k + 1 + (n - (k + 1)) = n by omega] at b
            omega
          have HR : Hid _ := And.intro ER True.intro
          clear ER
          go_wp2
          go_ret
          exact ⟨by rw [HR.out.1]; rfl, rfl⟩
        · go_wp2
          go_roundg (n - (k + 1))
          case measure => omega
          case rel => exact ⟨k + 1, by omega, rfl, by go_num, by have := HE.out.1; rw [this]; congr 1; omega, by have := HE.out.1; rw [this]; omega, rfl⟩
      · obtain rfl : k = n := by omega
        have ER : R = l - (k : Int) - (tsum L k : Int) := by
          rw [HC.out.2.2.2.1, if_pos (by unfold ttot; rw [← HC.out.2.1]; omega)]
          unfold ttot
          rw [← HC.out.2.1]
          omega
        have HR : Hid _ := And.intro ER True.intro
        clear ER
        go_wp2
        go_ret
        exact ⟨by rw [HR.out.1]; rfl, rfl⟩
end Go.Proofs.YteggfkekgdlecaaGreatDoor
