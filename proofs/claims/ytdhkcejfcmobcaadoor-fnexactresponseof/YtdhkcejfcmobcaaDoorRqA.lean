import Derived.Test.YtdhkcejfcmobcaaDoorQpF
import Derived.Test.YtdhkcejfcmobcaaDoorQpA
import Derived.Test.YtdhkcejfcmobcaaDoorLnA
import Derived.Laws.EntriesVeiled
namespace Go.Proofs.YtdhkcejfcmobcaaDoor
open Go.RowKit
set_option linter.unusedVariables false

/-- A valid request. -/
def rqOK (m s a p : ByteArray) (L : List SField) : Bool := spl m 16 65 90 && spl s 16 97 122 && vpl a && spl p 200 33 126 && decide (bt p 0 = 47) && mfOK L
theorem spl_one {s : ByteArray} {most lo hi : Int} (h : spl s most lo hi = true) : 0 < s.size := by
  unfold spl at h
  simp only [Bool.and_eq_true, decide_eq_true_eq] at h
  omega
theorem spl_le {s : ByteArray} {most lo hi : Int} (h : spl s most lo hi = true) : (s.size : Int) ≤ most := by
  unfold spl at h
  simp only [Bool.and_eq_true, decide_eq_true_eq] at h
  exact h.1.2
theorem cel5 {w u : World} {x0 x1 x2 x3 x4 : Value} {t : TypeId} (hb : Below (w.heap.size + 1) (w.alloc (.cells #[x0, x1, x2, x3, x4] t)) u) : u.cell? ⟨w.heap.size, 0, none⟩ = some x0 ∧ u.cell? ⟨w.heap.size, 1, none⟩ = some x1 ∧ u.cell? ⟨w.heap.size, 2, none⟩ = some x2 ∧ u.cell? ⟨w.heap.size, 3, none⟩ = some x3 ∧ u.cell? ⟨w.heap.size, 4, none⟩ = some x4 := by
  have k := (hb.block w.heap.size (by omega)).trans (MapKept.heap_alloc w (.cells #[x0, x1, x2, x3, x4] t)).1
  simp only [World.cell?, k]
  exact ⟨rfl, rfl, rfl, rfl, rfl⟩
set_option maxHeartbeats 1000000 in
theorem withinS (s : ByteArray) (most lo hi : Int) (w : World) (hm : s.size ≤ 9223372036854775807) : Calls Tryd.prog 28 #[.string s, .int .i64 most, .int .u8 lo, .int .u8 hi] w fun e w' => e = .returned (.bool (spl s most lo hi)) ∧ w' = w := by
  obtain ⟨N, eN⟩ : ∃ N, N = spl s most lo hi := ⟨_, rfl⟩
  rw [← eN]
  have HN : Hid (N = spl s most lo hi) := eN
  clear eN
  go_enter Tryd.func28, Tryd.ntmps28
  go_wp2
  go_loop [9] (fun i => ∃ k : Nat, k ≤ s.size ∧ i = .int .i64 (k : Int) ∧ inR s lo hi k = true) (fun i => s.size - (intOf i).toNat)
  case atStart => exact ⟨0, by omega, rfl, rfl⟩
  case round =>
    obtain ⟨k, hk, rfl, hA⟩ := hrel
    by_cases hlt : k < s.size
    · have hix := ixC s k hlt
      have hno := inR_no s lo hi s.size k hlt
      have hsu := inR_succ s lo hi k
      obtain ⟨x, ex⟩ : ∃ x, x = bt s k := ⟨_, rfl⟩
      rw [← ex] at hix hno hsu
      by_cases q1 : x < lo
      · have HF : Hid (N = false) := by show N = false; rw [HN.out]; unfold spl; rw [hno (by omega)]; simp
        clear hno hsu ex hA
        go_wp2
        go_ret
        exact ⟨by rw [HF.out]; rfl, rfl⟩
      by_cases q2 : hi < x
      · have HF : Hid (N = false) := by show N = false; rw [HN.out]; unfold spl; rw [hno (by omega)]; simp
        clear hno hsu ex hA
        go_wp2
        go_ret
        exact ⟨by rw [HF.out]; rfl, rfl⟩
      have HR : Hid (inR s lo hi (k + 1) = true) := by show inR s lo hi (k + 1) = true; rw [hsu, hA]; simp; omega
      clear hno hsu ex hA
      go_wp2
      go_round
      case rel => exact ⟨k + 1, by omega, by go_num, HR.out⟩
      case measure => simp [intOf]; omega
    · obtain rfl : k = s.size := by omega
      by_cases h1 : 1 ≤ s.size
      · by_cases h2 : (s.size : Int) ≤ most
        · have HF : Hid (N = true) := by show N = true; rw [HN.out]; unfold spl; rw [hA]; simp; omega
          clear hA
          go_wp2
          go_ret
          exact ⟨by rw [HF.out]; rfl, rfl⟩
        · have HF : Hid (N = false) := by show N = false; rw [HN.out]; unfold spl; rw [hA]; simp; omega
          clear hA
          go_wp2
          go_ret
          exact ⟨by rw [HF.out]; rfl, rfl⟩
      · have h0 : s.size = 0 := by omega
        have HF : Hid (N = false) := by show N = false; rw [HN.out]; unfold spl; rw [hA]; simp; omega
        clear hA
        go_wp2
        go_ret
        exact ⟨by rw [HF.out]; rfl, rfl⟩
end Go.Proofs.YtdhkcejfcmobcaaDoor
