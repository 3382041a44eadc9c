import Derived.Test.YtdjflbanbhhniaaDoorFdA
namespace Go.Proofs.YtdjflbanbhhniaaDoor
open Go.RowKit
set_option linter.unusedVariables false

theorem fieldS_short (n v : ByteArray) (w : World) (hn : n.size ≤ 9223372036854775807) (hv : v.size ≤ 9223372036854775807) (h : ¬ (1 ≤ n.size ∧ n.size ≤ 64 ∧ v.size ≤ 1024)) :
    Calls Tryd.prog 42 #[.agg #[.string n, .string v]] w fun e w' => e = .returned (.bool false) ∧ Below w.heap.size w w' := by
  by_cases h1 : n.size < 1
  · clear h
    go_enter Tryd.func42, Tryd.ntmps42
    go_wp2
    go_ret
    exact ⟨rfl, (Below.refl _ _).alloc (Nat.le_refl _) _⟩
  · by_cases h2 : 64 < n.size
    · clear h
      go_enter Tryd.func42, Tryd.ntmps42
      go_wp2
      go_ret
      exact ⟨rfl, (Below.refl _ _).alloc (Nat.le_refl _) _⟩
    · have h3 : 1024 < v.size := by omega
      clear h
      go_enter Tryd.func42, Tryd.ntmps42
      go_wp2
      go_ret
      exact ⟨rfl, (Below.refl _ _).alloc (Nat.le_refl _) _⟩
set_option maxHeartbeats 2000000 in
theorem fieldS_long (n v : ByteArray) (w : World) (hn1 : 1 ≤ n.size) (hn : n.size ≤ 64) (hv : v.size ≤ 1024) :
    Calls Tryd.prog 42 #[.agg #[.string n, .string v]] w fun e w' => e = .returned (.bool (nAll n n.size && vAll v v.size)) ∧ Below w.heap.size w w' := by
  obtain ⟨N, eN⟩ : ∃ N, N = (nAll n n.size && vAll v v.size) := ⟨_, rfl⟩
  rw [← eN]
  have HN : Hid (N = (nAll n n.size && vAll v v.size)) := eN
  have B0 : Hid (Below w.heap.size w (w.alloc (.cells #[.string n, .string v] 44))) := (Below.refl _ _).alloc (Nat.le_refl _) _
  clear eN
  go_enter Tryd.func42, Tryd.ntmps42
  go_wp2
  go_loop [3] (fun i => ∃ k : Nat, k ≤ n.size ∧ i = .int .i64 (k : Int) ∧ nAll n k = true) (fun i => n.size - (intOf i).toNat)
  case atStart => exact ⟨0, by omega, rfl, rfl⟩
  case round =>
    obtain ⟨k, hk, rfl, hA⟩ := hrel
    by_cases hlt : k < n.size
    · have hix := ixC n k hlt
      have hno := nAll_no n n.size k hlt
      have hsu := nAll_succ n k
      obtain ⟨x, ex⟩ : ∃ x, x = bt n k := ⟨_, rfl⟩
      have hb := bt_bd n k
      rw [← ex] at hix hno hsu hb
      obtain ⟨b0, b1⟩ := hb
      by_cases hv2 : nb x = true
      · have hq : 33 ≤ x ∧ x ≤ 126 ∧ ¬ (65 ≤ x ∧ x ≤ 90) := of_decide_eq_true hv2
        obtain ⟨q1, q2, q3⟩ := hq
        have hR0 : nAll n (k + 1) = true := by rw [hsu, hA, hv2]; rfl
        have HR : Hid (nAll n (k + 1) = true) := hR0
        clear hR0 hA hno hsu hv2 ex
        by_cases h65 : 65 ≤ x
        · have h90 : decide (x ≤ 90) = false := decide_eq_false (by omega)
          clear q3
          go_wp2
          go_round
          case rel => exact ⟨k + 1, by omega, by go_num, HR.out⟩
          case measure => simp [intOf]; omega
        · have h64 : decide (65 ≤ x) = false := decide_eq_false h65
          clear q3
          go_wp2
          go_round
          case rel => exact ⟨k + 1, by omega, by go_num, HR.out⟩
          case measure => simp [intOf]; omega
      · have hvf : nb x = false := by simpa using hv2
        have hF0 : N = false := by rw [HN.out, hno hvf]; rfl
        have HF : Hid (N = false) := hF0
        have hq : ¬ (33 ≤ x ∧ x ≤ 126 ∧ ¬ (65 ≤ x ∧ x ≤ 90)) := of_decide_eq_false hvf
        clear hF0 hno hsu hv2 hvf ex hA
        by_cases g1 : x < 33
        · clear hq
          go_wp2
          go_ret
          exact ⟨by rw [HF.out]; rfl, B0.out⟩
        · by_cases g2 : 126 < x
          · clear hq
            go_wp2
            go_ret
            exact ⟨by rw [HF.out]; rfl, B0.out⟩
          · have g3 : 65 ≤ x := by omega
            have g4 : x ≤ 90 := by omega
            clear hq
            go_wp2
            go_ret
            exact ⟨by rw [HF.out]; rfl, B0.out⟩
    · obtain rfl : k = n.size := by omega
      have HA : Hid (nAll n n.size = true) := hA
      clear hA hlt hk
      go_wp2
      go_loop [4] (fun i => ∃ k : Nat, k ≤ v.size ∧ i = .int .i64 (k : Int) ∧ vAll v k = true) (fun i => v.size - (intOf i).toNat)
      case atStart => exact ⟨0, by omega, rfl, rfl⟩
      case round =>
        obtain ⟨k, hk, rfl, hA⟩ := hrel
        by_cases hlt : k < v.size
        · have hix := ixC v k hlt
          have hno := vAll_no v v.size k hlt
          have hsu := vAll_succ v k
          obtain ⟨x, ex⟩ : ∃ x, x = bt v k := ⟨_, rfl⟩
          have hb := bt_bd v k
          rw [← ex] at hix hno hsu hb
          obtain ⟨b0, b1⟩ := hb
          by_cases hv2 : vb x = true
          · have hq : x ≠ 0 ∧ x ≠ 10 ∧ x ≠ 13 := of_decide_eq_true hv2
            obtain ⟨q0, q1, q2⟩ := hq
            have r0 : (x == 0) = false := by simpa using q0
            have r1 : (x == 10) = false := by simpa using q1
            have r2 : (x == 13) = false := by simpa using q2
            have hR0 : vAll v (k + 1) = true := by rw [hsu, hA, hv2]; rfl
            have HR : Hid (vAll v (k + 1) = true) := hR0
            clear hR0 hA hno hsu hv2 ex q0 q1 q2
            go_wp2
            go_round
            case rel => exact ⟨k + 1, by omega, by go_num, HR.out⟩
            case measure => simp [intOf]; omega
          · have hvf : vb x = false := by simpa using hv2
            have hF0 : N = false := by rw [HN.out, hno hvf, Bool.and_false]
            have HF : Hid (N = false) := hF0
            have hq : x = 0 ∨ x = 10 ∨ x = 13 := by have := of_decide_eq_false hvf; omega
            clear hF0 hno hsu hv2 hvf ex hA b0 b1
            rcases hq with rfl | rfl | rfl
            · go_wp2
              go_ret
              exact ⟨by rw [HF.out]; rfl, B0.out⟩
            · go_wp2
              go_ret
              exact ⟨by rw [HF.out]; rfl, B0.out⟩
            · go_wp2
              go_ret
              exact ⟨by rw [HF.out]; rfl, B0.out⟩
        · obtain rfl : k = v.size := by omega
          have hF0 : N = true := by rw [HN.out, hA, HA.out]; rfl
          have HF : Hid (N = true) := hF0
          clear hF0 hA
          go_wp2
          go_ret
          exact ⟨by rw [HF.out]; rfl, B0.out⟩
theorem fieldS (n v : ByteArray) (w : World) (hn : n.size ≤ 9223372036854775807) (hv : v.size ≤ 9223372036854775807) :
    Calls Tryd.prog 42 #[.agg #[.string n, .string v]] w fun e w' => e = .returned (.bool (fOK n v)) ∧ Below w.heap.size w w' := by
  by_cases h : 1 ≤ n.size ∧ n.size ≤ 64 ∧ v.size ≤ 1024
  · have e : fOK n v = (nAll n n.size && vAll v v.size) := by simp [fOK, nOK, vOK, h.1, h.2.1, h.2.2]
    rw [e]
    exact fieldS_long n v w h.1 h.2.1 h.2.2
  · have e : fOK n v = false := by
      unfold fOK nOK vOK
      by_cases h1 : 1 ≤ n.size ∧ n.size ≤ 64
      · have : ¬ v.size ≤ 1024 := fun h2 => h ⟨h1.1, h1.2, h2⟩
        simp [this]
      · simp [h1]
    rw [e]
    exact fieldS_short n v w hn hv h
end Go.Proofs.YtdjflbanbhhniaaDoor
