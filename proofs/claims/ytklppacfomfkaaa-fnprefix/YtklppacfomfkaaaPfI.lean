import Derived.Test.YtklppacfomfkaaaPfS
import Derived.Test.YtklppacfomfkaaaIdOfLaw
namespace Go.Proofs.Ytklppacfomfkaaa
open Go.RowKit
set_option linter.unusedVariables false

theorem numI (v : Int) (w : World) : Calls Try.prog 12 #[.int .i64 v] w fun e w' => e = .returned (.bool (decide (0 ≤ v ∧ v ≤ 4611686018427387903))) ∧ w' = w := by
  by_cases h0 : 0 ≤ v
  · by_cases h1 : v ≤ 4611686018427387903
    · rw [decide_eq_true ⟨h0, h1⟩]
      go_enter Try.func12, Try.ntmps12
      go_wp2
      go_ret
      exact ⟨rfl, rfl⟩
    · rw [decide_eq_false (fun h => h1 h.2)]
      have hd : decide (v ≤ 4611686018427387903) = false := decide_eq_false h1
      go_enter Try.func12, Try.ntmps12
      go_wp2
      go_ret
      exact ⟨rfl, rfl⟩
  · rw [decide_eq_false (fun h => h0 h.1)]
    have hd : v < 0 := by omega
    go_enter Try.func12, Try.ntmps12
    go_wp2
    go_ret
    exact ⟨rfl, rfl⟩
theorem bitsI (k : Int) (w : World) : Calls Try.prog 17 #[.int .i64 k] w fun e w' => e = .returned (.bool (decide (1 ≤ k ∧ k ≤ 8))) ∧ w' = w := by
  by_cases h0 : 1 ≤ k
  · by_cases h1 : k ≤ 8
    · rw [decide_eq_true ⟨h0, h1⟩]
      go_enter Try.func17, Try.ntmps17
      go_wp2
      go_ret
      exact ⟨rfl, rfl⟩
    · rw [decide_eq_false (fun h => h1 h.2)]
      have hd : decide (k ≤ 8) = false := decide_eq_false h1
      go_enter Try.func17, Try.ntmps17
      go_wp2
      go_ret
      exact ⟨rfl, rfl⟩
  · rw [decide_eq_false (fun h => h0 h.1)]
    have hd : k < 1 := by omega
    go_enter Try.func17, Try.ntmps17
    go_wp2
    go_ret
    exact ⟨rfl, rfl⟩
theorem allI (k : Nat) (w : World) (h1 : 1 ≤ k) (h8 : k ≤ 8) : Calls Try.prog 18 #[.int .i64 (k : Int)] w fun e w' => e = .returned (.int .i64 (fl k - 1)) ∧ w' = w := by
  rcases (show k = 1 ∨ k = 2 ∨ k = 3 ∨ k = 4 ∨ k = 5 ∨ k = 6 ∨ k = 7 ∨ k = 8 by omega) with rfl | rfl | rfl | rfl | rfl | rfl | rfl | rfl
  all_goals
    go_enter Try.func18, Try.ntmps18
    go_wp2
    go_ret
    exact ⟨rfl, rfl⟩
/-- The value of an opening. -/
def opV (h k : Int) : Value := .agg #[.int .i64 h, .int .i64 k]
theorem andF (h : Int) (k : Nat) (h0 : 0 ≤ h) (h1 : h ≤ 255) (h8 : k ≤ 8) : bits .and .i64 h (fl k - 1) = h % fl k := by
  obtain ⟨n, rfl⟩ := Int.eq_ofNat_of_zero_le h0
  have e1 : fl k - 1 = ((2 ^ k - 1 : Nat) : Int) := by unfold fl; have := Nat.one_le_two_pow (n := k); omega
  have hb : (2 : Nat) ^ k ≤ 256 := by have := fl_hi k h8; unfold fl at this; omega
  rw [e1, and_i64 n (2 ^ k - 1) (n % 2 ^ k) (by omega) (by omega) (by have := Nat.mod_le n (2 ^ k); omega) (Nat.and_two_pow_sub_one_eq_mod n k)]
  unfold fl; omega
theorem validI_bits (h k : Int) (w : World) (hk : ¬ (1 ≤ k ∧ k ≤ 8)) : Calls Try.prog 13 #[opV h k] w fun e w' => e = .returned (.bool false) ∧ Below w.heap.size w w' := by
  have C : ∀ u, Calls Try.prog 17 #[.int .i64 k] u fun e w' => e = .returned (.bool false) ∧ w' = u := fun u => by have := bitsI k u; rwa [decide_eq_false hk] at this
  clear hk
  unfold opV
  go_enter Try.func13, Try.ntmps13
  go_wp2
  go_quiet (first | (go_at_call 17; exact Calls.quiet_of_same (C _)))
  all_goals
    go_wp2
    go_ret
    exact ⟨rfl, below_drewN ((Below.refl _ _).alloc (Nat.le_refl _) _) _⟩
theorem validI_bad (h k : Int) (w : World) (hk : 1 ≤ k ∧ k ≤ 8) (hh : h < 0 ∨ 255 < h) : Calls Try.prog 13 #[opV h k] w fun e w' => e = .returned (.bool false) ∧ Below w.heap.size w w' := by
  have C : ∀ u, Calls Try.prog 17 #[.int .i64 k] u fun e w' => e = .returned (.bool true) ∧ w' = u := fun u => by have := bitsI k u; rwa [decide_eq_true hk] at this
  clear hk
  unfold opV
  by_cases h0 : h < 0
  · have hd : decide (0 ≤ h) = false := decide_eq_false (by omega)
    clear hh
    go_enter Try.func13, Try.ntmps13
    go_wp2
    go_quiet (first | (go_at_call 17; exact Calls.quiet_of_same (C _)))
    all_goals
      go_wp2
      go_ret
      exact ⟨rfl, below_drewN ((Below.refl _ _).alloc (Nat.le_refl _) _) _⟩
  · have hd : decide (0 ≤ h) = true := decide_eq_true (by omega)
    have hd2 : decide (h ≤ 255) = false := decide_eq_false (by omega)
    clear hh
    go_enter Try.func13, Try.ntmps13
    go_wp2
    go_quiet (first | (go_at_call 17; exact Calls.quiet_of_same (C _)))
    all_goals
      go_wp2
      go_ret
      exact ⟨rfl, below_drewN ((Below.refl _ _).alloc (Nat.le_refl _) _) _⟩
theorem validI_ok (h : Int) (k : Nat) (b : Bool) (w : World) (h1 : 1 ≤ k) (h8 : k ≤ 8) (h0 : 0 ≤ h) (h2 : h ≤ 255) (hb : b = decide (h % fl k = 0)) : Calls Try.prog 13 #[opV h (k : Int)] w fun e w' => e = .returned (.bool b) ∧ Below w.heap.size w w' := by
  have C : ∀ u, Calls Try.prog 17 #[.int .i64 (k : Int)] u fun e w' => e = .returned (.bool true) ∧ w' = u := fun u => by have := bitsI (k : Int) u; rwa [decide_eq_true (by omega)] at this
  have D : ∀ u, Calls Try.prog 18 #[.int .i64 (k : Int)] u fun e w' => e = .returned (.int .i64 (fl k - 1)) ∧ w' = u := fun u => allI k u h1 h8
  have ea := andF h k h0 h2 h8
  obtain ⟨F, eF⟩ : ∃ F, F = fl k - 1 := ⟨_, rfl⟩
  rw [← eF] at D ea
  have hd : decide (0 ≤ h) = true := decide_eq_true h0
  have hd2 : decide (h ≤ 255) = true := decide_eq_true h2
  have hbb : (bits .and .i64 h F == 0) = b := by rw [ea, hb]; rfl
  clear hb ea eF
  unfold opV
  go_enter Try.func13, Try.ntmps13
  go_wp2
  go_quiet (first | (go_at_call 17; exact Calls.quiet_of_same (C _)) | (go_at_call 18; exact Calls.quiet_of_same (D _)))
  all_goals
    go_wp2
    go_ret
    exact ⟨rfl, below_drewN ((Below.refl _ _).alloc (Nat.le_refl _) _) _⟩

set_option maxHeartbeats 2000000 in
theorem putI_one (v h : Int) (k : Nat) (f : Int) (ef : f = fl k) (ao : Option Addr) (n cp base : Nat) (xs : List Int) (w : World) (h1 : 0 ≤ v) (h3 : 1 ≤ k) (h8 : k ≤ 8) (h5 : 0 ≤ h) (h6 : h + f ≤ 256) (hlt : v < f - 1)
    (ow : w.ownsRow base 5 1 (.slice ao n cp) n (xs.map (Value.int .u8))) (hn : n ≤ 1000000) (hB : base ≤ w.heap.size) :
    Calls Try.prog 14 #[opV h (k : Int), .slice ao n cp, .int .i64 v] w fun e w' => ∃ r, e = .returned r ∧ w'.ownsRow base 5 1 r (n + (pfx v f h).length) ((xs ++ pfx v f h).map (Value.int .u8)) ∧ Below base w w' := by
  have el : pfx v f h = [h + v] := by simp [pfx, hlt]
  rw [el]
  have D : ∀ u, Calls Try.prog 18 #[.int .i64 (k : Int)] u fun e w' => e = .returned (.int .i64 (f - 1)) ∧ w' = u := fun u => by rw [ef]; exact allI k u h3 h8
  have f8 : f ≤ 256 := by omega
  have hhv : h + v < 256 := by omega
  have b0 : Below base w (w.alloc (.cells #[.int .i64 h, .int .i64 (k : Int)] 35)) := (Below.refl _ _).alloc hB _
  have HD : Hid _ := And.intro D (And.intro b0 (ow.alloc (.cells #[.int .i64 h, .int .i64 (k : Int)] 35)))
  have oo : Hid (((w.alloc (.cells #[.int .i64 h, .int .i64 (k : Int)] 35)).alloc (.cells #[.int .u8 (h + v)] 5)).ownsRow base 5 1 (.slice ao n cp) n (xs.map (Value.int .u8))) := (ow.alloc _).alloc _
  have bb : Hid (base ≤ ((w.alloc (.cells #[.int .i64 h, .int .i64 (k : Int)] 35)).alloc (.cells #[.int .u8 (h + v)] 5)).heap.size) := by show base ≤ _; simp; omega
  clear D ef el ow b0
  unfold opV
  go_enter Try.func14, Try.ntmps14
  go_wp2_with (first
    | (go_at_call 18; refine (HD.out.1 _).mono ?_; rintro e w' ⟨rfl, hw⟩; subst w')
    | (at_builtin; refine wpList_append_row rfl (.tmp 14) (.tmp 20) rfl base (.slice ao n cp) n xs rfl oo.out (.slice (some ⟨w.heap.size + 1, 0, none⟩) 1 1) [h + v] rfl (by have := one_byteP (w.alloc (.cells #[.int .i64 h, .int .i64 (k : Int)] 35)) (h + v); simpa using this) (by simp; omega) bb.out ?_; intro v3 w3 o3 g3; have HR : Hid _ := And.intro o3 (HD.out.2.1.trans (appP HD.out.2.2 (Nat.le_trans hB HD.out.2.1.size) g3)); clear o3 g3))
  go_ret
  exact ⟨_, rfl, HR.out.1, HR.out.2⟩
end Go.Proofs.Ytklppacfomfkaaa
