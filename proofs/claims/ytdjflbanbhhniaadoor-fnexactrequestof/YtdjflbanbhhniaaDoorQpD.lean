import Derived.Test.YtdjflbanbhhniaaDoorQpC
namespace Go.Proofs.YtdjflbanbhhniaaDoor
open Go.RowKit
set_option linter.unusedVariables false

theorem pre580 (s : ByteArray) (w : World) (hm : s.size ≤ 9223372036854775807) : Calls Tryd.prog 49 #[.string s, .string ⟨#[58]⟩] w fun e w' => e = .returned (.bool (decide (1 ≤ s.size ∧ bt s 0 = 58))) ∧ w' = w := by
  by_cases h : 1 ≤ s.size
  · have q := ext_one s 0 (by omega) 58
    have t := tl_litQ (s.extract 0 (0 + 1)) #[58] _ q
    have e : decide (1 ≤ s.size ∧ bt s 0 = 58) = decide (bt s 0 = 58) := by simp [h]
    rw [e]
    obtain ⟨B, eB⟩ : ∃ B, B = decide (bt s 0 = 58) := ⟨_, rfl⟩
    have q' : (s.extract 0 1 == (⟨#[58]⟩ : ByteArray)) = B := by rw [eB]; exact q
    have t' : ((s.extract 0 1).toList == [(58 : UInt8)]) = B := by rw [eB]; exact t
    rw [← eB]
    clear q t e eB
    have h' : (1 : Int) ≤ ((s.size : Nat) : Int) := by omega
    go_enter Tryd.func49, Tryd.ntmps49
    go_wp2
    go_ret
    exact ⟨rfl, rfl⟩
  · have e : decide (1 ≤ s.size ∧ bt s 0 = 58) = false := by simp [h]
    rw [e]
    have h' : ¬ (1 : Int) ≤ ((s.size : Nat) : Int) := by omega
    clear e h
    go_enter Tryd.func49, Tryd.ntmps49
    go_wp2
    go_ret
    exact ⟨rfl, rfl⟩
theorem pre58 (s : ByteArray) (w : World) (hm : s.size ≤ 9223372036854775807) : Calls Tryd.prog 40 #[.string s, .string ⟨#[58]⟩] w fun e w' => e = .returned (.bool (decide (1 ≤ s.size ∧ bt s 0 = 58))) ∧ w' = w := by
  have C := pre580 s w hm
  generalize decide (1 ≤ s.size ∧ bt s 0 = 58) = B at *
  have H : Hid _ := And.intro C True.intro
  clear C hm
  go_enter Tryd.func40, Tryd.ntmps40
  go_wp2_with (go_at_call 49; refine H.out.1.mono ?_; rintro e w1 ⟨rfl, hw⟩; subst hw)
  go_ret
  exact ⟨rfl, rfl⟩
theorem pre320 (s : ByteArray) (w : World) (hm : s.size ≤ 9223372036854775807) : Calls Tryd.prog 49 #[.string s, .string ⟨#[32]⟩] w fun e w' => e = .returned (.bool (decide (1 ≤ s.size ∧ bt s 0 = 32))) ∧ w' = w := by
  by_cases h : 1 ≤ s.size
  · have q := ext_one s 0 (by omega) 32
    have t := tl_litQ (s.extract 0 (0 + 1)) #[32] _ q
    have e : decide (1 ≤ s.size ∧ bt s 0 = 32) = decide (bt s 0 = 32) := by simp [h]
    rw [e]
    obtain ⟨B, eB⟩ : ∃ B, B = decide (bt s 0 = 32) := ⟨_, rfl⟩
    have q' : (s.extract 0 1 == (⟨#[32]⟩ : ByteArray)) = B := by rw [eB]; exact q
    have t' : ((s.extract 0 1).toList == [(32 : UInt8)]) = B := by rw [eB]; exact t
    rw [← eB]
    clear q t e eB
    have h' : (1 : Int) ≤ ((s.size : Nat) : Int) := by omega
    go_enter Tryd.func49, Tryd.ntmps49
    go_wp2
    go_ret
    exact ⟨rfl, rfl⟩
  · have e : decide (1 ≤ s.size ∧ bt s 0 = 32) = false := by simp [h]
    rw [e]
    have h' : ¬ (1 : Int) ≤ ((s.size : Nat) : Int) := by omega
    clear e h
    go_enter Tryd.func49, Tryd.ntmps49
    go_wp2
    go_ret
    exact ⟨rfl, rfl⟩
theorem pre32 (s : ByteArray) (w : World) (hm : s.size ≤ 9223372036854775807) : Calls Tryd.prog 40 #[.string s, .string ⟨#[32]⟩] w fun e w' => e = .returned (.bool (decide (1 ≤ s.size ∧ bt s 0 = 32))) ∧ w' = w := by
  have C := pre320 s w hm
  generalize decide (1 ≤ s.size ∧ bt s 0 = 32) = B at *
  have H : Hid _ := And.intro C True.intro
  clear C hm
  go_enter Tryd.func40, Tryd.ntmps40
  go_wp2_with (go_at_call 49; refine H.out.1.mono ?_; rintro e w1 ⟨rfl, hw⟩; subst hw)
  go_ret
  exact ⟨rfl, rfl⟩
theorem suf320 (s : ByteArray) (w : World) (hm : s.size ≤ 9223372036854775807) : Calls Tryd.prog 54 #[.string s, .string ⟨#[32]⟩] w fun e w' => e = .returned (.bool (decide (1 ≤ s.size ∧ bt s (s.size - 1) = 32))) ∧ w' = w := by
  by_cases h : 1 ≤ s.size
  · have q := ext_one s (s.size - 1) (by omega) 32
    rw [show s.size - 1 + 1 = s.size by omega] at q
    have t := tl_litQ (s.extract (s.size - 1) s.size) #[32] _ q
    have e : decide (1 ≤ s.size ∧ bt s (s.size - 1) = 32) = decide (bt s (s.size - 1) = 32) := by simp [h]
    rw [e]
    obtain ⟨B, eB⟩ : ∃ B, B = decide (bt s (s.size - 1) = 32) := ⟨_, rfl⟩
    have q' : (s.extract (s.size - 1) s.size == (⟨#[32]⟩ : ByteArray)) = B := by rw [eB]; exact q
    have t' : ((s.extract (s.size - 1) s.size).toList == [(32 : UInt8)]) = B := by rw [eB]; exact t
    have q2 : (s.extract (((s.size : Nat) : Int) - 1).toNat s.size == (⟨#[32]⟩ : ByteArray)) = B := by rw [show (((s.size : Nat) : Int) - 1).toNat = s.size - 1 by omega]; exact q'
    have t2 : ((s.extract (((s.size : Nat) : Int) - 1).toNat s.size).toList == [(32 : UInt8)]) = B := by rw [show (((s.size : Nat) : Int) - 1).toNat = s.size - 1 by omega]; exact t'
    rw [← eB]
    clear q t e eB
    have h' : (1 : Int) ≤ ((s.size : Nat) : Int) := by omega
    go_enter Tryd.func54, Tryd.ntmps54
    go_wp2
    go_ret
    exact ⟨rfl, rfl⟩
  · have e : decide (1 ≤ s.size ∧ bt s (s.size - 1) = 32) = false := by simp [h]
    rw [e]
    have h' : ¬ (1 : Int) ≤ ((s.size : Nat) : Int) := by omega
    clear e h
    go_enter Tryd.func54, Tryd.ntmps54
    go_wp2
    go_ret
    exact ⟨rfl, rfl⟩
theorem suf32 (s : ByteArray) (w : World) (hm : s.size ≤ 9223372036854775807) : Calls Tryd.prog 51 #[.string s, .string ⟨#[32]⟩] w fun e w' => e = .returned (.bool (decide (1 ≤ s.size ∧ bt s (s.size - 1) = 32))) ∧ w' = w := by
  have C := suf320 s w hm
  generalize decide (1 ≤ s.size ∧ bt s (s.size - 1) = 32) = B at *
  have H : Hid _ := And.intro C True.intro
  clear C hm
  go_enter Tryd.func51, Tryd.ntmps51
  go_wp2_with (go_at_call 54; refine H.out.1.mono ?_; rintro e w1 ⟨rfl, hw⟩; subst hw)
  go_ret
  exact ⟨rfl, rfl⟩
theorem valI (v : ByteArray) (w : World) (hv : v.size ≤ 9223372036854775807) : Calls Tryd.prog 46 #[.string v] w fun e w' => e = .returned (.bool (vpl v)) ∧ w' = w := by
  have C1 := valueI v w hv
  have C2 := pre32 v w hv
  have C3 := suf32 v w hv
  have E : vpl v = (vOK v && (!decide (1 ≤ v.size ∧ bt v 0 = 32) && !decide (1 ≤ v.size ∧ bt v (v.size - 1) = 32))) := by
    unfold vpl
    congr 1
    by_cases h : v.size = 0
    · simp [h]
    · have h1 : 1 ≤ v.size := by omega
      simp [h, h1]
  rw [E]
  generalize vOK v = A at *
  generalize decide (1 ≤ v.size ∧ bt v 0 = 32) = B at *
  generalize decide (1 ≤ v.size ∧ bt v (v.size - 1) = 32) = C at *
  have H : Hid _ := And.intro C1 (And.intro C2 C3)
  clear C1 C2 C3 E hv
  cases A <;> cases B <;> cases C
  all_goals
    go_enter Tryd.func46, Tryd.ntmps46
    go_wp2_with (first | (go_at_call 50; refine H.out.1.mono ?_; rintro e w1 ⟨rfl, hw⟩; subst hw) | (go_at_call 40; refine H.out.2.1.mono ?_; rintro e w1 ⟨rfl, hw⟩; subst hw) | (go_at_call 51; refine H.out.2.2.mono ?_; rintro e w1 ⟨rfl, hw⟩; subst hw))
    go_ret
    exact ⟨rfl, rfl⟩
end Go.Proofs.YtdjflbanbhhniaaDoor
