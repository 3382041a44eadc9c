import Derived.Test.YteekpdmblododaaSealS
import Derived.Test.YteekpdmblododaaISeal
import Derived.Test.YteekpdmblododaaKeysOf
import Derived.Test.YteekpdmblododaaIKeysOf
import Derived.Test.YteekpdmblododaaIReset
namespace Go.Proofs.Yteekpdmblododaa
open Go.RowKit
set_option linter.unusedVariables false

/-- Arguments that a token may have: the key's and the address' lengths, the time. -/
def tArg (n m : Nat) (t : Int) : Prop := n = 16 ∧ m ≤ 24 ∧ 0 ≤ t ∧ t ≤ 1000000000000

theorem tmS_t (t : Int) (w : World) (h : 0 ≤ t ∧ t ≤ 1000000000000) : Calls Try.prog 27 #[.int .i64 t] w fun e w' => e = .returned (.bool true) ∧ w' = w := by
  go_enter Try.func27, Try.ntmps27
  go_wp2
  go_ret
  exact ⟨rfl, rfl⟩
theorem tmS_f (t : Int) (w : World) (h : ¬ (0 ≤ t ∧ t ≤ 1000000000000)) : Calls Try.prog 27 #[.int .i64 t] w fun e w' => e = .returned (.bool false) ∧ w' = w := by
  by_cases h0 : 0 ≤ t
  · have h1 : 1000000000000 < t := by omega
    go_enter Try.func27, Try.ntmps27
    go_wp2
    go_ret
    exact ⟨by simp [show ¬ t ≤ 1000000000000 by omega], rfl⟩
  · go_enter Try.func27, Try.ntmps27
    go_wp2
    go_ret
    exact ⟨rfl, rfl⟩
theorem tmI_t (t : Int) (w : World) (h : 0 ≤ t ∧ t ≤ 1000000000000) : Calls Try.prog 33 #[.int .i64 t] w fun e w' => e = .returned (.bool true) ∧ w' = w := by
  go_enter Try.func33, Try.ntmps33
  go_wp2
  go_ret
  exact ⟨rfl, rfl⟩
theorem tmI_f (t : Int) (w : World) (h : ¬ (0 ≤ t ∧ t ≤ 1000000000000)) : Calls Try.prog 33 #[.int .i64 t] w fun e w' => e = .returned (.bool false) ∧ w' = w := by
  by_cases h0 : 0 ≤ t
  · have h1 : 1000000000000 < t := by omega
    go_enter Try.func33, Try.ntmps33
    go_wp2
    go_ret
    exact ⟨by simp [show ¬ t ≤ 1000000000000 by omega], rfl⟩
  · go_enter Try.func33, Try.ntmps33
    go_wp2
    go_ret
    exact ⟨rfl, rfl⟩
theorem taS_t (ak aa : Option Addr) (m pk pa : Nat) (t : Int) (w : World) (hm : m ≤ 24) (ht : 0 ≤ t ∧ t ≤ 1000000000000) :
    Calls Try.prog 13 #[.slice ak 16 pk, .slice aa m pa, .int .i64 t] w fun e w' => e = .returned (.bool true) ∧ w' = w := by
  go_enter Try.func13, Try.ntmps13
  go_wp2_with fail
  go_at_call 27
  refine (tmS_t t w ht).mono ?_
  rintro e w2 ⟨rfl, rfl⟩
  go_wp2
  go_ret
  exact ⟨rfl, rfl⟩
theorem taS_f (ak aa : Option Addr) (n m pk pa : Nat) (t : Int) (w : World) (hn : n ≤ 9223372036854775807) (hm : m ≤ 9223372036854775807) (h : ¬ tArg n m t) :
    Calls Try.prog 13 #[.slice ak n pk, .slice aa m pa, .int .i64 t] w fun e w' => e = .returned (.bool false) ∧ w' = w := by
  unfold tArg at h
  by_cases h16 : n = 16
  · subst h16
    by_cases h24 : m ≤ 24
    · have ht : ¬ (0 ≤ t ∧ t ≤ 1000000000000) := by omega
      clear h
      go_enter Try.func13, Try.ntmps13
      go_wp2_with fail
      go_at_call 27
      refine (tmS_f t w ht).mono ?_
      rintro e w2 ⟨rfl, rfl⟩
      go_wp2
      go_ret
      exact ⟨rfl, rfl⟩
    · clear h
      go_enter Try.func13, Try.ntmps13
      go_wp2
      go_ret
      exact ⟨rfl, rfl⟩
  · have hne : ((n : Int) == 16) = false := by simp; omega
    clear h h16
    go_enter Try.func13, Try.ntmps13
    go_wp2
    go_ret
    exact ⟨rfl, rfl⟩
theorem taI_t (ak aa : Option Addr) (m pk pa : Nat) (t : Int) (w : World) (hm : m ≤ 24) (ht : 0 ≤ t ∧ t ≤ 1000000000000) :
    Calls Try.prog 17 #[.slice ak 16 pk, .slice aa m pa, .int .i64 t] w fun e w' => e = .returned (.bool true) ∧ w' = w := by
  go_enter Try.func17, Try.ntmps17
  go_wp2_with fail
  go_at_call 33
  refine (tmI_t t w ht).mono ?_
  rintro e w2 ⟨rfl, rfl⟩
  go_wp2
  go_ret
  exact ⟨rfl, rfl⟩
theorem taI_f (ak aa : Option Addr) (n m pk pa : Nat) (t : Int) (w : World) (hn : n ≤ 9223372036854775807) (hm : m ≤ 9223372036854775807) (h : ¬ tArg n m t) :
    Calls Try.prog 17 #[.slice ak n pk, .slice aa m pa, .int .i64 t] w fun e w' => e = .returned (.bool false) ∧ w' = w := by
  unfold tArg at h
  by_cases h16 : n = 16
  · subst h16
    by_cases h24 : m ≤ 24
    · have ht : ¬ (0 ≤ t ∧ t ≤ 1000000000000) := by omega
      clear h
      go_enter Try.func17, Try.ntmps17
      go_wp2_with fail
      go_at_call 33
      refine (tmI_f t w ht).mono ?_
      rintro e w2 ⟨rfl, rfl⟩
      go_wp2
      go_ret
      exact ⟨rfl, rfl⟩
    · clear h
      go_enter Try.func17, Try.ntmps17
      go_wp2
      go_ret
      exact ⟨rfl, rfl⟩
  · have hne : ((n : Int) == 16) = false := by simp; omega
    clear h h16
    go_enter Try.func17, Try.ntmps17
    go_wp2
    go_ret
    exact ⟨rfl, rfl⟩
/-- What a token's body is. -/
def tokB (t : Int) (os : List Int) : List Int := be t 8 ++ os
theorem tokB_length (t : Int) (os : List Int) : (tokB t os).length = 8 + os.length := by unfold tokB; rw [List.length_append, be_length]
set_option maxHeartbeats 2000000 in
theorem tmkS_bad (ak aa ao : Option Addr) (n m l pk pa po : Nat) (t : Int) (w : World) (hn : n ≤ 9223372036854775807) (hm : m ≤ 9223372036854775807) (hl : l ≤ 9223372036854775807) (h : ¬ (tArg n m t ∧ l ≤ 8)) :
    Calls Try.prog 5 #[.slice ak n pk, .slice aa m pa, .int .i64 t, .slice ao l po] w fun e w' => ∃ r, e = .returned (.tuple #[r, .int .i64 1]) ∧ w'.ownsRow w.heap.size 5 1 r 0 (([] : List Int).map (Value.int .u8)) ∧ Below w.heap.size w w' := by
  by_cases ha : tArg n m t
  · have h8 : ¬ l ≤ 8 := fun q => h ⟨ha, q⟩
    have h8' : 8 < l := by omega
    clear h h8
    unfold tArg at ha
    obtain ⟨e16, h24, ht⟩ := ha
    subst e16
    have HT : Hid _ := And.intro ht True.intro
    clear ht
    go_enter Try.func5, Try.ntmps5
    go_wp2_with fail
    go_at_call 13
    refine (taS_t ak aa m pk pa t w h24 HT.out.1).mono ?_
    rintro e w2 ⟨rfl, rfl⟩
    go_wp2
    go_ret2
    exact ⟨_, rfl, World.ownsRow_lit _ #[] 0 (Nat.le_refl _) (by decide) rfl, (Below.refl _ _).alloc (Nat.le_refl _) _⟩
  · have HA : Hid _ := And.intro ha True.intro
    clear h ha
    go_enter Try.func5, Try.ntmps5
    go_wp2_with fail
    go_at_call 13
    refine (taS_f ak aa n m pk pa t w hn hm HA.out.1).mono ?_
    rintro e w2 ⟨rfl, rfl⟩
    go_wp2
    go_ret2
    exact ⟨_, rfl, World.ownsRow_lit _ #[] 0 (Nat.le_refl _) (by decide) rfl, (Below.refl _ _).alloc (Nat.le_refl _) _⟩
set_option maxHeartbeats 2000000 in
theorem tmkI_bad (ak aa ao : Option Addr) (n m l pk pa po : Nat) (t : Int) (os : List Int) (w : World) (hn : n ≤ 9223372036854775807) (hm : m ≤ 9223372036854775807) (hl : l ≤ 9223372036854775807) (h : ¬ (tArg n m t ∧ l ≤ 8))
    (hr : Row w .u8 (.slice ao l po) os) (el : os.length = l) :
    Calls Try.prog 7 #[.slice ak n pk, .slice aa m pa, .int .i64 t, .slice ao l po] w fun e w' => ∃ r, e = .returned (.tuple #[r, .int .i64 1]) ∧ w'.ownsRow w.heap.size 5 1 r 0 (([] : List Int).map (Value.int .u8)) ∧ Below w.heap.size w w' := by
  have HR : Hid _ := And.intro hr el
  clear hr el
  by_cases ha : tArg n m t
  · have h8 : ¬ l ≤ 8 := fun q => h ⟨ha, q⟩
    have h8' : 8 < l := by omega
    clear h h8
    unfold tArg at ha
    obtain ⟨e16, h24, ht⟩ := ha
    subst e16
    have HT : Hid _ := And.intro ht True.intro
    clear ht
    go_enter Try.func7, Try.ntmps7
    go_wp2_with fail
    go_at_call 17
    refine (taI_t ak aa m pk pa t w h24 HT.out.1).mono ?_
    rintro e w2 ⟨rfl, rfl⟩
    go_wp2_with fail
    go_at_call 18
    refine (icids _ [os] _ (parts1 HR.out.1 _) (by simp) (cids1_len os (by rw [HR.out.2]; exact hl))).mono ?_
    rw [cids1 l os HR.out.2, decide_eq_false (by omega)]
    rintro e w' ⟨rfl, hw⟩
    subst w'
    go_wp2
    go_ret2
    exact ⟨_, rfl, World.ownsRow_nil _ _ _ _, (Below.refl _ _).alloc (Nat.le_refl _) _⟩
  · have HA : Hid _ := And.intro ha True.intro
    clear h ha
    go_enter Try.func7, Try.ntmps7
    go_wp2_with fail
    go_at_call 17
    refine (taI_f ak aa n m pk pa t w hn hm HA.out.1).mono ?_
    rintro e w2 ⟨rfl, rfl⟩
    go_wp2
    go_ret2
    exact ⟨_, rfl, World.ownsRow_nil _ _ _ _, Below.refl _ _⟩
end Go.Proofs.Yteekpdmblododaa
