import Derived.Test.YtdjflbanbhhniaaDoorLnA
import Derived.Test.YtdjflbanbhhniaaDoorTbZ
import Derived.BigQuiet
namespace Go.Proofs.YtdjflbanbhhniaaDoor
open Go.RowKit
set_option linter.unusedVariables false

theorem atoiD (s : ByteArray) (h1 : 1 ≤ s.size) (h9 : s.size ≤ 9) (hd : inR s 48 57 s.size = true) (w : World) : Calls Tryd.prog 55 #[.string s] w fun e w' => e = .returned (.tuple #[.int .i64 (dv s s.size), .nilIface]) ∧ Below w.heap.size w w' := by
  have C := atoi0 s h1 h9 hd w
  generalize dv s s.size = D at *
  have H : Hid _ := And.intro C True.intro
  clear C hd h1 h9
  go_enter Tryd.func55, Tryd.ntmps55
  go_wp2_with (go_at_call 56; refine H.out.1.mono ?_; rintro e w1 ⟨rfl, b1⟩; have B : Hid _ := And.intro b1 True.intro; clear b1)
  (try simp only [Exit.inBlock, Exit.then])
  refine bodyPost_ret (results_tmp2 rfl _ _ _) rfl ?_
  exact ⟨rfl, B.out.1⟩
def dcV (s : ByteArray) (most : Int) : Int := if spl s most 48 57 then dv s s.size else 0
set_option maxHeartbeats 1000000 in
theorem decI (s : ByteArray) (most : Int) (h9 : most ≤ 9) (w : World) (hm : s.size ≤ 9223372036854775807) : Calls Tryd.prog 53 #[.string s, .int .i64 most] w fun e w' => e = .returned (.tuple #[.int .i64 (dcV s most), .bool (spl s most 48 57)]) ∧ Below w.heap.size w w' := by
  have C := spelI s most 48 57 w hm
  cases hs : spl s most 48 57 with
  | false =>
    rw [hs] at C
    rw [show dcV s most = 0 by unfold dcV; rw [hs]; rfl]
    have H : Hid _ := And.intro C True.intro
    clear C hs h9
    go_enter Tryd.func53, Tryd.ntmps53
    go_wp2_with (go_at_call 45; refine H.out.1.mono ?_; rintro e w1 ⟨rfl, hw⟩; subst hw)
    (try simp only [Exit.inBlock, Exit.then])
    refine bodyPost_ret (results_tmp2 rfl _ _ _) rfl ?_
    exact ⟨rfl, Below.refl _ _⟩
  | true =>
    rw [hs] at C
    rw [show dcV s most = dv s s.size by unfold dcV; rw [hs]; rfl]
    have hp : 1 ≤ s.size ∧ (s.size : Int) ≤ most ∧ inR s 48 57 s.size = true := by
      unfold spl at hs
      simp only [Bool.and_eq_true, decide_eq_true_eq] at hs
      exact ⟨hs.1.1, hs.1.2, hs.2⟩
    obtain ⟨p1, p2, p3⟩ := hp
    have CA := atoiD s p1 (by omega) p3 w
    generalize dv s s.size = D at *
    have H : Hid _ := And.intro C CA
    clear C CA hs h9 p3 p1 p2
    go_enter Tryd.func53, Tryd.ntmps53
    go_wp2_with (first | (go_at_call 45; refine H.out.1.mono ?_; rintro e w1 ⟨rfl, hw⟩; subst hw) | (go_at_call 55; refine H.out.2.mono ?_; rintro e w2 ⟨rfl, b2⟩; have B : Hid _ := And.intro b2 True.intro; clear b2))
    go_quiet (fail)
    go_wp2
    (try simp only [Exit.inBlock, Exit.then])
    refine bodyPost_ret (results_tmp2 rfl _ _ _) rfl ?_
    exact ⟨rfl, below_drewN B.out.1 _⟩
/-- The name of the field that tells a content's length. -/
abbrev clN : ByteArray := ⟨#[99, 111, 110, 116, 101, 110, 116, 45, 108, 101, 110, 103, 116, 104]⟩
/-- What the first k fields tell of the length. -/
def lnF (L : List SField) : Nat → Option Int
  | 0 => some (-1)
  | k + 1 => match lnF L k with
    | none => none
    | some o => if (L.getD k default).f0 == clN then (if 0 ≤ o ∨ spl (L.getD k default).f1 9 48 57 = false then none else some (dv (L.getD k default).f1 (L.getD k default).f1.size)) else some o
theorem lnF_none (L : List SField) (k n : Nat) (h : k ≤ n) (hk : lnF L k = none) : lnF L n = none := by
  induction n with
  | zero => obtain rfl : k = 0 := by omega
            exact hk
  | succ n ih =>
    by_cases he : k = n + 1
    · subst he; exact hk
    · simp only [lnF, ih (by omega)]
theorem lnF_bd (L : List SField) (k : Nat) (o : Int) (h : lnF L k = some o) : -1 ≤ o ∧ o ≤ 999999999 := by
  induction k generalizing o with
  | zero => simp only [lnF, Option.some.injEq] at h; omega
  | succ k ih =>
    simp only [lnF] at h
    cases hp : lnF L k with
    | none => rw [hp] at h; cases h
    | some q =>
      rw [hp] at h
      simp only at h
      have hq := ih q hp
      by_cases c1 : ((L.getD k default).f0 == clN) = true
      · rw [if_pos c1] at h
        by_cases c2 : 0 ≤ q ∨ spl (L.getD k default).f1 9 48 57 = false
        · rw [if_pos c2] at h; cases h
        · rw [if_neg c2] at h
          have c3 : spl (L.getD k default).f1 9 48 57 = true := by
            cases hv : spl (L.getD k default).f1 9 48 57 with
            | true => rfl
            | false => exact absurd (Or.inr hv) c2
          unfold spl at c3
          simp only [Bool.and_eq_true, decide_eq_true_eq] at c3
          obtain rfl := Option.some.inj h
          have u1 := dv_nn _ _ c3.2
          have u2 := dv_bd _ _ c3.2 (by omega)
          omega
      · rw [if_neg c1] at h
        obtain rfl := Option.some.inj h
        exact hq
def lnV (L : List SField) : Int := if 64 < L.length then 0 else match lnF L L.length with | none => 0 | some o => o
def lnC (L : List SField) : Int := if 64 < L.length then 4 else match lnF L L.length with | none => 17 | some o => 0
end Go.Proofs.YtdjflbanbhhniaaDoor
