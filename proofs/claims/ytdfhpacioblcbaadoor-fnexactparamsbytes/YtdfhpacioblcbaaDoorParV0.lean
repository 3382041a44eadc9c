import Derived.Test.YtdfhpacioblcbaaDoorParU
import Derived.Test.YtdfhpacioblcbaaDoorPokS
import Derived.BigQuiet
import Derived.Deep.LoopGhost
namespace Go.Proofs.YtdfhpacioblcbaaDoor
open Go.RowKit
set_option linter.unusedVariables false

theorem drewN_belowP {w w' : World} (h : ∃ n, w' = w.drewN n) : Below w.heap.size w w' := by
  obtain ⟨n, rfl⟩ := h
  exact below_drewN (Below.refl _ _) _
theorem eq_belowP {w w' : World} (h : w' = w) : Below w.heap.size w w' := by rw [h]; exact Below.refl _ _
theorem alwaysC (w : World) : Calls Tryd.prog 57 #[] w fun e w' => e = .returned (.bool true) ∧ w' = w := by
  go_enter Tryd.func57, Tryd.ntmps57
  go_wp2
  go_ret
  exact ⟨rfl, rfl⟩
set_option maxRecDepth 20000 in
theorem numV (b g off : Nat) (l h x : Int) (w : World) (c0 : w.cell? ⟨b, 0, none⟩ = some (.pointer (some ⟨g, off, none⟩))) (c1 : w.cell? ⟨b + 1, 0, none⟩ = some (.int .i64 l)) (c2 : w.cell? ⟨b + 2, 0, none⟩ = some (.int .i64 h)) (cx : w.cell? ⟨g, off, none⟩ = some (.int .i64 x)) :
    Calls Tryd.prog 56 #[.pointer (some ⟨b, 0, none⟩), .pointer (some ⟨b + 1, 0, none⟩), .pointer (some ⟨b + 2, 0, none⟩)] w fun e w' => e = .returned (.bool (btw l h x)) ∧ ∃ q, w' = w.drewN q := by
  by_cases h1 : l ≤ x
  · by_cases h2 : x ≤ h
    · have e : btw l h x = true := by simp [btw, h1, h2]
      rw [e]
      clear e
      go_enter Tryd.func56, Tryd.ntmps56
      go_wp2
      go_quiet (fail)
      go_wp2
      go_ret
      exact ⟨by first | rfl | (simp; done) | (simp [h2]; done), _, rfl⟩
    · have e : btw l h x = false := by simp [btw, h2]
      rw [e]
      clear e
      go_enter Tryd.func56, Tryd.ntmps56
      go_wp2
      go_quiet (fail)
      go_wp2
      go_ret
      exact ⟨by first | rfl | (simp; done) | (simp [h2]; done), _, rfl⟩
  · have e : btw l h x = false := by simp [btw, h1]
    rw [e]
    have hd : decide (l ≤ x) = false := decide_eq_false h1
    clear e h1
    go_enter Tryd.func56, Tryd.ntmps56
    go_wp2
    go_quiet (fail)
    go_wp2
    go_ret
    exact ⟨by first | rfl | (simp; done), _, rfl⟩
theorem orgM (c n : Nat) (s : Bool) (w : World) (hn : n ≤ 9223372036854775807) (hc : w.cell? ⟨c, 0, none⟩ = some (.bool s)) :
    Calls Tryd.prog 54 #[.int .i64 (n : Int), .pointer (some ⟨c, 0, none⟩)] w fun e w' => e = .returned (.bool (decide (n = 0) || (s && decide (n ≤ 8)))) ∧ w' = w := by
  rcases (show n = 0 ∨ (0 < n ∧ n ≤ 8) ∨ 8 < n by omega) with rfl | ⟨h0, h1⟩ | h0 <;> cases s
  all_goals go_enter Tryd.func54, Tryd.ntmps54
  all_goals go_wp2
  all_goals go_ret
  all_goals (refine ⟨?_, rfl⟩; first | rfl | (simp; done) | (simp; omega) | (simp; rw [Bool.eq_iff_iff]; simp; done) | (simp; rw [Bool.eq_iff_iff]; simp; omega))
theorem tokM (c n : Nat) (s : Bool) (w : World) (hn : n ≤ 9223372036854775807) (hc : w.cell? ⟨c, 0, none⟩ = some (.bool s)) :
    Calls Tryd.prog 61 #[.int .i64 (n : Int), .pointer (some ⟨c, 0, none⟩)] w fun e w' => e = .returned (.bool (decide (n = 0) || (s && decide (n = 8)))) ∧ w' = w := by
  rcases (show n = 0 ∨ n = 8 ∨ (n ≠ 0 ∧ n ≠ 8) by omega) with rfl | rfl | ⟨h0, h1⟩ <;> cases s
  all_goals go_enter Tryd.func61, Tryd.ntmps61
  all_goals go_wp2
  all_goals go_ret
  all_goals (refine ⟨?_, rfl⟩; first | rfl | (simp; done) | (simp; omega) | (simp; rw [Bool.eq_iff_iff]; simp; done) | (simp; rw [Bool.eq_iff_iff]; simp; omega))
theorem fstM (n : Nat) (w : World) (hn : n ≤ 9223372036854775807) :
    Calls Tryd.prog 67 #[.int .i64 (n : Int)] w fun e w' => e = .returned (.bool (decide (n ≤ 8))) ∧ w' = w := by
  go_enter Tryd.func67, Tryd.ntmps67
  go_wp2
  go_ret
  exact ⟨by simp; omega, rfl⟩

set_option maxRecDepth 20000 in
theorem orgV (b g off : Nat) (ao : Option Addr) (n cap : Nat) (c : Nat) (s : Bool) (w : World) (hn : n ≤ 9223372036854775807) (c0 : w.cell? ⟨b, 0, none⟩ = some (.pointer (some ⟨g, off, none⟩))) (c1 : w.cell? ⟨b + 1, 0, none⟩ = some (.func (.func 54) #[] #[.pointer (some ⟨c, 0, none⟩)])) (hc : w.cell? ⟨c, 0, none⟩ = some (.bool s)) (cx : w.cell? ⟨g, off, none⟩ = some (.slice ao n cap)) :
    Calls Tryd.prog 79 #[.pointer (some ⟨b + 1, 0, none⟩), .pointer (some ⟨b, 0, none⟩)] w fun e w' => e = .returned (.bool (decide (n = 0) || (s && decide (n ≤ 8)))) ∧ Below w.heap.size w w' := by
  have HC : Hid (∀ q, Calls Tryd.prog 54 #[.int .i64 (n : Int), .pointer (some ⟨c, 0, none⟩)] (w.drewN q) fun e w' => e = .returned (.bool (decide (n = 0) || (s && decide (n ≤ 8)))) ∧ w' = w.drewN q) := fun q => orgM c n s _ hn hc
  obtain ⟨R, eR⟩ : ∃ R, R = (decide (n = 0) || (s && decide (n ≤ 8))) := ⟨_, rfl⟩
  rw [← eR] at HC ⊢
  clear eR hc
  go_enter Tryd.func79, Tryd.ntmps79
  go_upto_region 1 with fail
  go_region_with (go_at_call 54; refine (HC.out 1).mono ?_; rintro e w' ⟨rfl, hw⟩; subst w')
  all_goals (go_wp2; go_ret; exact ⟨rfl, below_drewN (Below.refl _ _) 1⟩)
set_option maxRecDepth 20000 in
theorem tokV (b g off : Nat) (ao : Option Addr) (n cap : Nat) (c : Nat) (s : Bool) (w : World) (hn : n ≤ 9223372036854775807) (c0 : w.cell? ⟨b, 0, none⟩ = some (.pointer (some ⟨g, off, none⟩))) (c1 : w.cell? ⟨b + 1, 0, none⟩ = some (.func (.func 61) #[] #[.pointer (some ⟨c, 0, none⟩)])) (hc : w.cell? ⟨c, 0, none⟩ = some (.bool s)) (cx : w.cell? ⟨g, off, none⟩ = some (.slice ao n cap)) :
    Calls Tryd.prog 79 #[.pointer (some ⟨b + 1, 0, none⟩), .pointer (some ⟨b, 0, none⟩)] w fun e w' => e = .returned (.bool (decide (n = 0) || (s && decide (n = 8)))) ∧ Below w.heap.size w w' := by
  have HC : Hid (∀ q, Calls Tryd.prog 61 #[.int .i64 (n : Int), .pointer (some ⟨c, 0, none⟩)] (w.drewN q) fun e w' => e = .returned (.bool (decide (n = 0) || (s && decide (n = 8)))) ∧ w' = w.drewN q) := fun q => tokM c n s _ hn hc
  obtain ⟨R, eR⟩ : ∃ R, R = (decide (n = 0) || (s && decide (n = 8))) := ⟨_, rfl⟩
  rw [← eR] at HC ⊢
  clear eR hc
  go_enter Tryd.func79, Tryd.ntmps79
  go_upto_region 1 with fail
  go_region_with (go_at_call 61; refine (HC.out 1).mono ?_; rintro e w' ⟨rfl, hw⟩; subst w')
  all_goals (go_wp2; go_ret; exact ⟨rfl, below_drewN (Below.refl _ _) 1⟩)
set_option maxRecDepth 20000 in
theorem fstV (b g off : Nat) (ao : Option Addr) (n cap : Nat)  (w : World) (hn : n ≤ 9223372036854775807) (c0 : w.cell? ⟨b, 0, none⟩ = some (.pointer (some ⟨g, off, none⟩))) (c1 : w.cell? ⟨b + 1, 0, none⟩ = some (.func (.func 67) #[] #[])) (cx : w.cell? ⟨g, off, none⟩ = some (.slice ao n cap)) :
    Calls Tryd.prog 79 #[.pointer (some ⟨b + 1, 0, none⟩), .pointer (some ⟨b, 0, none⟩)] w fun e w' => e = .returned (.bool (decide (n ≤ 8))) ∧ Below w.heap.size w w' := by
  have HC : Hid (∀ q, Calls Tryd.prog 67 #[.int .i64 (n : Int)] (w.drewN q) fun e w' => e = .returned (.bool (decide (n ≤ 8))) ∧ w' = w.drewN q) := fun q => fstM n _ hn
  obtain ⟨R, eR⟩ : ∃ R, R = (decide (n ≤ 8)) := ⟨_, rfl⟩
  rw [← eR] at HC ⊢
  clear eR
  go_enter Tryd.func79, Tryd.ntmps79
  go_upto_region 1 with fail
  go_region_with (go_at_call 67; refine (HC.out 1).mono ?_; rintro e w' ⟨rfl, hw⟩; subst w')
  all_goals (go_wp2; go_ret; exact ⟨rfl, below_drewN (Below.refl _ _) 1⟩)
end Go.Proofs.YtdfhpacioblcbaaDoor
