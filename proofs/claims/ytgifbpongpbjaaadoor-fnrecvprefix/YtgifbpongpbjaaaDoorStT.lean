import Derived.Test.YtgifbpongpbjaaaDoorStL
namespace Go.Proofs.YtgifbpongpbjaaaDoor
open Go.RowKit
set_option linter.unusedVariables false

set_option maxRecDepth 20000 in
set_option maxHeartbeats 2000000 in
/-- How many lie ready, one behind the other. -/
theorem thereA (g c win st first : Nat) (came gr fin told : Int) (M : Nat) (L : List (Bool × Int)) (w : World)
    (hb : rcB w g c win st first came gr fin told) (hr : rgB w c L) (hL : L.length = win) (hw : 0 < win) (hwm : win ≤ 16384) (hf : first ≤ 1000000) (hM : M ≤ win) :
    Calls Tryd.prog 19 #[.pointer (some ⟨g, 0, none⟩), .int .i64 (M : Int)] w fun e w' => ∃ r : Nat, e = .returned (.int .i64 (r : Int)) ∧ r ≤ M ∧ (∀ i, i < r → (L.getD ((first + i) % win) (false, 0)).1 = true) ∧ (r = M ∨ (L.getD ((first + r) % win) (false, 0)).1 = false) ∧ ∃ m, w' = w.drewN m := by
  have c2 : w.cell? ⟨g, 2, none⟩ = some (.slice (some ⟨c, 0, none⟩) win win) := (bk_cell hb 2).trans rfl
  have c3 : w.cell? ⟨g, 3, none⟩ = some (.int .i64 (first : Int)) := (bk_cell hb 3).trans rfl
  have HR : Hid _ := And.intro hr (And.intro hL True.intro)
  clear hb hr hL
  have hmw : (M : Int) ≤ (win : Int) := by omega
  go_enter Tryd.func19, Tryd.ntmps19
  go_wp2_with fail
  go_loopg [5] M (fun q i wr => ∃ j : Nat, j ≤ M ∧ q = M - j ∧ i = .int .i64 (j : Int) ∧ (∀ i, i < j → (L.getD ((first + i) % win) (false, 0)).1 = true) ∧ ∃ m, wr = w.drewN m)
  case atStart => exact ⟨0, by omega, by omega, rfl, fun i h => by omega, 0, rfl⟩
  case round =>
    obtain ⟨j, hj, hq, rfl, hp, m, rfl⟩ := hrel
    have HP : Hid _ := hp
    clear hp
    have w2 : (w.drewN m).cell? ⟨g, 2, none⟩ = some (.slice (some ⟨c, 0, none⟩) win win) := c2
    have w3 : (w.drewN m).cell? ⟨g, 3, none⟩ = some (.int .i64 (first : Int)) := c3
    have hrW : rgB (w.drewN m) c L := HR.out.1
    have hDD : ∀ q, ∃ m', (w.drewN m).drewN q = w.drewN m' := fun q => ⟨m + q, by rw [World.drewN_drewN]⟩
    generalize w.drewN m = W at *
    by_cases hlt : j < M
    · have CA : ∀ q, _ := fun q => atI g 2 c win (first + j) (W.drewN q) w2 hw hwm (by omega)
      have hrl : (first + j) % win < win := Nat.mod_lt _ hw
      have r0 := hrW.c0 ((first + j) % win) (by rw [HR.out.2.1]; exact hrl)
      generalize hbb : (L.getD ((first + j) % win) (false, 0)).1 = bb at r0
      have HA : Hid _ := And.intro CA (And.intro hbb (And.intro hDD True.intro))
      clear CA hbb hrl hDD hrW c2 c3
      have ea : ((first + j : Nat) : Int) = (first : Int) + (j : Int) := by omega
      rw [ea] at HA
      generalize hrr : (first + j) % win = r at *
      have HRR : Hid _ := hrr
      have ew : IntKind.i64.wrap ((first : Int) + (j : Int)) = (first : Int) + (j : Int) := by rw [IntKind.wrap_i64]; omega
      have d1 : decide ((j : Int) < (M : Int)) = true := decide_eq_true (by omega)
      clear hrr ea
      go_wp2_with fail
      go_quiet (first | (go_at_call 22; exact Calls.quiet_of (HA.out.1 _)))
      cases bb
      · go_wp2_with fail
        go_ret
        exact ⟨j, rfl, by omega, HP.out, Or.inr (by rw [HRR.out]; exact HA.out.2.1), HA.out.2.2.1 nq⟩
      · go_wp2_with fail
        go_roundg (M - (j + 1))
        case measure => omega
        case rel =>
          refine ⟨j + 1, by omega, rfl, by go_num, fun i hi => ?_, HA.out.2.2.1 nq⟩
          by_cases e : i = j
          · subst e; rw [HRR.out]; exact HA.out.2.1
          · exact HP.out i (by omega)
    · obtain rfl : M = j := by omega
      have d1 : decide ((M : Int) < (M : Int)) = false := decide_eq_false (by omega)
      have HA : Hid _ := hDD
      clear hDD hrW c2 c3
      go_wp2_with fail
      go_quiet (fail)
      go_wp2_with fail
      go_ret
      exact ⟨M, rfl, by omega, HP.out, Or.inl rfl, HA.out nq⟩
set_option maxRecDepth 20000 in
set_option maxHeartbeats 2000000 in
/-- How many lie ready, one behind the other. -/
theorem thereB (g c win st first : Nat) (came gr fin told most : Int) (M : Nat) (L : List (Bool × Int)) (w : World)
    (hb : rcB w g c win st first came gr fin told) (hr : rgB w c L) (hL : L.length = win) (hw : 0 < win) (hwm : win ≤ 16384) (hf : first ≤ 1000000) (hM : M = win) (hmo : (win : Int) < most) :
    Calls Tryd.prog 19 #[.pointer (some ⟨g, 0, none⟩), .int .i64 most] w fun e w' => ∃ r : Nat, e = .returned (.int .i64 (r : Int)) ∧ r ≤ M ∧ (∀ i, i < r → (L.getD ((first + i) % win) (false, 0)).1 = true) ∧ (r = M ∨ (L.getD ((first + r) % win) (false, 0)).1 = false) ∧ ∃ m, w' = w.drewN m := by
  have c2 : w.cell? ⟨g, 2, none⟩ = some (.slice (some ⟨c, 0, none⟩) win win) := (bk_cell hb 2).trans rfl
  have c3 : w.cell? ⟨g, 3, none⟩ = some (.int .i64 (first : Int)) := (bk_cell hb 3).trans rfl
  have HR : Hid _ := And.intro hr (And.intro hL True.intro)
  clear hb hr hL
  have hmw : (most ≤ (win : Int)) = False := by simp; omega
  have hmw2 : decide (most ≤ (win : Int)) = false := decide_eq_false (by omega)
  have hmw3 : min most (win : Int) = (win : Int) := by omega
  go_enter Tryd.func19, Tryd.ntmps19
  go_wp2_with fail
  go_loopg [5] M (fun q i wr => ∃ j : Nat, j ≤ M ∧ q = M - j ∧ i = .int .i64 (j : Int) ∧ (∀ i, i < j → (L.getD ((first + i) % win) (false, 0)).1 = true) ∧ ∃ m, wr = w.drewN m)
  case atStart => exact ⟨0, by omega, by omega, rfl, fun i h => by omega, 0, rfl⟩
  case round =>
    obtain ⟨j, hj, hq, rfl, hp, m, rfl⟩ := hrel
    have HP : Hid _ := hp
    clear hp
    have w2 : (w.drewN m).cell? ⟨g, 2, none⟩ = some (.slice (some ⟨c, 0, none⟩) win win) := c2
    have w3 : (w.drewN m).cell? ⟨g, 3, none⟩ = some (.int .i64 (first : Int)) := c3
    have hrW : rgB (w.drewN m) c L := HR.out.1
    have hDD : ∀ q, ∃ m', (w.drewN m).drewN q = w.drewN m' := fun q => ⟨m + q, by rw [World.drewN_drewN]⟩
    generalize w.drewN m = W at *
    by_cases hlt : j < M
    · have CA : ∀ q, _ := fun q => atI g 2 c win (first + j) (W.drewN q) w2 hw hwm (by omega)
      have hrl : (first + j) % win < win := Nat.mod_lt _ hw
      have r0 := hrW.c0 ((first + j) % win) (by rw [HR.out.2.1]; exact hrl)
      generalize hbb : (L.getD ((first + j) % win) (false, 0)).1 = bb at r0
      have HA : Hid _ := And.intro CA (And.intro hbb (And.intro hDD True.intro))
      clear CA hbb hrl hDD hrW c2 c3
      have ea : ((first + j : Nat) : Int) = (first : Int) + (j : Int) := by omega
      rw [ea] at HA
      generalize hrr : (first + j) % win = r at *
      have HRR : Hid _ := hrr
      have ew : IntKind.i64.wrap ((first : Int) + (j : Int)) = (first : Int) + (j : Int) := by rw [IntKind.wrap_i64]; omega
      have d1 : decide (j < win) = true := decide_eq_true (by omega)
      have d2 : j < win := by omega
      clear hrr ea
      go_wp2_with fail
      go_quiet (first | (go_at_call 22; exact Calls.quiet_of (HA.out.1 _)))
      cases bb
      · go_wp2_with fail
        go_ret
        exact ⟨j, rfl, by omega, HP.out, Or.inr (by rw [HRR.out]; exact HA.out.2.1), HA.out.2.2.1 nq⟩
      · go_wp2_with fail
        go_roundg (M - (j + 1))
        case measure => omega
        case rel =>
          refine ⟨j + 1, by omega, rfl, by go_num, fun i hi => ?_, HA.out.2.2.1 nq⟩
          by_cases e : i = j
          · subst e; rw [HRR.out]; exact HA.out.2.1
          · exact HP.out i (by omega)
    · obtain rfl : M = j := by omega
      have d1 : decide (M < win) = false := decide_eq_false (by omega)
      have HA : Hid _ := hDD
      clear hDD hrW c2 c3
      go_wp2_with fail
      go_quiet (fail)
      go_wp2_with fail
      go_ret
      exact ⟨M, rfl, by omega, HP.out, Or.inl rfl, HA.out nq⟩
end Go.Proofs.YtgifbpongpbjaaaDoor
