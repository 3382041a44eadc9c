import Derived.Test.YtgifbpongpbjaaaDoorStT
namespace Go.Proofs.YtgifbpongpbjaaaDoor
open Go.RowKit
set_option linter.unusedVariables false

theorem mt4 (st : Nat) (hs : st < 6) : mtV 0 st 4 = decide (st < 2) := by
  have : st = 0 ∨ st = 1 ∨ st = 2 ∨ st = 3 ∨ st = 4 ∨ st = 5 := by omega
  rcases this with rfl | rfl | rfl | rfl | rfl | rfl <;> rfl
/-- What a reset does: the code, the state, the final size. -/
def rsV (st : Nat) (gr fin told n : Int) : Int × Nat × Int :=
  if n < 0 ∨ 4611686018427387903 < n then (1, st, fin) else if told < n then (8, st, fin) else if ¬ (gr ≤ n ∧ (fin = -1 ∨ n = fin)) then (10, st, fin) else (0, (if st < 2 then 4 else st), n)
set_option maxRecDepth 20000 in
set_option maxHeartbeats 1000000 in
theorem resetI (g c win st : Nat) (first came gr fin told n : Int) (w : World) (hs : st < 6) (ht : TabF w) (h0 : 0 < w.heap.size) (hne : 0 ≠ g) (hb : rcB w g c win st first came gr fin told) :
    Calls Tryd.prog 12 #[.pointer (some ⟨g, 0, none⟩), .int .i64 n] w fun e w' => e = .returned (.int .i64 (rsV st gr fin told n).1) ∧ rcB w' g c win (rsV st gr fin told n).2.1 first came gr (rsV st gr fin told n).2.2 told ∧ Chg (· = g) w w' := by
  have d7 : w.cell? ⟨g, 7, none⟩ = some (.int .i64 told) := (bk_cell hb 7).trans rfl
  have d6 : w.cell? ⟨g, 6, none⟩ = some (.int .i64 fin) := (bk_cell hb 6).trans rfl
  have f6 := bk_free hb 6
  have CM := mayEndI g c win st first came gr fin told n w hb
  have HB : Hid _ := And.intro hb (And.intro ht True.intro)
  have hrf : Chg (· = g) w w := ⟨rfl, rfl, rfl, Nat.le_refl _, fun _ _ _ => rfl⟩
  by_cases a1 : n < 0
  · have e : rsV st gr fin told n = (1, st, fin) := by unfold rsV; rw [if_pos (Or.inl a1)]
    rw [e]
    clear hb CM
    go_enter Tryd.func12, Tryd.ntmps12
    go_wp2
    go_ret
    exact ⟨rfl, HB.out.1, hrf⟩
  by_cases a2 : 4611686018427387903 < n
  · have e : rsV st gr fin told n = (1, st, fin) := by unfold rsV; rw [if_pos (Or.inr a2)]
    rw [e]
    clear hb CM
    go_enter Tryd.func12, Tryd.ntmps12
    go_wp2
    go_ret
    exact ⟨rfl, HB.out.1, hrf⟩
  have hno : ¬ (n < 0 ∨ 4611686018427387903 < n) := by omega
  by_cases a3 : told < n
  · have e : rsV st gr fin told n = (8, st, fin) := by unfold rsV; rw [if_neg hno, if_pos a3]
    rw [e]
    clear hb CM
    go_enter Tryd.func12, Tryd.ntmps12
    go_wp2
    go_ret
    exact ⟨rfl, HB.out.1, hrf⟩
  by_cases a4 : gr ≤ n ∧ (fin = -1 ∨ n = fin)
  · obtain ⟨s2, es⟩ : ∃ s2, s2 = (if st < 2 then 4 else st) := ⟨_, rfl⟩
    have e : rsV st gr fin told n = (0, s2, n) := by unfold rsV; rw [if_neg hno, if_neg a3, if_neg (fun h => h a4), es]
    rw [e]
    rw [decide_eq_true a4] at CM
    have hb2 : rcB (w.setCell ⟨g, 6, none⟩ (.int .i64 n)) g c win st first came gr n told := bk_set hb 6 _
    have ht2 : TabF (w.setCell ⟨g, 6, none⟩ (.int .i64 n)) := by
      have hcell : ∀ j, (w.setCell ⟨g, 6, none⟩ (.int .i64 n)).cell? ⟨0, j, none⟩ = w.cell? ⟨0, j, none⟩ := fun j => by simp only [World.cell?, bk_other hne 6 _]
      exact ⟨(hcell 0).trans ht.c0, (hcell 1).trans ht.c1, (hcell 2).trans ht.c2, (hcell 3).trans ht.c3, (hcell 4).trans ht.c4, (hcell 5).trans ht.c5, (hcell 6).trans ht.c6, (hcell 7).trans ht.c7, (hcell 8).trans ht.c8, (hcell 9).trans ht.c9, (hcell 10).trans ht.c10, (hcell 11).trans ht.c11⟩
    have CT := turnI g 0 st 4 _ _ (by decide) hs (by decide) (by decide) _ ht2 (by simpa [World.setCell] using h0) hb2 rfl rfl
    have H2 : Hid _ := And.intro (mt4 st hs) (hrf.set' g 6 (.int .i64 n) rfl)
    have HE : Hid _ := es
    clear hb hb2 ht2 ht es
    go_enter Tryd.func12, Tryd.ntmps12
    go_wp2_with fail
    go_at_call 14
    refine CM.mono ?_
    rintro e w1 ⟨rfl, hw⟩
    subst w1
    go_wp2_with fail
    go_at_call 17
    refine CT.mono ?_
    rintro e w1 ⟨rfl, r1, r2⟩
    have H3 : Hid _ := And.intro r1 (H2.out.2.trans r2)
    clear r1 r2 CT CM
    go_wp2
    go_ret
    refine ⟨rfl, ?_, H3.out.2⟩
    rw [HE.out]
    have r1 := H3.out.1
    rw [H2.out.1] at r1
    by_cases hst : st < 2
    · rw [if_pos hst]
      rw [decide_eq_true hst, if_pos rfl] at r1
      exact r1
    · rw [if_neg hst]
      rw [decide_eq_false hst, if_neg (by simp)] at r1
      exact r1
  · have e : rsV st gr fin told n = (10, st, fin) := by unfold rsV; rw [if_neg hno, if_neg a3, if_pos a4]
    rw [e]
    rw [decide_eq_false a4] at CM
    clear hb
    go_enter Tryd.func12, Tryd.ntmps12
    go_wp2_with fail
    go_at_call 14
    refine CM.mono ?_
    rintro e w1 ⟨rfl, hw⟩
    subst w1
    go_wp2
    go_ret
    exact ⟨rfl, HB.out.1, hrf⟩
end Go.Proofs.YtgifbpongpbjaaaDoor
