import Derived.Test.YtajachmhppoodaaDoorRsE
import Derived.Test.YtajachmhppoodaaDoorCreditNextLaw
namespace Go.Proofs.YtajachmhppoodaaDoor
open Go.RowKit
set_option linter.unusedVariables false
set_option linter.unusedSimpArgs false

theorem l05VarC (n : Int) (w : World) : Calls Tryd.prog 46 #[.int .i64 n] w fun e w' => e = .returned (.bool (decide (0 ≤ n ∧ n ≤ 4611686018427387903))) ∧ w' = w := by
  by_cases h1 : 0 ≤ n
  · by_cases h2 : n ≤ 4611686018427387903
    · rw [decide_eq_true ⟨h1, h2⟩]
      go_enter Tryd.func46, Tryd.ntmps46
      go_wp2
      go_ret
      exact ⟨rfl, rfl⟩
    · rw [decide_eq_false (fun h => h2 h.2)]
      go_enter Tryd.func46, Tryd.ntmps46
      go_wp2
      go_ret
      exact ⟨rfl, rfl⟩
  · rw [decide_eq_false (fun h => h1 h.1)]
    go_enter Tryd.func46, Tryd.ntmps46
    go_wp2
    go_ret
    exact ⟨rfl, rfl⟩
set_option maxRecDepth 20000 in
set_option maxHeartbeats 2000000 in
theorem resetM (g base win : Nat) (m : MS) (n : Int) (D : Nat → Prop) (w : World) (hR : MRep w D g base win m) :
    Calls Tryd.prog 26 #[.pointer (some ⟨g, 0, none⟩), .int .i64 n] w fun e w' => e = .returned (.int .i64 (mreset m n).2) ∧ MRep w' D g base win (mreset m n).1 ∧ Chg D w w' := by
  obtain ⟨vd, vt, hb, hA⟩ := id hR
  have c0 : w.cell? ⟨g, 0, none⟩ = some (.int .i64 (m.st : Int)) := (bk_cell hb 0).trans rfl
  have c2 : w.cell? ⟨g, 2, none⟩ = some (.int .i64 m.told) := (bk_cell hb 2).trans rfl
  have c4 : w.cell? ⟨g, 4, none⟩ = some (.int .i64 m.final) := (bk_cell hb 4).trans rfl
  have c5 : w.cell? ⟨g, 5, none⟩ = some (.int .i64 (m.T.length : Nat)) := (bk_cell hb 5).trans rfl
  have c6 : w.cell? ⟨g, 6, none⟩ = some (.bool m.sized) := (bk_cell hb 6).trans rfl
  have f0 := bk_free hb 0
  have f4 := bk_free hb 4
  have f6 := bk_free hb 6
  have hgl := hb.lt
  have n1 : ∀ k, vt.ownBlock = some k → k ≠ g := own_gt hA.ot hb (by decide)
  have n2 : ∀ k, vd.ownBlock = some k → k ≠ g := own_gt hA.od hb (by decide)
  have C := l05VarC n w
  by_cases a1 : n < 0 ∨ 4611686018427387903 < n
  · have e : mreset m n = (m, 1) := by unfold mreset; rw [if_pos a1]
    rw [e]
    rw [decide_eq_false (by omega)] at C
    have H0 : Hid _ := And.intro C hR
    clear C hR hb hA n1 n2 a1
    go_enter Tryd.func26, Tryd.ntmps26
    go_wp2_with (go_at_call 46; refine H0.out.1.mono ?_; rintro e w' ⟨rfl, rfl⟩)
    go_ret
    exact ⟨rfl, H0.out.2, chg_of_eq _⟩
  rw [decide_eq_true (by omega)] at C
  by_cases a2 : m.told < n
  · have e : mreset m n = (m, 8) := by unfold mreset; rw [if_neg a1, if_pos a2]
    rw [e]
    have H0 : Hid _ := And.intro C hR
    clear C hR hb hA n1 n2 a1
    go_enter Tryd.func26, Tryd.ntmps26
    go_wp2_with (go_at_call 46; refine H0.out.1.mono ?_; rintro e w' ⟨rfl, rfl⟩)
    go_ret
    exact ⟨rfl, H0.out.2, chg_of_eq _⟩
  obtain ⟨tl, etl⟩ : ∃ tl, tl = m.T.length := ⟨_, rfl⟩
  rw [← etl] at c5
  by_cases a3 : (m.sized = true ∧ n ≠ m.final) ∨ n < m.T.length
  · have e : mreset m n = (m, 10) := by unfold mreset; rw [if_neg a1, if_neg a2, if_pos a3]
    rw [e]
    rw [← etl] at a3
    have H0 : Hid _ := And.intro C hR
    clear C hR hb hA n1 n2 a1 etl
    by_cases b1 : m.sized = true ∧ n ≠ m.final
    · obtain ⟨b2, b3⟩ := b1
      rw [b2] at c6
      have b4 : (n != m.final) = true := by simpa using b3
      clear a3 b2 b3
      go_enter Tryd.func26, Tryd.ntmps26
      go_wp2_with (go_at_call 46; refine H0.out.1.mono ?_; rintro e w' ⟨rfl, rfl⟩)
      go_ret
      exact ⟨rfl, H0.out.2, chg_of_eq _⟩
    · have b5 : n < (tl : Int) := a3.resolve_left b1
      by_cases b2 : m.sized = true
      · have b4 : (n != m.final) = false := by
          by_cases e : n = m.final
          · simpa using e
          · exact absurd ⟨b2, e⟩ b1
        rw [b2] at c6
        clear a3 b1 b2
        go_enter Tryd.func26, Tryd.ntmps26
        go_wp2_with (go_at_call 46; refine H0.out.1.mono ?_; rintro e w' ⟨rfl, rfl⟩)
        go_ret
        exact ⟨rfl, H0.out.2, chg_of_eq _⟩
      · have b3 : m.sized = false := by simpa using b2
        rw [b3] at c6
        clear a3 b1 b2 b3
        go_enter Tryd.func26, Tryd.ntmps26
        go_wp2_with (go_at_call 46; refine H0.out.1.mono ?_; rintro e w' ⟨rfl, rfl⟩)
        go_ret
        exact ⟨rfl, H0.out.2, chg_of_eq _⟩
  have e : mreset m n = ({ m with st := if m.st < 2 then 4 else m.st, sized := true, final := n }, 0) := by unfold mreset; rw [if_neg a1, if_neg a2, if_neg a3]
  rw [e]
  obtain ⟨m2, em2⟩ : ∃ m2 : MS, m2 = { m with st := if m.st < 2 then 4 else m.st, sized := true, final := n } := ⟨_, rfl⟩
  rw [← em2]
  have b5 : ¬ n < (tl : Int) := fun h => a3 (Or.inr (by rw [← etl]; exact h))
  have b6 : m.sized = true → n = m.final := fun h => by
    by_cases e : n = m.final
    · exact e
    · exact absurd (Or.inl ⟨h, e⟩) a3
  obtain ⟨S2, eS2⟩ : ∃ S2 : Int, S2 = ((if m.st < 2 then 4 else m.st : Nat) : Int) := ⟨_, rfl⟩
  have fin2 : Hid (∀ W : World, mB W g S2 win m.told m.read n (m.T.length : Nat) true vd vt → MA W D g base m.T vd vt → Chg D w W → MRep W D g base win m2 ∧ Chg D w W) := fun W h1 h2 h3 => ⟨by rw [em2]; exact ⟨vd, vt, by dsimp only; rw [← eS2]; exact h1, h2⟩, h3⟩
  have M0 := ((hA.setG n1 n2 6 (.bool true)).setG n1 n2 4 (.int .i64 n))
  have B0 : mB ((w.setCell ⟨g, 6, none⟩ (.bool true)).setCell ⟨g, 4, none⟩ (.int .i64 n)) g m.st win m.told m.read n (m.T.length : Nat) true vd vt := bk_set (bk_set hb 6 _) 4 _
  have C0 : Chg D w ((w.setCell ⟨g, 6, none⟩ (.bool true)).setCell ⟨g, 4, none⟩ (.int .i64 n)) := ((chg_of_eq w).setD g 6 _ (Or.inl hA.dg)).setD g 4 _ (Or.inl hA.dg)
  have H0 : Hid _ := And.intro C (And.intro M0 (And.intro B0 (And.intro C0 (And.intro eS2 (And.intro n1 (And.intro n2 hA.dg))))))
  have s01 : m.st = 0 ∨ m.st = 1 ∨ ¬ m.st < 2 := by omega
  have SB : (m.sized = true ∧ (n != m.final) = false) ∨ m.sized = false := by
    by_cases h : m.sized = true
    · exact Or.inl ⟨h, by simpa using b6 h⟩
    · exact Or.inr (by simpa using h)
  clear C hR hb hA n1 n2 a1 a3 etl M0 B0 C0 eS2 b6 e em2
  go_enter Tryd.func26, Tryd.ntmps26
  go_upto_region 5 with (go_at_call 46; refine H0.out.1.mono ?_; rintro e w' ⟨rfl, hw⟩; subst w')
  go_cut [33] from 14 to 33 (fun cv wx => cv = .bool false ∧ wx = w)
  case first =>
    rcases SB with ⟨h1, h2⟩ | h1
    · rw [h1] at c6
      clear h1
      go_wp2_with fail
      go_meet
      exact ⟨by rw [decide_eq_false (by omega)], rfl⟩
    · rw [h1] at c6
      clear h1
      go_wp2_with fail
      go_meet
      exact ⟨by rw [decide_eq_false (by omega)], rfl⟩
  case rest =>
  obtain ⟨rfl, hw⟩ := hcut
  subst wc
  clear SB
  rcases s01 with h1 | h1 | h1
  · have s0 : ((m.st : Int) == 0) = true := by simp [h1]
    have eS : S2 = 4 := by rw [H0.out.2.2.2.2.1, h1]; rfl
    have HS : Hid _ := eS
    clear h1 eS
    go_wp2_with fail
    go_ret
    refine ⟨rfl, fin2.out _ ?_ (H0.out.2.1.setG H0.out.2.2.2.2.2.1 H0.out.2.2.2.2.2.2.1 0 _) (H0.out.2.2.2.1.setD g 0 _ (Or.inl H0.out.2.2.2.2.2.2.2))⟩
    rw [HS.out]; exact bk_set H0.out.2.2.1 0 _
  · have s0 : ((m.st : Int) == 0) = false := by simp [h1]
    have s1 : ((m.st : Int) == 1) = true := by simp [h1]
    have eS : S2 = 4 := by rw [H0.out.2.2.2.2.1, h1]; rfl
    have HS : Hid _ := eS
    clear h1 eS
    go_wp2_with fail
    go_ret
    refine ⟨rfl, fin2.out _ ?_ (H0.out.2.1.setG H0.out.2.2.2.2.2.1 H0.out.2.2.2.2.2.2.1 0 _) (H0.out.2.2.2.1.setD g 0 _ (Or.inl H0.out.2.2.2.2.2.2.2))⟩
    rw [HS.out]; exact bk_set H0.out.2.2.1 0 _
  · have s0 : ((m.st : Int) == 0) = false := by simp; omega
    have s1 : ((m.st : Int) == 1) = false := by simp; omega
    have eS : S2 = m.st := by rw [H0.out.2.2.2.2.1, if_neg h1]
    have HS : Hid _ := eS
    clear h1 eS
    go_wp2_with fail
    go_ret
    refine ⟨rfl, fin2.out _ ?_ H0.out.2.1 H0.out.2.2.2.1⟩
    rw [HS.out]; exact H0.out.2.2.1
end Go.Proofs.YtajachmhppoodaaDoor
