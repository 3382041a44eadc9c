import Derived.Test.YtmaoajadcgoopaaEnA
namespace Go.Proofs.Ytmaoajadcgoopaa
open Go.RowKit
set_option linter.unusedVariables false


theorem eokS_tab (mo ca ad kn bl : Int) (sa qa : Option Addr) (n sc m qc : Nat) (s : Value) (es : s = .slice sa n sc) (w : World) (hT : ∀ u : World, Below (w.alloc (.cells #[.int .i64 mo, .int .i64 ca, .int .i64 ad, s, .int .i64 kn, .int .i64 bl, .slice qa m qc] 35)).heap.size (w.alloc (.cells #[.int .i64 mo, .int .i64 ca, .int .i64 ad, s, .int .i64 kn, .int .i64 bl, .slice qa m qc] 35)) u → Calls Try.prog 11 #[.agg #[.int .i64 mo, .int .i64 ca, .int .i64 ad, s]] u fun e w' => e = .returned (.bool false) ∧ Below u.heap.size u w') (hm : m ≤ 1048576) :
    Calls Try.prog 5 #[.agg #[.int .i64 mo, .int .i64 ca, .int .i64 ad, s, .int .i64 kn, .int .i64 bl, .slice qa m qc]] w fun e w' => e = .returned (.bool false) ∧ Below w.heap.size w w' := by
  subst es
  have H : Hid _ := And.intro hT True.intro
  clear hT
  go_enter Try.func5, Try.ntmps5
  go_wp2_with (go_at_call 11; refine (H.out.1 _ (Below.refl _ _)).mono ?_; rintro e w1 ⟨rfl, b1⟩; have A1 := (After.new w (.cells #[.int .i64 mo, .int .i64 ca, .int .i64 ad, .slice sa n sc, .int .i64 kn, .int .i64 bl, .slice qa m qc] 35)).next b1; obtain ⟨d0, d1, d2, d3, d4, d5, d6⟩ := A1.cells7; have H1 : Hid _ := And.intro A1 True.intro; clear A1 b1)
  go_ret
  exact ⟨rfl, After.below H1.out.1⟩

set_option maxHeartbeats 2000000 in
theorem eokS_bad (mo ca ad kn bl : Int) (sa qa : Option Addr) (n sc m qc : Nat) (s : Value) (es : s = .slice sa n sc) (w : World) (hT : ∀ u : World, Below (w.alloc (.cells #[.int .i64 mo, .int .i64 ca, .int .i64 ad, s, .int .i64 kn, .int .i64 bl, .slice qa m qc] 35)).heap.size (w.alloc (.cells #[.int .i64 mo, .int .i64 ca, .int .i64 ad, s, .int .i64 kn, .int .i64 bl, .slice qa m qc] 35)) u → Calls Try.prog 11 #[.agg #[.int .i64 mo, .int .i64 ca, .int .i64 ad, s]] u fun e w' => e = .returned (.bool true) ∧ Below u.heap.size u w') (hm : m ≤ 1048576) (h : ¬ (0 ≤ kn ∧ kn ≤ ad ∧ 0 ≤ bl ∧ bl ≤ 64 ∧ m ≤ 64)) :
    Calls Try.prog 5 #[.agg #[.int .i64 mo, .int .i64 ca, .int .i64 ad, s, .int .i64 kn, .int .i64 bl, .slice qa m qc]] w fun e w' => e = .returned (.bool false) ∧ Below w.heap.size w w' := by
  subst es
  have H : Hid _ := And.intro hT True.intro
  clear hT
  have h' : kn < 0 ∨ (0 ≤ kn ∧ ad < kn) ∨ (0 ≤ kn ∧ kn ≤ ad ∧ bl < 0) ∨ (0 ≤ kn ∧ kn ≤ ad ∧ 0 ≤ bl ∧ 64 < bl) ∨ (0 ≤ kn ∧ kn ≤ ad ∧ 0 ≤ bl ∧ bl ≤ 64 ∧ 64 < m) := by omega
  clear h
  rcases h' with h1 | ⟨h1, h2⟩ | ⟨h1, h2, h3⟩ | ⟨h1, h2, h3, h4⟩ | ⟨h1, h2, h3, h4, h5⟩
  all_goals
    go_enter Try.func5, Try.ntmps5
    go_wp2_with (go_at_call 11; refine (H.out.1 _ (Below.refl _ _)).mono ?_; rintro e w1 ⟨rfl, b1⟩; have A1 := (After.new w (.cells #[.int .i64 mo, .int .i64 ca, .int .i64 ad, .slice sa n sc, .int .i64 kn, .int .i64 bl, .slice qa m qc] 35)).next b1; obtain ⟨d0, d1, d2, d3, d4, d5, d6⟩ := A1.cells7; have H1 : Hid _ := And.intro A1 True.intro; clear A1 b1)
    go_ret
    exact ⟨rfl, After.below H1.out.1⟩

set_option maxHeartbeats 4000000 in
theorem eokS_ok (mo ca ad kn bl : Int) (sa qa : Option Addr) (n sc m qc : Nat) (s : Value) (es : s = .slice sa n sc) (w : World) (hT : ∀ u : World, Below (w.alloc (.cells #[.int .i64 mo, .int .i64 ca, .int .i64 ad, s, .int .i64 kn, .int .i64 bl, .slice qa m qc] 35)).heap.size (w.alloc (.cells #[.int .i64 mo, .int .i64 ca, .int .i64 ad, s, .int .i64 kn, .int .i64 bl, .slice qa m qc] 35)) u → Calls Try.prog 11 #[.agg #[.int .i64 mo, .int .i64 ca, .int .i64 ad, s]] u fun e w' => e = .returned (.bool true) ∧ Below u.heap.size u w') (L : List SRef) (em : L.length = m) (h1 : 0 ≤ kn) (h2 : kn ≤ ad) (h3 : 0 ≤ bl) (h4 : bl ≤ 64) (h5 : m ≤ 64) (hr : GRow 3 w (.slice qa m qc) (SRef.L L)) :
    Calls Try.prog 5 #[.agg #[.int .i64 mo, .int .i64 ca, .int .i64 ad, s, .int .i64 kn, .int .i64 bl, .slice qa m qc]] w fun e w' => e = .returned (.bool (rsOK L ad)) ∧ Below w.heap.size w w' := by
  subst es
  obtain ⟨N, eN⟩ : ∃ N, N = rsOK L ad := ⟨_, rfl⟩
  rw [← eN]
  have H : Hid _ := And.intro hT (And.intro hr (And.intro em eN))
  clear hT hr em eN
  go_enter Try.func5, Try.ntmps5
  go_wp2_with (go_at_call 11; refine (H.out.1 _ (Below.refl _ _)).mono ?_; rintro e w1 ⟨rfl, b1⟩; have A1 := (After.new w (.cells #[.int .i64 mo, .int .i64 ca, .int .i64 ad, .slice sa n sc, .int .i64 kn, .int .i64 bl, .slice qa m qc] 35)).next b1; obtain ⟨d0, d1, d2, d3, d4, d5, d6⟩ := A1.cells7; have H1 : Hid _ := And.intro A1 True.intro; clear A1 b1)
  go_loopw [3] (fun i wr => ∃ k : Nat, k ≤ m ∧ i = .int .i64 (k : Int) ∧ rsOK (L.take k) ad = true ∧ After w (.cells #[.int .i64 mo, .int .i64 ca, .int .i64 ad, .slice sa n sc, .int .i64 kn, .int .i64 bl, .slice qa m qc] 35) wr) (fun i _ => m - (intOf i).toNat)
  case atStart => exact ⟨0, by omega, rfl, by simp [rsOK], H1.out.1⟩
  case round =>
    clear d0 d1 d2 d3 d4 d5 d6
    obtain ⟨k, hk, rfl, hA, bw⟩ := hrel
    obtain ⟨d0, d1, d2, d3, d4, d5, d6⟩ := bw.cells7
    by_cases hlt : k < m
    · have hkL : k < L.length := by rw [H.out.2.2.1]; exact hlt
      have hsu := rsOK_succ L ad k hkL
      have hno := rsOK_no L ad k hkL
      obtain ⟨b, off, cap, ev, hb, hc⟩ := rrow_at (H.out.2.1.below (After.below bw)) (by omega)
      rw [H.out.2.2.1] at ev
      simp only [Value.slice.injEq] at ev
      obtain ⟨rfl, em2, rfl⟩ := ev
      clear em2
      obtain ⟨c0, c1, c2⟩ := row_ref hc k hkL
      obtain ⟨F, eF⟩ : ∃ F, F = L.getD k default := ⟨_, rfl⟩
      rw [← eF] at hsu hno c0 c1 c2
      obtain ⟨x, y, z⟩ := F
      simp only at c0 c1 c2
      rw [hA, Bool.true_and] at hsu
      obtain ⟨C, eC⟩ : ∃ C, C = rOK ⟨x, y, z⟩ ad := ⟨_, rfl⟩
      rw [← eC] at hsu hno
      have A2 := bw.next ((Below.refl wr.heap.size wr).alloc (Nat.le_refl _) (.cells #[.int .i64 x, .int .i64 y, .int .i64 z] 43))
      have N2 := After.new wr (.cells #[.int .i64 x, .int .i64 y, .int .i64 z] 43)
      have zlt : w.heap.size < wr.heap.size := by have := Below.size bw; simp at this; omega
      obtain ⟨e0, e1, e2, e3, e4, e5, e6⟩ := A2.cells7
      have H2 : Hid _ := And.intro A2 (And.intro N2 (And.intro hsu (And.intro hno eC)))
      clear hsu hno bw eF hc hA A2 N2 hkL
      have hq : ¬ (0 ≤ x ∧ x ≤ 4611686018427387903) ∨ ((0 ≤ x ∧ x ≤ 4611686018427387903) ∧ y < 1) ∨ ((0 ≤ x ∧ x ≤ 4611686018427387903) ∧ 1 ≤ y ∧ ad < y) ∨ ((0 ≤ x ∧ x ≤ 4611686018427387903) ∧ 1 ≤ y ∧ y ≤ ad ∧ z < 0) ∨ ((0 ≤ x ∧ x ≤ 4611686018427387903) ∧ 1 ≤ y ∧ y ≤ ad ∧ 0 ≤ z ∧ y ≤ z) ∨ ((0 ≤ x ∧ x ≤ 4611686018427387903) ∧ 1 ≤ y ∧ y ≤ ad ∧ 0 ≤ z ∧ z < y) := by omega
      have hNF : C = false → N = false := fun e => by rw [H.out.2.2.2, H2.out.2.2.2.1 e]
      unfold rOK at eC
      simp only at eC
      rcases hq with q0 | ⟨q0, q⟩ | ⟨q0, q1, q⟩ | ⟨q0, q1, q2, q⟩ | ⟨q0, q1, q2, q3, q⟩ | ⟨q0, q1, q2, q3, q4⟩
      · have HF : Hid (N = false) := hNF (by rw [eC, decide_eq_false (by omega)])
        have VC : Hid (∀ u, Calls Try.prog 12 #[.int .i64 x] u fun e w' => e = .returned (.bool false) ∧ w' = u) := fun u => by have := varS x u; rwa [decide_eq_false q0] at this
        clear hNF eC q0
        go_wp2_with (go_at_call 12; refine (VC.out _).mono ?_; rintro e w' ⟨rfl, hw⟩; subst w')
        go_ret
        exact ⟨by rw [HF.out]; rfl, After.below H2.out.1⟩
      · have HF : Hid (N = false) := hNF (by rw [eC, decide_eq_false (by omega)])
        have VC : Hid (∀ u, Calls Try.prog 12 #[.int .i64 x] u fun e w' => e = .returned (.bool true) ∧ w' = u) := fun u => by have := varS x u; rwa [decide_eq_true q0] at this
        clear hNF eC q0
        go_wp2_with (go_at_call 12; refine (VC.out _).mono ?_; rintro e w' ⟨rfl, hw⟩; subst w')
        go_ret
        exact ⟨by rw [HF.out]; rfl, After.below H2.out.1⟩
      · have HF : Hid (N = false) := hNF (by rw [eC, decide_eq_false (by omega)])
        have VC : Hid (∀ u, Calls Try.prog 12 #[.int .i64 x] u fun e w' => e = .returned (.bool true) ∧ w' = u) := fun u => by have := varS x u; rwa [decide_eq_true q0] at this
        clear hNF eC q0
        go_wp2_with (go_at_call 12; refine (VC.out _).mono ?_; rintro e w' ⟨rfl, hw⟩; subst w')
        go_ret
        exact ⟨by rw [HF.out]; rfl, After.below H2.out.1⟩
      · have HF : Hid (N = false) := hNF (by rw [eC, decide_eq_false (by omega)])
        have VC : Hid (∀ u, Calls Try.prog 12 #[.int .i64 x] u fun e w' => e = .returned (.bool true) ∧ w' = u) := fun u => by have := varS x u; rwa [decide_eq_true q0] at this
        clear hNF eC q0
        go_wp2_with (go_at_call 12; refine (VC.out _).mono ?_; rintro e w' ⟨rfl, hw⟩; subst w')
        go_ret
        exact ⟨by rw [HF.out]; rfl, After.below H2.out.1⟩
      · have HF : Hid (N = false) := hNF (by rw [eC, decide_eq_false (by omega)])
        have VC : Hid (∀ u, Calls Try.prog 12 #[.int .i64 x] u fun e w' => e = .returned (.bool true) ∧ w' = u) := fun u => by have := varS x u; rwa [decide_eq_true q0] at this
        clear hNF eC q0
        go_wp2_with (go_at_call 12; refine (VC.out _).mono ?_; rintro e w' ⟨rfl, hw⟩; subst w')
        go_ret
        exact ⟨by rw [HF.out]; rfl, After.below H2.out.1⟩
      · have hC : C = true := by rw [eC, decide_eq_true (by omega)]
        have hS := H2.out.2.2.1
        rw [hC] at hS
        have HS : Hid (rsOK (L.take (k + 1)) ad = true) := hS
        have VC : Hid (∀ u, Calls Try.prog 12 #[.int .i64 x] u fun e w' => e = .returned (.bool true) ∧ w' = u) := fun u => by have := varS x u; rwa [decide_eq_true q0] at this
        clear hNF eC q0 hC hS
        go_wp2_with (go_at_call 12; refine (VC.out _).mono ?_; rintro e w' ⟨rfl, hw⟩; subst w')
        go_roundw
        case rel => exact ⟨k + 1, by omega, by go_num, HS.out, H2.out.1⟩
        case measure => simp [intOf]; omega
    · obtain rfl : k = m := by omega
      have e1 : L.take k = L := List.take_of_length_le (by rw [H.out.2.2.1]; exact Nat.le_refl _)
      rw [e1] at hA
      have hF0 : N = true := by rw [H.out.2.2.2, hA]
      have HF : Hid (N = true) := hF0
      have H2 : Hid _ := And.intro bw True.intro
      clear bw e1 hA hlt hk hF0
      go_wp2
      go_ret
      exact ⟨by rw [HF.out]; rfl, After.below H2.out.1⟩

theorem eokS (e : EN) (s q : Value) (w : World) (hs : GRow 2 w s (SField.L e.t.es)) (hq : GRow 3 w q (SRef.L e.op)) (hn : e.t.es.length ≤ 1048576) (ht : txs e.t.es ≤ 1048576) (hm : e.op.length ≤ 1048576) :
    Calls Try.prog 5 #[eV e s q] w fun x w' => x = .returned (.bool (eOK e)) ∧ Below w.heap.size w w' := by
  obtain ⟨sa, sc, es⟩ := frow_form hs
  obtain ⟨qa, qc, rfl⟩ := rrow_form hq
  unfold eV
  have hT : ∀ u : World, Below (w.alloc (.cells #[.int .i64 e.t.mo, .int .i64 e.t.ca, .int .i64 e.t.ad, s, .int .i64 e.kn, .int .i64 e.bl, .slice qa e.op.length qc] 35)).heap.size (w.alloc (.cells #[.int .i64 e.t.mo, .int .i64 e.t.ca, .int .i64 e.t.ad, s, .int .i64 e.kn, .int .i64 e.bl, .slice qa e.op.length qc] 35)) u → Calls Try.prog 11 #[.agg #[.int .i64 e.t.mo, .int .i64 e.t.ca, .int .i64 e.t.ad, s]] u fun x w' => x = .returned (.bool (tOK e.t)) ∧ Below u.heap.size u w' :=
    fun u hb => tokS e.t s u ((hs.below ((Below.refl _ _).alloc (Nat.le_refl _) _)).below hb) hn ht
  cases eT : tOK e.t with
  | false =>
    have e0 : eOK e = false := by simp [eOK, eT]
    rw [e0]
    rw [eT] at hT
    exact eokS_tab _ _ _ _ _ sa qa _ sc _ qc s es w hT hm
  | true =>
    rw [eT] at hT
    by_cases h : e.nums
    · have e0 : eOK e = rsOK e.op e.t.ad := by simp [eOK, eT, h]
      rw [e0]
      obtain ⟨a1, a2, a3, a4, a5⟩ := h
      exact eokS_ok _ _ _ _ _ sa qa _ sc _ qc s es w hT e.op rfl a1 a2 a3 a4 a5 hq
    · have e0 : eOK e = false := by simp [eOK, eT, h]
      rw [e0]
      exact eokS_bad _ _ _ _ _ sa qa _ sc _ qc s es w hT hm (by unfold EN.nums at h; omega)
end Go.Proofs.Ytmaoajadcgoopaa
