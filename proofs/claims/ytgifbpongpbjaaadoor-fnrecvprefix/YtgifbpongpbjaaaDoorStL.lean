import Derived.Test.YtgifbpongpbjaaaDoorStK
namespace Go.Proofs.YtgifbpongpbjaaaDoor
open Go.RowKit
set_option linter.unusedVariables false

def K2 (g c : Nat) : Nat → Prop := fun k => k = g ∨ k = c
theorem rcB.set {w : World} {g c win st : Nat} {first came gr fin told : Int} (h : rcB w g c win st first came gr fin told) (x : Int) : rcB (w.setCell ⟨g, 4, none⟩ (.int .i64 x)) g c win st first x gr fin told := bk_set h 4 _
set_option maxRecDepth 20000 in
set_option maxHeartbeats 2000000 in
theorem keepI (g c win st first came off b do' n dc : Nat) (gr : Nat) (fin told : Int) (D : List Int) (L : List (Bool × Int)) (w : World)
    (hb : rcB w g c win st first came gr fin told) (hr : rgB w c L) (hL : L.length = win) (hw : 0 < win) (hwm : win ≤ 16384) (hgc : g ≠ c)
    (hD : D.length = n) (hn : n ≤ 1500) (hc : ∀ j, j < n → w.cell? ⟨b, do' + j, none⟩ = some (.int .u8 (D.getD j 0))) (hbg : b ≠ g) (hbc : b ≠ c) (hbl : b < w.heap.size) (ho : off ≤ 1000000) (hf : first ≤ 1000000) (hcm : came ≤ 1000000) (hgr : gr ≤ 1000000) :
    Calls Tryd.prog 16 #[.pointer (some ⟨g, 0, none⟩), .int .i64 (off : Int), .slice (some ⟨b, do', none⟩) n dc] w fun e w' => e = .returned (.tuple #[]) ∧
      rcB w' g c win st first (kfo first win off D (L, came) n).2 (max gr (off + n) : Nat) fin told ∧ rgB w' c (kfo first win off D (L, came) n).1 ∧ Chg (K2 g c) w w' := by
  have HC : Hid _ := And.intro hc (And.intro hL (And.intro hD True.intro))
  have H0 : Hid _ := And.intro hb hr
  clear hc hL hD hb hr
  go_enter Tryd.func16, Tryd.ntmps16
  go_wp2_with fail
  go_loopg [12] n (fun q i wr => ∃ j : Nat, j ≤ n ∧ q = n - j ∧ i = .int .i64 (j : Int) ∧ rcB wr g c win st first (kfo first win off D (L, came) j).2 gr fin told ∧ rgB wr c (kfo first win off D (L, came) j).1 ∧ Chg (K2 g c) w wr)
  case atStart => exact ⟨0, by omega, by omega, rfl, H0.out.1, H0.out.2, ⟨rfl, rfl, rfl, Nat.le_refl _, fun _ _ _ => rfl⟩⟩
  case round =>
    obtain ⟨j, hj, hq, rfl, rb, rr, ch⟩ := hrel
    have c3 : wr.cell? ⟨g, 3, none⟩ = some (.int .i64 (first : Int)) := (bk_cell rb 3).trans rfl
    have c2 : wr.cell? ⟨g, 2, none⟩ = some (.slice (some ⟨c, 0, none⟩) win win) := (bk_cell rb 2).trans rfl
    have c4 : wr.cell? ⟨g, 4, none⟩ = some (.int .i64 ((kfo first win off D (L, came) j).2 : Int)) := (bk_cell rb 4).trans rfl
    have c5 : wr.cell? ⟨g, 5, none⟩ = some (.int .i64 (gr : Int)) := (bk_cell rb 5).trans rfl
    have f4 := bk_free rb 4
    have f5 := bk_free rb 5
    have hcw := kfo_came first win off D (L, came) j
    simp only at hcw
    by_cases hlt : j < n
    · have cd : wr.cell? ⟨b, do' + j, none⟩ = some (.int .u8 (D.getD j 0)) := by
        have hblk := ch.block b hbl (fun h => by rcases h with h | h <;> contradiction)
        have : wr.cell? ⟨b, do' + j, none⟩ = w.cell? ⟨b, do' + j, none⟩ := by simp [World.cell?, hblk]
        rw [this]; exact HC.out.1 j hlt
      have hk : kfo first win off D (L, came) (j + 1) = kst first win (kfo first win off D (L, came) j) (off + j) (D.getD j 0) := rfl
      have hlen : (kfo first win off D (L, came) j).1.length = win := by rw [kfo_length]; exact HC.out.2.1
      have H2 : Hid _ := And.intro rb (And.intro rr (And.intro ch (And.intro hk hlen)))
      generalize hS : kfo first win off D (L, came) j = S at *
      generalize D.getD j 0 = x at *
      clear rb rr ch hk c5 f5
      by_cases h1 : off + j < first
      · have d1 : decide ((off : Int) + (j : Int) < (first : Int)) = true := decide_eq_true (by omega)
        go_wp2_with fail
        go_roundg (n - (j + 1))
        case measure => omega
        case rel =>
          refine ⟨j + 1, by omega, rfl, by go_num, ?_⟩
          rw [H2.out.2.2.2.1]
          unfold kst
          rw [if_pos h1]
          exact ⟨H2.out.1, H2.out.2.1, H2.out.2.2.1⟩
      · have d1 : decide ((off : Int) + (j : Int) < (first : Int)) = false := decide_eq_false (by omega)
        obtain ⟨r, er⟩ : ∃ r, r = (off + j) % win := ⟨_, rfl⟩
        have CA := atI g 2 c win (off + j) wr c2 hw hwm (by omega)
        rw [← er, show ((off + j : Nat) : Int) = (off : Int) + (j : Int) by omega] at CA
        have hrl : r < win := by rw [er]; exact Nat.mod_lt _ hw
        have r0 := H2.out.2.1.c0 r (by rw [H2.out.2.2.2.2]; exact hrl)
        have r1 := H2.out.2.1.c1 r (by rw [H2.out.2.2.2.2]; exact hrl)
        have g0 := bk_free H2.out.2.1 (r * 2)
        have g1 := bk_free H2.out.2.1 (r * 2 + 1)
        generalize hv : S.1.getD r (false, 0) = y at r0 r1
        obtain ⟨y1, y2⟩ := y
        simp only at r0 r1
        have HR : Hid _ := And.intro er (And.intro hv True.intro)
        clear er hv hrl
        cases y1
        · go_wp2_with fail
          go_at_call 22
          refine CA.mono ?_
          rintro e wq ⟨rfl, q, rfl⟩
          clear CA
          go_wp2_with fail
          go_roundg (n - (j + 1))
          case measure => omega
          case rel =>
            refine ⟨j + 1, by omega, rfl, by go_num, ?_⟩
            rw [H2.out.2.2.2.1]
            unfold kst
            rw [if_neg h1, ← HR.out.1, HR.out.2.1]
            have hb3 : rcB (wr.drewN q) g c win st first S.2 gr fin told := H2.out.1
            have hr3 : rgB (wr.drewN q) c S.1 := H2.out.2.1
            have ch3 : Chg (K2 g c) w (wr.drewN q) := H2.out.2.2.1.trans ⟨rfl, rfl, rfl, Nat.le_refl _, fun _ _ _ => rfl⟩
            refine ⟨?_, ?_, ((ch3.set' c (r * 2) _ (Or.inr rfl)).set' c (r * 2 + 1) _ (Or.inr rfl)).set' g 4 _ (Or.inl rfl)⟩
            · have e : (((S.1.set r (true, x), S.2 + 1) : List (Bool × Int) × Nat).2 : Int) = (S.2 : Int) + 1 := by simp
              rw [if_neg (by simp), e]
              exact rcB.set ((bk_other hgc _ _).trans ((bk_other hgc _ _).trans hb3)) _
            · rw [if_neg (by simp)]
              exact (bk_other (Ne.symm hgc) _ _).trans (hr3.set r true x)
        · go_wp2_with fail
          go_at_call 22
          refine CA.mono ?_
          rintro e wq ⟨rfl, q, rfl⟩
          clear CA
          go_wp2_with fail
          go_roundg (n - (j + 1))
          case measure => omega
          case rel =>
            refine ⟨j + 1, by omega, rfl, by go_num, ?_⟩
            rw [H2.out.2.2.2.1]
            unfold kst
            rw [if_neg h1, ← HR.out.1, HR.out.2.1]
            exact ⟨H2.out.1, H2.out.2.1, H2.out.2.2.1.trans ⟨rfl, rfl, rfl, Nat.le_refl _, fun _ _ _ => rfl⟩⟩
    · obtain rfl : n = j := by omega
      have hmx : ((max gr (off + n) : Nat) : Int) = (if (gr : Int) < (off : Int) + (n : Int) then (off : Int) + (n : Int) else (gr : Int)) := by split <;> omega
      have H2 : Hid _ := And.intro rb (And.intro rr (And.intro ch hmx))
      clear rb rr ch hmx
      have hjd : decide ((n : Int) < (n : Int)) = false := decide_eq_false (by omega)
      go_wp2_with fail
      · rename_i h
        go_end0
        refine ⟨rfl, ?_, (bk_other (Ne.symm hgc) 5 _).trans H2.out.2.1, H2.out.2.2.1.set' g 5 _ (Or.inl rfl)⟩
        have e : ((max gr (off + n) : Nat) : Int) = (off : Int) + (n : Int) := by omega
        rw [e]
        exact bk_set H2.out.1 5 _
      · rename_i h
        go_end0
        refine ⟨rfl, ?_, (bk_other (Ne.symm hgc) 5 _).trans H2.out.2.1, H2.out.2.2.1.set' g 5 _ (Or.inl rfl)⟩
        have e : ((max gr (off + n) : Nat) : Int) = (gr : Int) := by omega
        rw [e]
        exact bk_set H2.out.1 5 _
end Go.Proofs.YtgifbpongpbjaaaDoor
