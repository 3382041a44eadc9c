import Derived.Test.YtmaoajadcgoopaaEnS
import Derived.Test.YtmaoajadcgoopaaEnI
import Derived.Laws.Rows
namespace Go.Proofs.Ytmaoajadcgoopaa
open Go.RowKit
set_option linter.unusedVariables false

theorem infoEnc : (Try.prog.info? 35).map (·.size) = some 7 := by kernel_rfl
/-- What an encoder's lists and texts count. -/
def EN.tot (e : EN) : Int := (e.t.es.length : Int) + txs e.t.es + e.op.length
set_option maxHeartbeats 1000000 in
theorem szEnc (e : EN) (s q : Value) (r : Int) (w : World) (hs : GRow 2 w s (SField.L e.t.es)) (hq : GRow 3 w q (SRef.L e.op)) (hm : e.t.es.length ≤ 9223372036854775807) (hm2 : e.op.length ≤ 9223372036854775807) (hf : fin e.t.es) (hr : r = if e.tot ≤ 1048576 then 1048576 - e.tot else -1) :
    Calls Try.prog 4 #[eV e s q, .int .i64 1048576] w fun x w' => x = .returned (.int .i64 r) ∧ Below w.heap.size w w' := by
  have A0 := After.new w (.cells #[.int .i64 e.t.mo, .int .i64 e.t.ca, .int .i64 e.t.ad, s, .int .i64 e.kn, .int .i64 e.bl, q] 27)
  have tn := txs_nn e.t.es
  by_cases h1 : (e.t.es.length : Int) + txs e.t.es ≤ 1048576
  · have C := szTab e.t s 1048576 (1048576 - (e.t.es.length + txs e.t.es)) _ (hs.below (After.below A0)) hm (by decide) (by decide) hf (by rw [if_pos h1])
    obtain ⟨qa, qc, rfl⟩ := rrow_form hq
    obtain ⟨sa, sc, rfl⟩ := frow_form hs
    obtain ⟨R, eR⟩ : ∃ R, R = 1048576 - ((e.t.es.length : Int) + txs e.t.es) := ⟨_, rfl⟩
    rw [← eR] at C
    have r0 : 0 ≤ R := by omega
    have r1 : R ≤ 1048576 := by omega
    by_cases h2 : (e.op.length : Int) ≤ R
    · have D : ∀ u, _ := fun u => szRef_fit qa e.op.length qc R u (by omega) h2
      have e1 : r = R - e.op.length := by rw [hr, if_pos (by unfold EN.tot; omega)]; unfold EN.tot; omega
      have e2 : 0 ≤ R - (e.op.length : Int) := by omega
      rw [e1]
      obtain ⟨n, en⟩ : ∃ n, n = e.t.es.length := ⟨_, rfl⟩
      obtain ⟨m, em⟩ : ∃ m, m = e.op.length := ⟨_, rfl⟩
      rw [← en] at A0 C ⊢
      rw [← em] at A0 C D e2 ⊢
      have H : Hid _ := And.intro C (And.intro A0 D)
      clear C A0 D hs hq hm hm2 hf hr e1 h1 h2 tn eR en em
      obtain ⟨⟨mo, ca, ad, es⟩, kn, bl, op⟩ := e
      unfold eV tV at *
      simp only at *
      go_enter Try.func4, Try.ntmps4
      go_wp2_with (first
        | (go_at_call 9; refine H.out.1.mono ?_; rintro x w1 ⟨rfl, b1⟩; have A1 := H.out.2.1.next b1; obtain ⟨d0, d1, d2, d3, d4, d5, d6⟩ := A1.cells7; have H1 : Hid _ := And.intro A1 True.intro; clear A1 b1)
        | (go_at_call 10; refine (H.out.2.2 _).mono ?_; rintro x w2 ⟨rfl, hw⟩; subst w2))
      go_ret
      exact ⟨rfl, After.below H1.out.1⟩
    · have D : ∀ u, _ := fun u => szRef_over qa e.op.length qc R u r0 hm2 (by omega)
      have e1 : r = -1 := by rw [hr, if_neg (by unfold EN.tot; omega)]
      rw [e1]
      obtain ⟨n, en⟩ : ∃ n, n = e.t.es.length := ⟨_, rfl⟩
      obtain ⟨m, em⟩ : ∃ m, m = e.op.length := ⟨_, rfl⟩
      rw [← en] at A0 C ⊢
      rw [← em] at A0 C D ⊢
      have H : Hid _ := And.intro C (And.intro A0 D)
      clear C A0 D hs hq hm hm2 hf hr e1 h1 h2 tn eR en em
      obtain ⟨⟨mo, ca, ad, es⟩, kn, bl, op⟩ := e
      unfold eV tV at *
      simp only at *
      go_enter Try.func4, Try.ntmps4
      go_wp2_with (first
        | (go_at_call 9; refine H.out.1.mono ?_; rintro x w1 ⟨rfl, b1⟩; have A1 := H.out.2.1.next b1; obtain ⟨d0, d1, d2, d3, d4, d5, d6⟩ := A1.cells7; have H1 : Hid _ := And.intro A1 True.intro; clear A1 b1)
        | (go_at_call 10; refine (H.out.2.2 _).mono ?_; rintro x w2 ⟨rfl, hw⟩; subst w2))
      go_ret
      exact ⟨rfl, After.below H1.out.1⟩
  · have C := szTab e.t s 1048576 (-1) _ (hs.below (After.below A0)) hm (by decide) (by decide) hf (by rw [if_neg h1])
    obtain ⟨qa, qc, rfl⟩ := rrow_form hq
    obtain ⟨sa, sc, rfl⟩ := frow_form hs
    have e1 : r = -1 := by rw [hr, if_neg (by unfold EN.tot; omega)]
    rw [e1]
    obtain ⟨n, en⟩ : ∃ n, n = e.t.es.length := ⟨_, rfl⟩
    obtain ⟨m, em⟩ : ∃ m, m = e.op.length := ⟨_, rfl⟩
    rw [← en] at A0 C ⊢
    rw [← em] at A0 C ⊢
    have H : Hid _ := And.intro C A0
    clear C A0 hs hq hm hm2 hf hr e1 h1 tn en em
    obtain ⟨⟨mo, ca, ad, es⟩, kn, bl, op⟩ := e
    unfold eV tV at *
    simp only at *
    go_enter Try.func4, Try.ntmps4
    go_wp2_with (go_at_call 9; refine H.out.1.mono ?_; rintro x w1 ⟨rfl, b1⟩; have A1 := H.out.2.next b1; obtain ⟨d0, d1, d2, d3, d4, d5, d6⟩ := A1.cells7; have H1 : Hid _ := And.intro A1 True.intro; clear A1 b1)
    go_ret
    exact ⟨rfl, After.below H1.out.1⟩

end Go.Proofs.Ytmaoajadcgoopaa
