import Derived.Test.YtmaoajadcgoopaaEnT
namespace Go.Proofs.Ytmaoajadcgoopaa
open Go.RowKit
set_option linter.unusedVariables false

set_option maxHeartbeats 2000000 in
theorem eqEnc (e : EN) (s s' q q' : Value) (w : World) (hs : GRow 2 w s (SField.L e.t.es)) (hs' : GRow 2 w s' (SField.L e.t.es)) (hq : GRow 3 w q (SRef.L e.op)) (hq' : GRow 3 w q' (SRef.L e.op)) (hn : e.t.es.length ≤ 1048576) (hm : e.op.length ≤ 1048576) :
    Calls Try.prog 8 #[eV e s q, eV e s' q'] w fun x w' => x = .returned (.bool true) ∧ Below w.heap.size w w' := by
  obtain ⟨t, kn, bl, op⟩ := e
  have DE : ∀ u, Below w.heap.size w u → _ := fun u hb => eqTab t s s' u (hs.below hb) (hs'.below hb) hn
  have DR : ∀ u, Below w.heap.size w u → _ := fun u hb => eqRefS q q' op u (hq.below hb) (hq'.below hb) hm
  have hform := frow_form hs
  have hform' := frow_form hs'
  have hformq := rrow_form hq
  have hformq' := rrow_form hq'
  obtain ⟨mo, ca, ad, es⟩ := t
  unfold eV tV at *
  simp only at *
  have A0 := After.new w (.cells #[.int .i64 mo, .int .i64 ca, .int .i64 ad, s, .int .i64 kn, .int .i64 bl, q] 35)
  have A1 := A0.next ((Below.refl _ _).alloc (Nat.le_refl _) (.cells #[.int .i64 mo, .int .i64 ca, .int .i64 ad, s', .int .i64 kn, .int .i64 bl, q'] 35))
  have N1 := After.new (w.alloc (.cells #[.int .i64 mo, .int .i64 ca, .int .i64 ad, s, .int .i64 kn, .int .i64 bl, q] 35)) (.cells #[.int .i64 mo, .int .i64 ca, .int .i64 ad, s', .int .i64 kn, .int .i64 bl, q'] 35)
  have H : Hid _ := And.intro A1 (And.intro N1 (And.intro DE DR))
  clear A0 A1 N1 DE DR hs hs' hq hq' hn hm
  obtain ⟨ao, cp, rfl⟩ := hform
  obtain ⟨ao', cp', rfl⟩ := hform'
  obtain ⟨qa, qc, rfl⟩ := hformq
  obtain ⟨qa', qc', rfl⟩ := hformq'
  obtain ⟨n, en⟩ : ∃ n, n = es.length := ⟨_, rfl⟩
  obtain ⟨m, em⟩ : ∃ m, m = op.length := ⟨_, rfl⟩
  rw [← en, ← em] at H ⊢
  clear en em
  have e1 : (kn != kn) = false := by simp
  have e2 : (bl != bl) = false := by simp
  go_enter Try.func8, Try.ntmps8
  go_wp2_with fail
  go_at_call 17
  refine (H.out.2.2.1 _ (After.below H.out.1)).mono ?_
  rintro x w1 ⟨rfl, b1⟩
  obtain ⟨d0, d1, d2, d3, d4, d5, d6⟩ := (H.out.1.next b1).cells7
  obtain ⟨c0, c1, c2, c3, c4, c5, c6⟩ := (H.out.2.1.next b1).cells7
  have zal : ∀ (u : World) (o : Obj), (u.alloc o).heap.size = u.heap.size + 1 := fun u o => by simp
  rw [zal] at c0 c1 c2 c3 c4 c5 c6
  clear zal
  have H1 : Hid _ := And.intro (H.out.1.next b1) True.intro
  clear b1
  go_wp2_with (go_at_call 18; refine (H.out.2.2.2 _ (After.below H1.out.1)).mono ?_; rintro x w2 ⟨rfl, b2⟩; have H2 : Hid _ := And.intro (After.below (H1.out.1.next b2)) True.intro; clear b2)
  go_ret
  exact ⟨rfl, H2.out.1⟩
end Go.Proofs.Ytmaoajadcgoopaa
