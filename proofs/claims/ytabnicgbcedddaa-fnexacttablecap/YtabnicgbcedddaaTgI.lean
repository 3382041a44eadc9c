import Derived.Test.YtabnicgbcedddaaTgG
namespace Go.Proofs.Ytabnicgbcedddaa
open Go.RowKit
set_option linter.unusedVariables false

set_option maxHeartbeats 2000000 in
theorem tgI (t : TB) (s : Value) (i : Int) (w : World) (hr : GRow 2 w s (SField.L t.es)) (hn : t.es.length ≤ 1048576) (ht : txs t.es ≤ 1048576) :
    Calls Try.prog 21 #[tV t s, .int .i64 i] w fun e w' => e = .returned (.tuple #[fV (tgR t i).1, .int .i64 (tgR t i).2]) ∧ Below w.heap.size w w' := by
  have A0 := (After.new w (.cells #[.int .i64 t.mo, .int .i64 t.ca, .int .i64 t.ad, s] 29)).next ((Below.refl _ _).alloc (Nat.le_refl _) (.cells #[.string ⟨#[]⟩, .string ⟨#[]⟩] 41))
  have N0 := After.new (w.alloc (.cells #[.int .i64 t.mo, .int .i64 t.ca, .int .i64 t.ad, s] 29)) (.cells #[.string ⟨#[]⟩, .string ⟨#[]⟩] 41)
  have zal : (w.alloc (.cells #[.int .i64 t.mo, .int .i64 t.ca, .int .i64 t.ad, s] 29)).heap.size = w.heap.size + 1 := by simp
  have KN : Hid (∀ u, After (w.alloc (.cells #[.int .i64 t.mo, .int .i64 t.ca, .int .i64 t.ad, s] 29)) (.cells #[.string ⟨#[]⟩, .string ⟨#[]⟩] 41) u → u.heap[w.heap.size + 1]? = some (.cells #[.string ⟨#[]⟩, .string ⟨#[]⟩] 41 (0, 0)) ∧ u.cell? ⟨w.heap.size + 1, 0, none⟩ = some (.string ⟨#[]⟩) ∧ u.cell? ⟨w.heap.size + 1, 1, none⟩ = some (.string ⟨#[]⟩) ∧ u.frozen? ⟨w.heap.size + 1, 0, none⟩ = false ∧ u.frozen? ⟨w.heap.size + 1, 1, none⟩ = false) := fun u hu => by have := hu.cells2; rw [zal] at this; exact this
  have CT : ∀ u, Below w.heap.size w u → _ := fun u hb => tokI t s u (hr.below hb) hn ht
  obtain ⟨ao, cp, rfl⟩ := frow_form hr
  cases eK : tOK t with
  | false =>
    have e0 : tgR t i = (default, 1) := by simp [tgR, eK]
    rw [e0]
    rw [eK] at CT
    have H : Hid _ := And.intro CT (And.intro A0 N0)
    obtain ⟨n, en⟩ : ∃ n, n = t.es.length := ⟨_, rfl⟩
    rw [← en] at H KN ⊢
    clear CT A0 N0 zal hr hn ht eK e0 en
    obtain ⟨mo, ca, ad, es⟩ := t
    unfold tV fV at *
    simp only at *
    go_enter Try.func21, Try.ntmps21
    go_wp2_with (go_at_call 10; refine (H.out.1 _ (After.below H.out.2.1)).mono ?_; rintro e w1 ⟨rfl, b1⟩; obtain ⟨k0, y0, y1, f0, f1⟩ := KN.out w1 (H.out.2.2.next b1); have H1 : Hid _ := And.intro k0 (After.below (H.out.2.1.next b1)); clear b1 k0)
    try simp only [Exit.inBlock, Exit.then]
    refine bodyPost_ret (v := .tuple #[.agg #[.string ⟨#[]⟩, .string ⟨#[]⟩], .int .i64 1]) ?_ rfl ?_
    · refine results_rt (ty := 41) rfl _ _ (w.heap.size + 1) 41 _ (0, 0) _ _ rfl rfl ?_ Try.underlying41 rfl infoFd
      rw [bk_set (bk_set H1.out.1 0 _) 1 _]
      rfl
    · exact ⟨rfl, (H1.out.2.setCell (p := ⟨w.heap.size + 1, 0, none⟩) (by show w.heap.size ≤ w.heap.size + 1; omega) _).setCell (p := ⟨w.heap.size + 1, 1, none⟩) (by show w.heap.size ≤ w.heap.size + 1; omega) _⟩
  | true =>
    obtain ⟨hnu, h124⟩ := tg_len t eK
    obtain ⟨a1, a2, a3, a4, a5, a6⟩ := hnu
    rw [eK] at CT
    obtain ⟨f, ef⟩ := Int.eq_ofNat_of_zero_le (show 0 ≤ t.ad - t.es.length by omega)
    have CO : ∀ u, Below w.heap.size w u → _ := fun u hb => openI t.mo t.ca t.ad ao t.es.length cp f t.es u rfl h124 ht (by omega) a6 (hr.below hb)
    have CG : ∀ (u : World) (G R base : Nat) (cost : Int) (RL : List SField), OT u G R base f t.mo t.ca t.ad cost RL → RingHas RL f t.es t.es.length → Calls Try.prog 41 #[.pointer (some ⟨G, 0, none⟩), .int .i64 i] u fun e w' => e = .returned (.tuple #[fV (tgR t i).1, .int .i64 (tgR t i).2]) ∧ Below u.heap.size u w' := by
      intro u G R base cost RL ot hR
      by_cases h : i < t.ad - t.es.length ∨ t.ad ≤ i
      · have e0 : tgR t i = (default, 16) := by simp [tgR, eK, h]
        rw [e0]
        exact getI_no G R base f t.mo t.ca t.ad cost i RL u ot (by omega)
      · obtain ⟨j, ej⟩ := Int.eq_ofNat_of_zero_le (show 0 ≤ i - (t.ad - t.es.length) by omega)
        have e0 : tgR t i = (t.es.getD j default, 0) := by
          unfold tgR
          rw [if_neg (by rw [eK]; decide), if_neg h, ej]
          rfl
        rw [e0]
        have e1 := hR j (by omega)
        have := getI_at G R base f (f + j) t.mo t.ca t.ad cost i RL u ot (by omega) (by omega) a6 (by omega)
        rw [e1] at this
        exact this
    have hx : (tgR t i).1.f0.size ≤ 1048576 ∧ (tgR t i).1.f1.size ≤ 1048576 := by
      unfold tgR
      rw [if_neg (by rw [eK]; decide)]
      split
      · exact ⟨by decide, by decide⟩
      · rename_i hh
        have := txs_at t.es (i - (t.ad - t.es.length)).toNat (by omega)
        refine ⟨?_, ?_⟩
        · show (t.es.getD (i - (t.ad - t.es.length)).toNat default).f0.size ≤ 1048576
          omega
        · show (t.es.getD (i - (t.ad - t.es.length)).toNat default).f1.size ≤ 1048576
          omega
    obtain ⟨X, eX⟩ : ∃ X, X = tgR t i := ⟨_, rfl⟩
    rw [← eX] at CG hx ⊢
    obtain ⟨x, code⟩ := X
    have CL : ∀ u, _ := fun u => cloneF x.f0 x.f1 u hx.1 hx.2
    have H : Hid _ := And.intro CT (And.intro A0 (And.intro N0 (And.intro CO (And.intro CG CL))))
    obtain ⟨n, en⟩ : ∃ n, n = t.es.length := ⟨_, rfl⟩
    rw [← en] at H KN ⊢
    clear CT A0 N0 CO CG CL zal hr hn ht eK en a1 a2 a3 a4 a5 a6 h124 hx eX ef
    obtain ⟨mo, ca, ad, es⟩ := t
    obtain ⟨xa, xc⟩ := x
    unfold tV fV at *
    simp only at *
    go_enter Try.func21, Try.ntmps21
    go_wp2_with fail
    go_at_call 10
    refine (H.out.1 _ (After.below H.out.2.1)).mono ?_
    rintro e w1 ⟨rfl, b1⟩
    obtain ⟨d0, d1, d2, d3⟩ := (H.out.2.1.next b1).cells
    have H1 : Hid _ := And.intro (H.out.2.1.next b1) (H.out.2.2.1.next b1)
    clear b1
    go_wp2_with fail
    go_at_call 40
    refine (H.out.2.2.2.1 _ (After.below H1.out.1)).mono ?_
    rintro e w2 ⟨rfl, ⟨RL, ot, hR⟩, b2⟩
    have H2 : Hid _ := And.intro ot (And.intro hR (And.intro (H1.out.1.next b2) (H1.out.2.next b2)))
    clear ot hR b2 d0 d1 d2 d3
    go_wp2_with fail
    go_at_call 41
    refine (H.out.2.2.2.2.1 _ _ _ _ _ _ H2.out.1 H2.out.2.1).mono ?_
    rintro e w3 ⟨rfl, b3⟩
    have H3 : Hid _ := And.intro (H2.out.2.2.1.next b3) (H2.out.2.2.2.next b3)
    clear b3
    have b3a := (Below.refl w3.heap.size w3).alloc (Nat.le_refl _) (.cells #[.string xa, .string xc] 41)
    have H4 : Hid _ := And.intro (H3.out.1.next b3a) (H3.out.2.next b3a)
    clear b3a
    go_wp2_with fail
    go_at_call 42
    refine (H.out.2.2.2.2.2 _).mono ?_
    rintro e w5 ⟨rfl, b5⟩
    obtain ⟨k0, y0, y1, f0, f1⟩ := KN.out _ (H4.out.2.next b5)
    have H5 : Hid _ := And.intro k0 (After.below (H4.out.1.next b5))
    clear b5 k0
    go_wp2
    try simp only [Exit.inBlock, Exit.then]
    refine bodyPost_ret (v := .tuple #[.agg #[.string xa, .string xc], .int .i64 code]) ?_ rfl ?_
    · refine results_rt (ty := 41) rfl _ _ (w.heap.size + 1) 41 _ (0, 0) _ _ rfl rfl ?_ Try.underlying41 rfl infoFd
      rw [bk_set (bk_set H5.out.1 0 _) 1 _]
      rfl
    · exact ⟨rfl, (H5.out.2.setCell (p := ⟨w.heap.size + 1, 0, none⟩) (by show w.heap.size ≤ w.heap.size + 1; omega) _).setCell (p := ⟨w.heap.size + 1, 1, none⟩) (by show w.heap.size ≤ w.heap.size + 1; omega) _⟩
end Go.Proofs.Ytabnicgbcedddaa
