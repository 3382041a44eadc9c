import Derived.Test.YtabnicgbcedddaaTcW
namespace Go.Proofs.Ytabnicgbcedddaa
open Go.RowKit
set_option linter.unusedVariables false

theorem T2.nextB {w u u' : World} {a b c : Int} {s : Value} {B : Nat} (h : T2 w u a b c s) (hb : Below B u u') (hB : w.heap.size + 1 < B) : T2 w u' a b c s :=
  ⟨(hb.block _ (by omega)).trans h.1, (hb.block _ hB).trans h.2.1, h.2.2.trans (hb.mono (by omega))⟩
theorem txs_drop (L : List SField) (k : Nat) : txs (L.drop k) ≤ txs L := by
  have h := txs_app (L.take k) (L.drop k)
  rw [List.take_append_drop] at h
  have := txs_nn (L.take k)
  omega
set_option maxRecDepth 20000 in
set_option maxHeartbeats 4000000 in
theorem chI (t : TB) (s : Value) (x : Int) (g : Nat) (w : World) (hg : w.cell? ⟨g, 0, none⟩ = some (.int .i64 x)) (hgl : g < w.heap.size) (hr : GRow 2 w s (SField.L t.es)) (hn : t.es.length ≤ 1048576) (ht : txs t.es ≤ 1048576) :
    Calls Try.prog 31 #[tV t s, .func (.func 32) #[] #[.pointer (some ⟨g, 0, none⟩)]] w fun e w' => ∃ r, e = .returned (.tuple #[tV (tcR t x).1 r, .int .i64 (tcR t x).2]) ∧ GOwns 41 2 w' w.heap.size r (SField.L (tcR t x).1.es) ∧ Below w.heap.size w w' := by
  have T0 := T2.new w t.mo t.ca t.ad s
  have CT : ∀ u, Below w.heap.size w u → _ := fun u hb => tokI t s u (hr.below hb) hn ht
  obtain ⟨ao, cp, rfl⟩ := frow_form hr
  cases eK : tOK t with
  | false =>
    have e0 : tcR t x = (⟨0, 0, 0, []⟩, 1) := by simp [tcR, eK]
    rw [e0]
    rw [eK] at CT
    have H : Hid _ := And.intro CT T0
    clear CT T0 hr hn ht eK e0
    obtain ⟨n, en⟩ : ∃ n, n = t.es.length := ⟨_, rfl⟩
    rw [← en] at H ⊢
    clear en
    obtain ⟨mo, ca, ad, es⟩ := t
    unfold tV at *
    simp only at *
    go_enter Try.func31, Try.ntmps31
    go_wp2_with (go_at_call 10; refine (H.out.1 _ H.out.2.2.2).mono ?_; rintro e w1 ⟨rfl, b1⟩; obtain ⟨y0, y1, y2, y3, f0, f1, f2, f3⟩ := (H.out.2.next b1).res; have H1 : Hid _ := And.intro (H.out.2.next b1) True.intro; clear b1)
    try simp only [Exit.inBlock, Exit.then]
    refine bodyPost_ret (v := .tuple #[.agg #[.int .i64 0, .int .i64 0, .int .i64 0, .slice none 0 0], .int .i64 1]) ?_ rfl ?_
    · exact results_rt (ty := 29) rfl _ _ (w.heap.size + 1) 29 _ (0, 0) _ _ rfl rfl (H1.out.1.tell 0 0 0 (.slice none 0 0)).1 Try.underlying29 rfl infoTab
    · exact ⟨_, rfl, gown_nil _ _, (H1.out.1.tell 0 0 0 (.slice none 0 0)).2⟩
  | true =>
    obtain ⟨hnu, h124⟩ := tg_len t eK
    obtain ⟨a1, a2, a3, a4, a5, a6⟩ := hnu
    rw [eK] at CT
    obtain ⟨f, ef⟩ := Int.eq_ofNat_of_zero_le (show 0 ≤ t.ad - t.es.length by omega)
    have CO : ∀ u, Below w.heap.size w u → _ := fun u hb => openI t.mo t.ca t.ad ao t.es.length cp f t.es u rfl h124 ht (by omega) a6 (hr.below hb)
    by_cases hx : x < 0 ∨ t.mo < x
    · have e0 : tcR t x = (⟨0, 0, 0, []⟩, 16) := by simp [tcR, eK, hx]
      rw [e0]
      have CC : ∀ (u : World) (G R base : Nat) (RL : List SField), OT u G R base f t.mo t.ca t.ad (csts t.es) RL → Below w.heap.size w u → _ := fun u G R base RL ot hb => capNo G R base f g t.mo t.ca t.ad x RL t.es u ot hx ((hb.cell (p := ⟨g, 0, none⟩) hgl).trans hg)
      have H : Hid _ := And.intro CT (And.intro T0 (And.intro CO CC))
      clear CT T0 hr hn ht eK e0 CO CC hg hgl
      obtain ⟨n, en⟩ : ∃ n, n = t.es.length := ⟨_, rfl⟩
      rw [← en] at H ⊢
      clear en a5 h124 ef hx
      obtain ⟨mo, ca, ad, es⟩ := t
      unfold tV at *
      simp only at *
      go_enter Try.func31, Try.ntmps31
      go_wp2_with fail
      go_at_call 10
      refine (H.out.1 _ H.out.2.1.2.2).mono ?_
      rintro e w1 ⟨rfl, b1⟩
      obtain ⟨q0, q1, q2, q3, k1, k3⟩ := (H.out.2.1.next b1).box
      have H1 : Hid _ := And.intro (H.out.2.1.next b1) True.intro
      clear b1
      go_wp2_with fail
      go_at_call 40
      refine (H.out.2.2.1 _ H1.out.1.2.2).mono ?_
      rintro e w2 ⟨rfl, ⟨RL, ot, hR⟩, b2⟩
      have H2 : Hid _ := And.intro ot (And.intro hR (H1.out.1.next b2))
      clear ot hR b2 q0 q1 q2 q3 k1 k3
      go_wp2_with fail
      go_at_call 32
      refine (H.out.2.2.2 _ _ _ _ _ H2.out.1 H2.out.2.2.2.2).mono ?_
      rintro e w3 ⟨rfl, b3⟩
      obtain ⟨y0, y1, y2, y3, f0, f1, f2, f3⟩ := (H2.out.2.2.next b3).res
      have H3 : Hid _ := And.intro (H2.out.2.2.next b3) True.intro
      clear b3
      go_wp2
      try simp only [Exit.inBlock, Exit.then]
      refine bodyPost_ret (v := .tuple #[.agg #[.int .i64 0, .int .i64 0, .int .i64 0, .slice none 0 0], .int .i64 16]) ?_ rfl ?_
      · exact results_rt (ty := 29) rfl _ _ (w.heap.size + 1) 29 _ (0, 0) _ _ rfl rfl (H3.out.1.tell 0 0 0 (.slice none 0 0)).1 Try.underlying29 rfl infoTab
      · exact ⟨_, rfl, gown_nil _ _, (H3.out.1.tell 0 0 0 (.slice none 0 0)).2⟩
    · have e0 : tcR t x = (⟨t.mo, x, t.ad, t.es.drop (gng x t.es)⟩, 0) := by simp [tcR, eK, hx]
      rw [e0]
      have hA := gng_le x t.es
      have CC : ∀ (u : World) (G R base : Nat) (RL : List SField), OT u G R base f t.mo t.ca t.ad (csts t.es) RL → RingHas RL f t.es t.es.length → Below w.heap.size w u → Calls Try.prog 32 #[.pointer (some ⟨G, 0, none⟩), .pointer (some ⟨g, 0, none⟩)] u fun e w' => e = .returned (.int .i64 0) ∧ (∃ RL', OT w' G R base ((f + gng x t.es : Nat) : Int) t.mo x t.ad (csts (t.es.drop (gng x t.es))) RL' ∧ RingHas RL' (f + gng x t.es) (t.es.drop (gng x t.es)) (t.es.length - gng x t.es)) ∧ ChgF (K2F G R) u w' := by
        intro u G R base RL ot hR hb
        refine (capYes G R base f t.es.length g t.mo t.ca t.ad x RL t.es u ot hR rfl h124 ht (by omega) (by omega) (by omega) a2 ((hb.cell (p := ⟨g, 0, none⟩) hgl).trans hg)).mono ?_
        rintro e w' ⟨rfl, ⟨RL', A, rfl, h1, h2⟩, h3⟩
        exact ⟨rfl, ⟨RL', h1, h2⟩, h3⟩
      have CD : ∀ (u : World) (G R base : Nat) (RL : List SField), OT u G R base ((f + gng x t.es : Nat) : Int) t.mo x t.ad (csts (t.es.drop (gng x t.es))) RL → RingHas RL (f + gng x t.es) (t.es.drop (gng x t.es)) (t.es.length - gng x t.es) → _ := fun u G R base RL ot hR => toldI G R base (f + gng x t.es) (t.es.length - gng x t.es) t.mo x t.ad _ RL (t.es.drop (gng x t.es)) u ot hR (List.length_drop ..) (by omega) (by have := txs_drop t.es (gng x t.es); omega) (by omega) a6
      have hEl : (t.es.drop (gng x t.es)).length = t.es.length - gng x t.es := List.length_drop ..
      obtain ⟨m, em⟩ : ∃ m, m = t.es.length - gng x t.es := ⟨_, rfl⟩
      obtain ⟨F, eF⟩ : ∃ F, F = f + gng x t.es := ⟨_, rfl⟩
      rw [← em] at CC CD hEl
      rw [← eF] at CC CD
      have hm : m ≤ 124 := by omega
      have H : Hid _ := And.intro CT (And.intro T0 (And.intro CO (And.intro CC (And.intro CD hEl))))
      clear CT T0 hr hn ht eK e0 CO CC CD hg hgl hEl em eF hA
      obtain ⟨n, en⟩ : ∃ n, n = t.es.length := ⟨_, rfl⟩
      rw [← en] at H ⊢
      clear en a5 h124 ef hx
      obtain ⟨mo, ca, ad, es⟩ := t
      unfold tV at *
      simp only at *
      obtain ⟨E, eE⟩ : ∃ E, E = es.drop (gng x es) := ⟨_, rfl⟩
      rw [← eE] at H ⊢
      clear eE
      go_enter Try.func31, Try.ntmps31
      go_wp2_with fail
      go_at_call 10
      refine (H.out.1 _ H.out.2.1.2.2).mono ?_
      rintro e w1 ⟨rfl, b1⟩
      obtain ⟨q0, q1, q2, q3, k1, k3⟩ := (H.out.2.1.next b1).box
      have H1 : Hid _ := And.intro (H.out.2.1.next b1) True.intro
      clear b1
      go_wp2_with fail
      go_at_call 40
      refine (H.out.2.2.1 _ H1.out.1.2.2).mono ?_
      rintro e w2 ⟨rfl, ⟨RL, ot, hR⟩, b2⟩
      have H2 : Hid _ := And.intro ot (And.intro hR (H1.out.1.next b2))
      have hs1 := H1.out.1.lt
      have hs2 := b2.size
      clear ot hR b2 q0 q1 q2 q3 k1 k3
      go_wp2_with fail
      go_at_call 32
      refine (H.out.2.2.2.1 _ _ _ _ _ H2.out.1 H2.out.2.1 H2.out.2.2.2.2).mono ?_
      rintro e w3 ⟨rfl, ⟨RL2, o3, r3⟩, c3⟩
      have T3 := H2.out.2.2.nextB (B := w1.heap.size) (c3.below (by omega) (fun k hk => by rcases hk with h | h <;> omega)) (by omega)
      have H3 : Hid _ := And.intro T3 (And.intro o3 r3)
      clear T3 o3 r3 c3
      go_wp2_with fail
      go_at_call 45
      refine (H.out.2.2.2.2.1 _ _ _ _ _ H3.out.2.1 H3.out.2.2).mono ?_
      rintro e w4 ⟨rfl, r4, b4⟩
      have T4 := H3.out.1.next b4
      obtain ⟨y0, y1, y2, y3, f0, f1, f2, f3⟩ := T4.res
      have hs3 := H3.out.1.lt
      have H4 : Hid _ := And.intro T4 (gown_of_rg (base := w3.heap.size) r4 H.out.2.2.2.2.2 (by omega) (by omega))
      clear T4 r4 b4
      go_wp2
      try simp only [Exit.inBlock, Exit.then]
      refine bodyPost_ret (v := .tuple #[.agg #[.int .i64 mo, .int .i64 x, .int .i64 ad, .slice (some ⟨w3.heap.size + 1, 0, none⟩) m m], .int .i64 0]) ?_ rfl ?_
      · exact results_rt (ty := 29) rfl _ _ (w.heap.size + 1) 29 _ (0, 0) _ _ rfl rfl (H4.out.1.tell mo x ad (.slice (some ⟨w3.heap.size + 1, 0, none⟩) m m)).1 Try.underlying29 rfl infoTab
      · exact ⟨_, rfl, (gown_set (gown_set (gown_set (gown_set H4.out.2 (g := w.heap.size + 1) hs3) (g := w.heap.size + 1) hs3) (g := w.heap.size + 1) hs3) (g := w.heap.size + 1) hs3).mono (by omega), (H4.out.1.tell mo x ad (.slice (some ⟨w3.heap.size + 1, 0, none⟩) m m)).2⟩
end Go.Proofs.Ytabnicgbcedddaa
