import Derived.Test.YtocinjcbkolnhaaTdC
namespace Go.Proofs.Ytocinjcbkolnhaa
open Go.RowKit
set_option linter.unusedVariables false

theorem add_len (t : TB) (a c : ByteArray) (h : tOK t = true) (hv : fOK a c = true) (hb : cst ⟨a, c⟩ ≤ t.ca) (x : Int) (ex : x = t.ca - cst ⟨a, c⟩) : t.es.length - gng x t.es < 124 := by
  unfold tOK at h
  simp only [Bool.and_eq_true, decide_eq_true_eq] at h
  obtain ⟨⟨h1, h2⟩, h3⟩ := h
  obtain ⟨a1, a2, a3, a4, a5, a6⟩ := h1
  have one : ∀ y : SField, fOK y.f0 y.f1 = true → 33 ≤ cst y := by
    intro y hy
    have h6 : 1 ≤ y.f0.size := by
      simp only [fOK, nOK, Bool.and_eq_true, decide_eq_true_eq] at hy
      exact hy.1.1.1
    simp only [cst]
    omega
  have key : ∀ L : List SField, (∀ y ∈ L, fOK y.f0 y.f1 = true) → 33 * (L.length : Int) ≤ csts L := by
    intro L
    induction L with
    | nil => intro _; simp [csts]
    | cons y l ih =>
      intro hx
      have h5 := ih (fun z hz => hx z (List.mem_cons_of_mem _ hz))
      have h6 := one y (hx y (List.mem_cons_self ..))
      simp only [csts, List.length_cons]
      omega
  have h7 := key (t.es.drop (gng x t.es)) (fun y hy => by
    have := List.mem_of_mem_drop hy
    rw [fsOK, List.all_eq_true] at h2
    exact h2 y this)
  have h8 := gng_fit x (by omega) t.es
  have h9 := one ⟨a, c⟩ hv
  rw [List.length_drop] at h7
  omega
set_option maxRecDepth 20000 in
set_option maxHeartbeats 4000000 in
theorem chA (t : TB) (s : Value) (a c : ByteArray) (g : Nat) (w : World) (hg : w.cell? ⟨g, 0, none⟩ = some (.string a)) (hg1 : w.cell? ⟨g, 1, none⟩ = some (.string c)) (hgl : g < w.heap.size) (hr : GRow 2 w s (SField.L t.es)) (hn : t.es.length ≤ 1048576) (ht2 : txs t.es + a.size + c.size ≤ 1048576) :
    Calls Try.prog 19 #[tV t s, .func (.func 20) #[] #[.pointer (some ⟨g, 0, none⟩)]] w fun e w' => ∃ r, e = .returned (.tuple #[tV (taR t a c).1 r, .int .i64 (taR t a c).2]) ∧ GOwns 35 2 w' w.heap.size r (SField.L (taR t a c).1.es) ∧ Below w.heap.size w w' := by
  have ht : txs t.es ≤ 1048576 := by omega
  have hac : (a.size : Int) + c.size ≤ 1048576 := by have := txs_nn t.es; omega
  have T0 := T2.new w t.mo t.ca t.ad s
  have CT : ∀ u, Below w.heap.size w u → _ := fun u hb => tokI t s u (hr.below hb) hn ht
  obtain ⟨ao, cp, rfl⟩ := frow_form hr
  cases eK : tOK t with
  | false =>
    have e0 : taR t a c = (⟨0, 0, 0, []⟩, 1) := by simp [taR, eK]
    rw [e0]
    rw [eK] at CT
    have H : Hid _ := And.intro CT T0
    clear CT T0 hr hn ht eK e0
    obtain ⟨n, en⟩ : ∃ n, n = t.es.length := ⟨_, rfl⟩
    rw [← en] at H ⊢
    clear en
    obtain ⟨mo, ca, ad, es⟩ := t
    unfold tV at *
    simp only at *
    go_enter Try.func19, Try.ntmps19
    go_wp2_with (go_at_call 26; refine (H.out.1 _ H.out.2.2.2).mono ?_; rintro e w1 ⟨rfl, b1⟩; obtain ⟨y0, y1, y2, y3, f0, f1, f2, f3⟩ := (H.out.2.next b1).res; have H1 : Hid _ := And.intro (H.out.2.next b1) True.intro; clear b1)
    try simp only [Exit.inBlock, Exit.then]
    refine bodyPost_ret (v := .tuple #[.agg #[.int .i64 0, .int .i64 0, .int .i64 0, .slice none 0 0], .int .i64 1]) ?_ rfl ?_
    · exact results_rt (ty := 31) rfl _ _ (w.heap.size + 1) 31 _ (0, 0) _ _ rfl rfl (H1.out.1.tell 0 0 0 (.slice none 0 0)).1 Try.underlying31 rfl infoTab
    · exact ⟨_, rfl, gown_nil _ _, (H1.out.1.tell 0 0 0 (.slice none 0 0)).2⟩
  | true =>
    obtain ⟨hnu, h124⟩ := tg_len t eK
    obtain ⟨a1, a2, a3, a4, a5, a6⟩ := hnu
    rw [eK] at CT
    obtain ⟨f, ef⟩ := Int.eq_ofNat_of_zero_le (show 0 ≤ t.ad - t.es.length by omega)
    have CO : ∀ u, Below w.heap.size w u → _ := fun u hb => openI t.mo t.ca t.ad ao t.es.length cp f t.es u rfl h124 ht (by omega) a6 (hr.below hb)
    by_cases hx : (fOK a c = false ∨ t.ad = 4611686018427387902) ∨ t.ca < cst ⟨a, c⟩
    · have CC : ∃ kc : Int, taR t a c = (⟨0, 0, 0, []⟩, kc) ∧ (kc != 0) = true ∧ ∀ (u : World) (G R base : Nat) (RL : List SField), OT u G R base f t.mo t.ca t.ad (csts t.es) RL → Below w.heap.size w u → Calls Try.prog 20 #[.pointer (some ⟨G, 0, none⟩), .pointer (some ⟨g, 0, none⟩)] u fun e w' => e = .returned (.int .i64 kc) ∧ Below u.heap.size u w' := by
        by_cases hx1 : fOK a c = false ∨ t.ad = 4611686018427387902
        · exact ⟨1, by simp [taR, hx1], by decide, fun u G R base RL ot hb => addC G g a c 1 _ u (addI_bad G R base f t.mo t.ca t.ad (csts t.es) a c RL u ot (by omega) (by omega) hx1) ((hb.cell (p := ⟨g, 0, none⟩) hgl).trans hg) ((hb.cell (p := ⟨g, 1, none⟩) hgl).trans hg1)⟩
        · have hx2 : t.ca < cst ⟨a, c⟩ := by rcases hx with h | h; exact absurd h hx1; exact h
          have hv : fOK a c = true := by cases e : fOK a c with
            | false => exact absurd (Or.inl e) hx1
            | true => rfl
          have had : t.ad ≤ 4611686018427387901 := by have : ¬ t.ad = 4611686018427387902 := fun e => hx1 (Or.inr e); omega
          exact ⟨16, by unfold taR; rw [if_neg (by rw [eK]; simp [hx1]), if_pos hx2], by decide, fun u G R base RL ot hb => addC G g a c 16 _ u (addI_big G R base f t.mo t.ca t.ad (csts t.es) a c RL u ot hac hv had hx2) ((hb.cell (p := ⟨g, 0, none⟩) hgl).trans hg) ((hb.cell (p := ⟨g, 1, none⟩) hgl).trans hg1)⟩
      obtain ⟨kc, e0, hkc, CC⟩ := CC
      rw [e0]
      have H : Hid _ := And.intro CT (And.intro T0 (And.intro CO CC))
      clear CT T0 hr hn ht eK e0 CO CC hg hg1 hgl hac ht2
      obtain ⟨n, en⟩ : ∃ n, n = t.es.length := ⟨_, rfl⟩
      rw [← en] at H ⊢
      clear en a5 h124 ef hx
      obtain ⟨mo, ca, ad, es⟩ := t
      unfold tV at *
      simp only at *
      go_enter Try.func19, Try.ntmps19
      go_wp2_with fail
      go_at_call 26
      refine (H.out.1 _ H.out.2.1.2.2).mono ?_
      rintro e w1 ⟨rfl, b1⟩
      obtain ⟨q0, q1, q2, q3, k1, k3⟩ := (H.out.2.1.next b1).box
      have H1 : Hid _ := And.intro (H.out.2.1.next b1) True.intro
      clear b1
      go_wp2_with fail
      go_at_call 27
      refine (H.out.2.2.1 _ H1.out.1.2.2).mono ?_
      rintro e w2 ⟨rfl, ⟨RL, ot, hR⟩, b2⟩
      have H2 : Hid _ := And.intro ot (And.intro hR (H1.out.1.next b2))
      clear ot hR b2 q0 q1 q2 q3 k1 k3
      go_wp2_with fail
      go_at_call 20
      refine (H.out.2.2.2 _ _ _ _ _ H2.out.1 H2.out.2.2.2.2).mono ?_
      rintro e w3 ⟨rfl, b3⟩
      obtain ⟨y0, y1, y2, y3, f0, f1, f2, f3⟩ := (H2.out.2.2.next b3).res
      have H3 : Hid _ := And.intro (H2.out.2.2.next b3) True.intro
      clear b3
      go_wp2
      try simp only [Exit.inBlock, Exit.then]
      refine bodyPost_ret (v := .tuple #[.agg #[.int .i64 0, .int .i64 0, .int .i64 0, .slice none 0 0], .int .i64 kc]) ?_ rfl ?_
      · exact results_rt (ty := 31) rfl _ _ (w.heap.size + 1) 31 _ (0, 0) _ _ rfl rfl (H3.out.1.tell 0 0 0 (.slice none 0 0)).1 Try.underlying31 rfl infoTab
      · exact ⟨_, rfl, gown_nil _ _, (H3.out.1.tell 0 0 0 (.slice none 0 0)).2⟩
    · have hx1 : ¬ (fOK a c = false ∨ t.ad = 4611686018427387902) := fun e => hx (Or.inl e)
      have hx2 : cst ⟨a, c⟩ ≤ t.ca := by have : ¬ t.ca < cst ⟨a, c⟩ := fun e => hx (Or.inr e); omega
      have hv : fOK a c = true := by cases e : fOK a c with
        | false => exact absurd (Or.inl e) hx1
        | true => rfl
      have had : t.ad ≤ 4611686018427387901 := by have : ¬ t.ad = 4611686018427387902 := fun e => hx1 (Or.inr e); omega
      obtain ⟨x, ex⟩ : ∃ x, x = t.ca - cst ⟨a, c⟩ := ⟨_, rfl⟩
      have e0 : taR t a c = (⟨t.mo, t.ca, t.ad + 1, t.es.drop (gng x t.es) ++ [⟨a, c⟩]⟩, 0) := by unfold taR; rw [if_neg (by rw [eK]; simp [hx1]), if_neg (by omega), ex]
      have hlen : t.es.length - gng x t.es < 124 := add_len t a c eK hv hx2 x ex
      rw [e0]
      have hA := gng_le x t.es
      have CC : ∀ (u : World) (G R base : Nat) (RL : List SField), OT u G R base f t.mo t.ca t.ad (csts t.es) RL → RingHas RL f t.es t.es.length → Below w.heap.size w u → Calls Try.prog 20 #[.pointer (some ⟨G, 0, none⟩), .pointer (some ⟨g, 0, none⟩)] u fun e w' => e = .returned (.int .i64 0) ∧ (∃ RL' cost, OT w' G R base ((f + gng x t.es : Nat) : Int) t.mo t.ca (t.ad + 1) cost RL' ∧ RingHas RL' (f + gng x t.es) (t.es.drop (gng x t.es) ++ [⟨a, c⟩]) (t.es.length - gng x t.es + 1)) ∧ ChgF (K2F G R) u w' := by
        intro u G R base RL ot hR hb
        refine addC G g a c 0 _ u ((addI_ok G R base f t.es.length t.mo t.ca t.ad a c RL t.es u ot hR rfl h124 ht (by omega) hac hv had hx2 (by omega) (by rw [← ex]; exact hlen)).mono ?_) ((hb.cell (p := ⟨g, 0, none⟩) hgl).trans hg) ((hb.cell (p := ⟨g, 1, none⟩) hgl).trans hg1)
        rintro e w' ⟨rfl, ⟨RL', A, eA, h1, h2⟩, h3⟩
        rw [← ex] at eA
        subst eA
        exact ⟨rfl, ⟨RL', _, h1, h2⟩, h3⟩
      have CD : ∀ (u : World) (G R base : Nat) (cost : Int) (RL : List SField), OT u G R base ((f + gng x t.es : Nat) : Int) t.mo t.ca (t.ad + 1) cost RL → RingHas RL (f + gng x t.es) (t.es.drop (gng x t.es) ++ [⟨a, c⟩]) (t.es.length - gng x t.es + 1) → _ := fun u G R base cost RL ot hR => toldI G R base (f + gng x t.es) (t.es.length - gng x t.es + 1) t.mo t.ca (t.ad + 1) cost RL (t.es.drop (gng x t.es) ++ [⟨a, c⟩]) u ot hR (by simp) (by omega) (by rw [txs_app]; have := txs_drop t.es (gng x t.es); simp only [txs]; omega) (by omega) (by omega)
      have hEl : (t.es.drop (gng x t.es) ++ [(⟨a, c⟩ : SField)]).length = t.es.length - gng x t.es + 1 := by simp
      obtain ⟨m, em⟩ : ∃ m, m = t.es.length - gng x t.es + 1 := ⟨_, rfl⟩
      obtain ⟨F, eF⟩ : ∃ F, F = f + gng x t.es := ⟨_, rfl⟩
      rw [← em] at CC CD hEl
      rw [← eF] at CC CD
      have hm : m ≤ 124 := by omega
      have H : Hid _ := And.intro CT (And.intro T0 (And.intro CO (And.intro CC (And.intro CD hEl))))
      clear CT T0 hr hn ht eK e0 CO CC CD hg hg1 hgl hac ht2 hEl em eF hA hx1 hx2 hv hlen ex
      obtain ⟨n, en⟩ : ∃ n, n = t.es.length := ⟨_, rfl⟩
      rw [← en] at H ⊢
      clear en a5 h124 ef hx had
      obtain ⟨mo, ca, ad, es⟩ := t
      unfold tV at *
      simp only at *
      obtain ⟨E, eE⟩ : ∃ E, E = es.drop (gng x es) ++ [(⟨a, c⟩ : SField)] := ⟨_, rfl⟩
      rw [← eE] at H ⊢
      clear eE
      go_enter Try.func19, Try.ntmps19
      go_wp2_with fail
      go_at_call 26
      refine (H.out.1 _ H.out.2.1.2.2).mono ?_
      rintro e w1 ⟨rfl, b1⟩
      obtain ⟨q0, q1, q2, q3, k1, k3⟩ := (H.out.2.1.next b1).box
      have H1 : Hid _ := And.intro (H.out.2.1.next b1) True.intro
      clear b1
      go_wp2_with fail
      go_at_call 27
      refine (H.out.2.2.1 _ H1.out.1.2.2).mono ?_
      rintro e w2 ⟨rfl, ⟨RL, ot, hR⟩, b2⟩
      have H2 : Hid _ := And.intro ot (And.intro hR (H1.out.1.next b2))
      have hs1 := H1.out.1.lt
      have hs2 := b2.size
      clear ot hR b2 q0 q1 q2 q3 k1 k3
      go_wp2_with fail
      go_at_call 20
      refine (H.out.2.2.2.1 _ _ _ _ _ H2.out.1 H2.out.2.1 H2.out.2.2.2.2).mono ?_
      rintro e w3 ⟨rfl, ⟨RL2, cost2, o3, r3⟩, c3⟩
      have T3 := H2.out.2.2.nextB (B := w1.heap.size) (c3.below (by omega) (fun k hk => by rcases hk with h | h <;> omega)) (by omega)
      have H3 : Hid _ := And.intro T3 (And.intro o3 r3)
      clear T3 o3 r3 c3
      go_wp2_with fail
      go_at_call 28
      refine (H.out.2.2.2.2.1 _ _ _ _ _ _ H3.out.2.1 H3.out.2.2).mono ?_
      rintro e w4 ⟨rfl, r4, b4⟩
      have T4 := H3.out.1.next b4
      obtain ⟨y0, y1, y2, y3, f0, f1, f2, f3⟩ := T4.res
      have hs3 := H3.out.1.lt
      have H4 : Hid _ := And.intro T4 (gown_of_rg (base := w3.heap.size) r4 H.out.2.2.2.2.2 (by omega) (by omega))
      clear T4 r4 b4
      go_wp2
      try simp only [Exit.inBlock, Exit.then]
      refine bodyPost_ret (v := .tuple #[.agg #[.int .i64 mo, .int .i64 ca, .int .i64 (ad + 1), .slice (some ⟨w3.heap.size + 1, 0, none⟩) m m], .int .i64 0]) ?_ rfl ?_
      · exact results_rt (ty := 31) rfl _ _ (w.heap.size + 1) 31 _ (0, 0) _ _ rfl rfl (H4.out.1.tell mo ca (ad + 1) (.slice (some ⟨w3.heap.size + 1, 0, none⟩) m m)).1 Try.underlying31 rfl infoTab
      · exact ⟨_, rfl, (gown_set (gown_set (gown_set (gown_set H4.out.2 (g := w.heap.size + 1) hs3) (g := w.heap.size + 1) hs3) (g := w.heap.size + 1) hs3) (g := w.heap.size + 1) hs3).mono (by omega), (H4.out.1.tell mo ca (ad + 1) (.slice (some ⟨w3.heap.size + 1, 0, none⟩) m m)).2⟩
end Go.Proofs.Ytocinjcbkolnhaa
