import Derived.Test.YtabnicgbcedddaaTcF
import Derived.Test.YtabnicgbcedddaaTgG
namespace Go.Proofs.Ytabnicgbcedddaa
open Go.RowKit
set_option linter.unusedVariables false

/-- The table that was handed in, and the one that is told. -/
def T2 (w u : World) (a b c : Int) (s : Value) : Prop :=
  u.heap[w.heap.size]? = some (.cells #[.int .i64 a, .int .i64 b, .int .i64 c, s] 29 (0, 0)) ∧ u.heap[w.heap.size + 1]? = some (.cells #[.int .i64 0, .int .i64 0, .int .i64 0, .slice none 0 0] 29 (0, 0)) ∧ Below w.heap.size w u
theorem T2.new (w : World) (a b c : Int) (s : Value) : T2 w ((w.alloc (.cells #[.int .i64 a, .int .i64 b, .int .i64 c, s] 29)).alloc (.cells #[.int .i64 0, .int .i64 0, .int .i64 0, .slice none 0 0] 29)) a b c s := by
  have := bk_new2 w (.cells #[.int .i64 a, .int .i64 b, .int .i64 c, s] 29) (.cells #[.int .i64 0, .int .i64 0, .int .i64 0, .slice none 0 0] 29)
  exact ⟨this.1, this.2, ((Below.refl _ _).alloc (Nat.le_refl _) _).alloc (by simp) _⟩
theorem T2.lt {w u : World} {a b c : Int} {s : Value} (h : T2 w u a b c s) : w.heap.size + 1 < u.heap.size := (Array.getElem?_eq_some_iff.1 h.2.1).1
theorem T2.next {w u u' : World} {a b c : Int} {s : Value} (h : T2 w u a b c s) (hb : Below u.heap.size u u') : T2 w u' a b c s :=
  ⟨(hb.block _ (by have := h.lt; omega)).trans h.1, (hb.block _ h.lt).trans h.2.1, h.2.2.trans (hb.mono h.2.2.size)⟩
theorem T2.box {w u : World} {a b c : Int} {s : Value} (h : T2 w u a b c s) : u.cell? ⟨w.heap.size, 0, none⟩ = some (.int .i64 a) ∧ u.cell? ⟨w.heap.size, 1, none⟩ = some (.int .i64 b) ∧ u.cell? ⟨w.heap.size, 2, none⟩ = some (.int .i64 c) ∧ u.cell? ⟨w.heap.size, 3, none⟩ = some s ∧ u.frozen? ⟨w.heap.size, 1, none⟩ = false ∧ u.frozen? ⟨w.heap.size, 3, none⟩ = false :=
  ⟨by rw [bk_cell h.1]; rfl, by rw [bk_cell h.1]; rfl, by rw [bk_cell h.1]; rfl, by rw [bk_cell h.1]; rfl, bk_free h.1 1, bk_free h.1 3⟩
theorem T2.res {w u : World} {a b c : Int} {s : Value} (h : T2 w u a b c s) : u.cell? ⟨w.heap.size + 1, 0, none⟩ = some (.int .i64 0) ∧ u.cell? ⟨w.heap.size + 1, 1, none⟩ = some (.int .i64 0) ∧ u.cell? ⟨w.heap.size + 1, 2, none⟩ = some (.int .i64 0) ∧ u.cell? ⟨w.heap.size + 1, 3, none⟩ = some (.slice none 0 0) ∧ u.frozen? ⟨w.heap.size + 1, 0, none⟩ = false ∧ u.frozen? ⟨w.heap.size + 1, 1, none⟩ = false ∧ u.frozen? ⟨w.heap.size + 1, 2, none⟩ = false ∧ u.frozen? ⟨w.heap.size + 1, 3, none⟩ = false :=
  ⟨by rw [bk_cell h.2.1]; rfl, by rw [bk_cell h.2.1]; rfl, by rw [bk_cell h.2.1]; rfl, by rw [bk_cell h.2.1]; rfl, bk_free h.2.1 0, bk_free h.2.1 1, bk_free h.2.1 2, bk_free h.2.1 3⟩
theorem T2.set1 {w u : World} {a b c : Int} {s : Value} (h : T2 w u a b c s) (x : Int) : T2 w (u.setCell ⟨w.heap.size, 1, none⟩ (.int .i64 x)) a x c s :=
  ⟨(bk_set h.1 1 _).trans rfl, (bk_other (by omega) _ _).trans h.2.1, h.2.2.setCell (Nat.le_refl _) _⟩
theorem T2.set3 {w u : World} {a b c : Int} {s : Value} (h : T2 w u a b c s) (r : Value) : T2 w (u.setCell ⟨w.heap.size, 3, none⟩ r) a b c r :=
  ⟨(bk_set h.1 3 _).trans rfl, (bk_other (by omega) _ _).trans h.2.1, h.2.2.setCell (Nat.le_refl _) _⟩
/-- Told: the four cells are stored. -/
theorem T2.tell {w u : World} {a b c : Int} {s : Value} (h : T2 w u a b c s) (x y z : Int) (r : Value) :
    ((((u.setCell ⟨w.heap.size + 1, 0, none⟩ (.int .i64 x)).setCell ⟨w.heap.size + 1, 1, none⟩ (.int .i64 y)).setCell ⟨w.heap.size + 1, 2, none⟩ (.int .i64 z)).setCell ⟨w.heap.size + 1, 3, none⟩ r).heap[w.heap.size + 1]? = some (.cells #[.int .i64 x, .int .i64 y, .int .i64 z, r] 29 (0, 0)) ∧
    Below w.heap.size w ((((u.setCell ⟨w.heap.size + 1, 0, none⟩ (.int .i64 x)).setCell ⟨w.heap.size + 1, 1, none⟩ (.int .i64 y)).setCell ⟨w.heap.size + 1, 2, none⟩ (.int .i64 z)).setCell ⟨w.heap.size + 1, 3, none⟩ r) :=
  ⟨(bk_set (bk_set (bk_set (bk_set h.2.1 0 _) 1 _) 2 _) 3 _).trans rfl, (((h.2.2.setCell (by show w.heap.size ≤ w.heap.size + 1; omega) _).setCell (by show w.heap.size ≤ w.heap.size + 1; omega) _).setCell (by show w.heap.size ≤ w.heap.size + 1; omega) _).setCell (by show w.heap.size ≤ w.heap.size + 1; omega) _⟩
/-- TableCap. -/
def tcR (t : TB) (x : Int) : TB × Int := if tOK t = false then (⟨0, 0, 0, []⟩, 1) else if x < 0 ∨ t.mo < x then (⟨0, 0, 0, []⟩, 16) else (⟨t.mo, x, t.ad, t.es.drop (gng x t.es)⟩, 0)
theorem gown_nil (w : World) (base : Nat) : GOwns 41 2 w base (.slice none 0 0) (SField.L []) := GOwns.ofF (World.ownsRow_nil _ _ _ _)
set_option maxRecDepth 20000 in
set_option maxHeartbeats 2000000 in
theorem tcS (t : TB) (s : Value) (x : Int) (w : World) (hr : GRow 2 w s (SField.L t.es)) (hn : t.es.length ≤ 1048576) (ht : txs t.es ≤ 1048576) :
    Calls Try.prog 12 #[tV t s, .int .i64 x] w fun e w' => ∃ r, e = .returned (.tuple #[tV (tcR t x).1 r, .int .i64 (tcR t x).2]) ∧ GOwns 41 2 w' w.heap.size r (SField.L (tcR t x).1.es) ∧ Below w.heap.size w w' := by
  have T0 := T2.new w t.mo t.ca t.ad s
  have CT : ∀ u, Below w.heap.size w u → _ := fun u hb => tokS t s u (hr.below hb) hn ht
  have CF : ∀ u, Below w.heap.size w u → _ := fun u hb => fitS x s t.es u (hr.below hb) hn ht
  obtain ⟨ao, cp, rfl⟩ := frow_form hr
  cases eK : tOK t with
  | false =>
    have e0 : tcR t x = (⟨0, 0, 0, []⟩, 1) := by simp [tcR, eK]
    rw [e0]
    rw [eK] at CT
    have H : Hid _ := And.intro CT T0
    clear CT CF T0 hr hn ht eK e0
    obtain ⟨n, en⟩ : ∃ n, n = t.es.length := ⟨_, rfl⟩
    rw [← en] at H ⊢
    clear en
    obtain ⟨mo, ca, ad, es⟩ := t
    unfold tV at *
    simp only at *
    go_enter Try.func12, Try.ntmps12
    go_wp2_with (go_at_call 8; refine (H.out.1 _ H.out.2.2.2).mono ?_; rintro e w1 ⟨rfl, b1⟩; obtain ⟨y0, y1, y2, y3, f0, f1, f2, f3⟩ := (H.out.2.next b1).res; have H1 : Hid _ := And.intro (H.out.2.next b1) True.intro; clear b1)
    try simp only [Exit.inBlock, Exit.then]
    refine bodyPost_ret (v := .tuple #[.agg #[.int .i64 0, .int .i64 0, .int .i64 0, .slice none 0 0], .int .i64 1]) ?_ rfl ?_
    · exact results_rt (ty := 29) rfl _ _ (w.heap.size + 1) 29 _ (0, 0) _ _ rfl rfl (H1.out.1.tell 0 0 0 (.slice none 0 0)).1 Try.underlying29 rfl infoTab
    · exact ⟨_, rfl, gown_nil _ _, (H1.out.1.tell 0 0 0 (.slice none 0 0)).2⟩
  | true =>
    obtain ⟨hnu, h124⟩ := tg_len t eK
    obtain ⟨a1, a2, a3, a4, a5, a6⟩ := hnu
    rw [eK] at CT
    by_cases hx : x < 0 ∨ t.mo < x
    · have e0 : tcR t x = (⟨0, 0, 0, []⟩, 16) := by simp [tcR, eK, hx]
      rw [e0]
      have H : Hid _ := And.intro CT T0
      clear CT CF T0 hr hn ht eK e0
      obtain ⟨n, en⟩ : ∃ n, n = t.es.length := ⟨_, rfl⟩
      rw [← en] at H ⊢
      clear en a5 h124
      obtain ⟨mo, ca, ad, es⟩ := t
      unfold tV at *
      simp only at *
      by_cases hx0 : x < 0
      · go_enter Try.func12, Try.ntmps12
        go_wp2_with (go_at_call 8; refine (H.out.1 _ H.out.2.2.2).mono ?_; rintro e w1 ⟨rfl, b1⟩; obtain ⟨y0, y1, y2, y3, f0, f1, f2, f3⟩ := (H.out.2.next b1).res; obtain ⟨q0, q1, q2, q3, k1, k3⟩ := (H.out.2.next b1).box; have H1 : Hid _ := And.intro (H.out.2.next b1) True.intro; clear b1)
        try simp only [Exit.inBlock, Exit.then]
        refine bodyPost_ret (v := .tuple #[.agg #[.int .i64 0, .int .i64 0, .int .i64 0, .slice none 0 0], .int .i64 16]) ?_ rfl ?_
        · exact results_rt (ty := 29) rfl _ _ (w.heap.size + 1) 29 _ (0, 0) _ _ rfl rfl (H1.out.1.tell 0 0 0 (.slice none 0 0)).1 Try.underlying29 rfl infoTab
        · exact ⟨_, rfl, gown_nil _ _, (H1.out.1.tell 0 0 0 (.slice none 0 0)).2⟩
      · have hx1 : mo < x := by omega
        clear hx
        go_enter Try.func12, Try.ntmps12
        go_wp2_with (go_at_call 8; refine (H.out.1 _ H.out.2.2.2).mono ?_; rintro e w1 ⟨rfl, b1⟩; obtain ⟨y0, y1, y2, y3, f0, f1, f2, f3⟩ := (H.out.2.next b1).res; obtain ⟨q0, q1, q2, q3, k1, k3⟩ := (H.out.2.next b1).box; have H1 : Hid _ := And.intro (H.out.2.next b1) True.intro; clear b1)
        try simp only [Exit.inBlock, Exit.then]
        refine bodyPost_ret (v := .tuple #[.agg #[.int .i64 0, .int .i64 0, .int .i64 0, .slice none 0 0], .int .i64 16]) ?_ rfl ?_
        · exact results_rt (ty := 29) rfl _ _ (w.heap.size + 1) 29 _ (0, 0) _ _ rfl rfl (H1.out.1.tell 0 0 0 (.slice none 0 0)).1 Try.underlying29 rfl infoTab
        · exact ⟨_, rfl, gown_nil _ _, (H1.out.1.tell 0 0 0 (.slice none 0 0)).2⟩
    · have e0 : tcR t x = (⟨t.mo, x, t.ad, t.es.drop (gng x t.es)⟩, 0) := by simp [tcR, eK, hx]
      rw [e0]
      have H : Hid _ := And.intro CT (And.intro T0 CF)
      clear CT CF T0 hr hn ht eK e0
      obtain ⟨n, en⟩ : ∃ n, n = t.es.length := ⟨_, rfl⟩
      rw [← en] at H ⊢
      clear en a5 h124
      obtain ⟨mo, ca, ad, es⟩ := t
      obtain ⟨E, eE⟩ : ∃ E, E = es.drop (gng x es) := ⟨_, rfl⟩
      unfold tV at *
      simp only at *
      rw [← eE] at H ⊢
      clear eE
      have hx0 : 0 ≤ x := by omega
      have hx1 : x ≤ mo := by omega
      clear hx
      go_enter Try.func12, Try.ntmps12
      go_wp2_with fail
      go_at_call 8
      refine (H.out.1 _ H.out.2.1.2.2).mono ?_
      rintro e w1 ⟨rfl, b1⟩
      have T1 := H.out.2.1.next b1
      obtain ⟨q0, q1, q2, q3, k1, k3⟩ := T1.box
      have T1b := T1.set1 x
      have H1 : Hid _ := And.intro T1b True.intro
      clear b1 T1
      go_wp2_with fail
      go_at_call 30
      refine (H.out.2.2 _ H1.out.1.2.2).mono ?_
      rintro e w2 ⟨r, rfl, o2, b2⟩
      obtain ⟨ra, rc, er, _⟩ := o2.formF
      obtain ⟨m, em⟩ : ∃ m, m = E.length := ⟨_, rfl⟩
      rw [← em] at er
      subst er
      clear em
      have T2a := H1.out.1.next b2
      obtain ⟨p0, p1, p2, p3, j1, j3⟩ := T2a.box
      obtain ⟨y0, y1, y2, y3, f0, f1, f2, f3⟩ := T2a.res
      have hbig := H1.out.1.lt
      have H2 : Hid _ := And.intro (T2a.set3 (.slice ra m rc)) (And.intro o2 hbig)
      clear T2a o2 b2 T1b q0 q1 q2 q3 k1 k3 hbig
      go_wp2
      try simp only [Exit.inBlock, Exit.then]
      refine bodyPost_ret (v := .tuple #[.agg #[.int .i64 mo, .int .i64 x, .int .i64 ad, .slice ra m rc], .int .i64 0]) ?_ rfl ?_
      · exact results_rt (ty := 29) rfl _ _ (w.heap.size + 1) 29 _ (0, 0) _ _ rfl rfl (H2.out.1.tell mo x ad (.slice ra m rc)).1 Try.underlying29 rfl infoTab
      · exact ⟨_, rfl, (gown_set (gown_set (gown_set (gown_set (gown_set H2.out.2.1 (g := w.heap.size) (by have := H2.out.2.2; omega)) (g := w.heap.size + 1) (by have := H2.out.2.2; omega)) (g := w.heap.size + 1) (by have := H2.out.2.2; omega)) (g := w.heap.size + 1) (by have := H2.out.2.2; omega)) (g := w.heap.size + 1) (by have := H2.out.2.2; omega)).mono (by have := H2.out.2.2; omega), (H2.out.1.tell mo x ad (.slice ra m rc)).2⟩
end Go.Proofs.Ytabnicgbcedddaa
