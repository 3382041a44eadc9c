import Derived.Test.YtdjflbanbhhniaaDoorRzD
namespace Go.Proofs.YtdjflbanbhhniaaDoor
open Go.RowKit
set_option linter.unusedVariables false

theorem rb5Z {u : World} {b : Nat} {x0 x1 x2 x3 : ByteArray} {s : Value} {T : TypeId} (h : u.heap[b]? = some (.cells #[.string x0, .string x1, .string x2, .string x3, s] T (0, 0))) : u.cell? ⟨b, 0, none⟩ = some (.string x0) ∧ u.cell? ⟨b, 1, none⟩ = some (.string x1) ∧ u.cell? ⟨b, 2, none⟩ = some (.string x2) ∧ u.cell? ⟨b, 3, none⟩ = some (.string x3) ∧ u.cell? ⟨b, 4, none⟩ = some s :=
  ⟨by rw [bk_cell h]; rfl, by rw [bk_cell h]; rfl, by rw [bk_cell h]; rfl, by rw [bk_cell h]; rfl, by rw [bk_cell h]; rfl⟩
set_option maxRecDepth 20000 in
theorem markReqP (qm qs qa qp : ByteArray) (r : Value) (es : List SField) (base : Nat) (w : World) (h : GOwns 44 2 w base r (SField.L es)) (hn : es.length ≤ 1048576) :
    Calls Tryd.prog 11 #[qV qm qs qa qp r, .int .i64 1] w fun e w' => e = .returned (.int .i64 (1 + 2 * (es.length : Int))) ∧ (∃ P, MPQ P 1 es.length es.length ∧ GOwns 44 2 w' base r (SField.L P)) ∧ ChgQ (oBQ r) w w' := by
  have A0 : Below w.heap.size w (w.alloc (.cells #[.string qm, .string qs, .string qa, .string qp, r] 30)) := (Below.refl _ _).alloc (Nat.le_refl _) _
  have CM := markFQ r es base 1 _ (h.below A0) hn (by decide) (by decide)
  obtain ⟨ra, rc, rfl⟩ := frow_form h.row
  have H : Hid _ := And.intro CM A0
  clear CM A0 h
  unfold qV
  obtain ⟨n, en⟩ : ∃ n, n = es.length := ⟨_, rfl⟩
  rw [← en] at H hn ⊢
  clear en
  go_enter Tryd.func11, Tryd.ntmps11
  go_wp2_with (go_at_call 12; refine H.out.1.mono ?_; rintro e w1 ⟨rfl, p1, c1⟩; have H1 : Hid _ := And.intro p1 ((ChgQ.of_below H.out.2).trans c1); clear p1 c1)
  go_ret
  exact ⟨rfl, H1.out.1, H1.out.2⟩
set_option maxRecDepth 20000 in
theorem heldReq (qm qs qa qp : ByteArray) (r : Value) (P : List SField) (n base : Nat) (w : World) (h : GOwns 44 2 w base r (SField.L P)) (hP : MPQ P 1 n n) (hn : n ≤ 1048576) :
    Calls Tryd.prog 18 #[qV qm qs qa qp r, .int .i64 1] w fun e w' => e = .returned (.int .i64 (1 + 2 * (n : Int))) ∧ Below w.heap.size w w' := by
  have A0 : Below w.heap.size w (w.alloc (.cells #[.string qm, .string qs, .string qa, .string qp, r] 30)) := (Below.refl _ _).alloc (Nat.le_refl _) _
  have CM := heldFQ r P n base 1 _ (h.below A0) hP hn (by decide) (by decide)
  obtain ⟨ra, rc, rfl⟩ := frow_form h.row
  have H : Hid _ := And.intro CM A0
  rw [hP.1] at H ⊢
  have h1 : (0 : Int) ≤ 1 + 2 * (n : Int) := by omega
  obtain ⟨K, eK⟩ : ∃ K, K = 1 + 2 * (n : Int) := ⟨_, rfl⟩
  rw [← eK] at H h1 ⊢
  clear CM A0 h hP eK
  unfold qV
  go_enter Tryd.func18, Tryd.ntmps18
  go_wp2_with (go_at_call 13; refine H.out.1.mono ?_; rintro e w1 ⟨rfl, b1⟩; have H1 : Hid _ := And.intro (H.out.2.trans (b1.mono H.out.2.size)) True.intro; clear b1)
  go_ret
  exact ⟨rfl, H1.out.1⟩
/-- What the law holds: the model's answer, what was handed in, the program's answer. -/
structure LQ (w u : World) (b6 c4 b9 : Nat) (qm qs qa qp : ByteArray) (r3 r4 r6 : Value) (X L4 L6 : List SField) : Prop where
  k6 : u.heap[b6]? = some (.cells #[.string qm, .string qs, .string qa, .string qp, r3] 30 (0, 0))
  k9 : u.heap[b9]? = some (.cells #[.string qm, .string qs, .string qa, .string qp, r6] 30 (0, 0))
  o3 : GOwns 44 2 u w.heap.size r3 (SField.L X)
  o4 : GOwns 44 2 u (b6 + 1) r4 (SField.L L4)
  o6 : GOwns 44 2 u c4 r6 (SField.L L6)
  i3 : ∀ k, r3.ownBlock = some k → k < b6
  i4 : ∀ k, r4.ownBlock = some k → k < c4
  i6 : ∀ k, r6.ownBlock = some k → k < b9
  lt : w.heap.size ≤ b6 ∧ b6 < c4 ∧ c4 ≤ b9
  bw : Below w.heap.size w u
section
variable {w u u' : World} {b6 c4 b9 : Nat} {qm qs qa qp : ByteArray} {r3 r4 r6 : Value} {X L4 L6 P : List SField}
theorem LQ.next (h : LQ w u b6 c4 b9 qm qs qa qp r3 r4 r6 X L4 L6) (hb : Below u.heap.size u u') : LQ w u' b6 c4 b9 qm qs qa qp r3 r4 r6 X L4 L6 :=
  ⟨(hb.block _ (Array.getElem?_eq_some_iff.1 h.k6).1).trans h.k6, (hb.block _ (Array.getElem?_eq_some_iff.1 h.k9).1).trans h.k9, h.o3.below hb, h.o4.below hb, h.o6.below hb, h.i3, h.i4, h.i6, h.lt, h.bw.trans (hb.mono h.bw.size)⟩
theorem LQ.mark4 (h : LQ w u b6 c4 b9 qm qs qa qp r3 r4 r6 X L4 L6) (c : ChgQ (oBQ r4) u u') (o : GOwns 44 2 u' (b6 + 1) r4 (SField.L P)) : LQ w u' b6 c4 b9 qm qs qa qp r3 r4 r6 X P L6 := by
  have hl := h.lt
  have n4 : ∀ k, oBQ r4 k → b6 < k ∧ k < c4 := fun k hk => ⟨(h.o4.ltFQ k hk).1, h.i4 k hk⟩
  refine ⟨(c.block _ (Array.getElem?_eq_some_iff.1 h.k6).1 (fun e => by have := n4 _ e; omega)).trans h.k6, (c.block _ (Array.getElem?_eq_some_iff.1 h.k9).1 (fun e => by have := n4 _ e; omega)).trans h.k9, h.o3.chgQ c (fun k hk e => by have := n4 _ e; have := h.i3 k hk; omega), o, h.o6.chgQ c (fun k hk e => by have := n4 _ e; have := (h.o6.ltFQ k hk).1; omega), h.i3, h.i4, h.i6, h.lt, ?_⟩
  exact h.bw.trans (c.below h.bw.size (fun k hk => by have := n4 _ hk; omega))
theorem LQ.mark6 (h : LQ w u b6 c4 b9 qm qs qa qp r3 r4 r6 X L4 L6) (c : ChgQ (oBQ r6) u u') (o : GOwns 44 2 u' c4 r6 (SField.L P)) : LQ w u' b6 c4 b9 qm qs qa qp r3 r4 r6 X L4 P := by
  have hl := h.lt
  have n6 : ∀ k, oBQ r6 k → c4 ≤ k ∧ k < b9 := fun k hk => ⟨(h.o6.ltFQ k hk).1, h.i6 k hk⟩
  refine ⟨(c.block _ (Array.getElem?_eq_some_iff.1 h.k6).1 (fun e => by have := n6 _ e; omega)).trans h.k6, (c.block _ (Array.getElem?_eq_some_iff.1 h.k9).1 (fun e => by have := n6 _ e; omega)).trans h.k9, h.o3.chgQ c (fun k hk e => by have := n6 _ e; have := h.i3 k hk; omega), h.o4.chgQ c (fun k hk e => by have := n6 _ e; have := h.i4 k hk; omega), o, h.i3, h.i4, h.i6, h.lt, ?_⟩
  exact h.bw.trans (c.below h.bw.size (fun k hk => by have := n6 _ hk; omega))
end
theorem rz_huge (v : Value) (L : List SField) (w : World) (h : GRow 2 w v (SField.L L)) (hm : L.length ≤ 9223372036854775807) (hf : fin L) (ho : 1048576 < (L.length : Int) + txs L) :
    Calls Tryd.prog 4 #[v] w fun e w' => e = .returned (.bool true) ∧ Below w.heap.size w w' := by
  have C := szFldS v L 1048576 (-1) w h hm (by decide) (by decide) hf (by rw [if_neg (by omega)])
  obtain ⟨ao, cp, rfl⟩ := frow_form h
  obtain ⟨n, en⟩ : ∃ n, n = L.length := ⟨_, rfl⟩
  rw [← en] at C ⊢
  have H : Hid _ := And.intro C True.intro
  clear C h hm hf ho en
  go_enter Tryd.func4, Tryd.ntmps4
  go_wp2_with (go_at_call 14; refine H.out.1.mono ?_; rintro e w2 ⟨rfl, b2⟩; have H2 : Hid _ := And.intro b2 True.intro; clear b2)
  go_ret
  exact ⟨rfl, H2.out.1⟩
theorem rzR_len (L : List SField) (hn : L.length ≤ 1048576) : (rzR L).fs.length ≤ 1048576 := by
  unfold rzR
  split
  · simp
  · split
    · simp
    · split
      · simp only [List.length_drop]; omega
      · simp
set_option maxRecDepth 20000 in
set_option maxHeartbeats 8000000 in
theorem rz_law (v : Value) (L : List SField) (w : World) (h : GRow 2 w v (SField.L L)) (hf : fin L) (ho : (L.length : Int) + txs L ≤ 1048576) :
    Calls Tryd.prog 4 #[v] w fun e w' => e = .returned (.bool true) ∧ Below w.heap.size w w' := by
  have hx := txs_nn L
  have hn : L.length ≤ 1048576 := by omega
  have ht : txs L ≤ 1048576 := by omega
  have C := szFldS v L 1048576 (1048576 - (L.length + txs L)) w h (by omega) (by decide) (by decide) hf (by rw [if_pos (by omega)])
  have DT : ∀ u, Below w.heap.size w u → Calls Tryd.prog 16 #[v] u fun e w' => ∃ r, e = .returned r ∧ GOwns 44 2 w' u.heap.size r (SField.L L) ∧ Below u.heap.size u w' := fun u hb => toFieldS v L u (h.below hb) hn
  have DS : ∀ u r b, GOwns 44 2 u b r (SField.L L) → _ := fun u r b o => rzS r b L u o hn hf
  have DI : ∀ u r b, GOwns 44 2 u b r (SField.L L) → _ := fun u r b o => rzI r b L u o hn hf ht
  have DL : ∀ u r r', GRow 2 u r (SField.L L) → GRow 2 u r' (SField.L L) → _ := fun u r r' h1 h2 => eqFieldS r r' L u h1 h2 hn
  have hnX := rzR_len L hn
  obtain ⟨R, eR⟩ : ∃ R, R = 1048576 - ((L.length : Int) + txs L) := ⟨_, rfl⟩
  have r0 : 0 ≤ R := by omega
  rw [← eR] at C
  obtain ⟨K, eK⟩ : ∃ K, K = rzR L := ⟨_, rfl⟩
  rw [← eK] at DS DI hnX
  obtain ⟨⟨qm, qs, qa, qp⟩, X, code⟩ := K
  simp only at DS DI hnX
  have DX : ∀ u r r', GRow 2 u r (SField.L X) → GRow 2 u r' (SField.L X) → _ := fun u r r' h1 h2 => eqReq qm qs qa qp r r' X u h1 h2 hnX
  have DM4 : ∀ (u : World) (r : Value) (b : Nat), GOwns 44 2 u b r (SField.L L) → _ := fun u r b o => markFQ r L b 1 u o hn (by decide) (by decide)
  have DM6 : ∀ (u : World) (r : Value) (b : Nat), GOwns 44 2 u b r (SField.L X) → _ := fun u r b o => markReqP qm qs qa qp r X b u o hnX
  have DH : ∀ (u : World) (r : Value) (b : Nat) (P : List SField), GOwns 44 2 u b r (SField.L P) → MPQ P 1 X.length X.length → _ := fun u r b P o hP => heldReq qm qs qa qp r P X.length b u o hP hnX
  have FF : Hid (∀ (u : World) (b : Nat) (r : Value), GOwns 44 2 u b r (SField.L L) → ∃ ao cp, r = .slice ao L.length cp) := fun u b r ho => frow_form ho.row
  have FX : Hid (∀ (u : World) (b : Nat) (r : Value), GOwns 44 2 u b r (SField.L X) → ∃ ao cp, r = .slice ao X.length cp) := fun u b r ho => frow_form ho.row
  obtain ⟨ao, cp, rfl⟩ := frow_form h
  obtain ⟨n, en⟩ : ∃ n, n = L.length := ⟨_, rfl⟩
  obtain ⟨m, em⟩ : ∃ m, m = X.length := ⟨_, rfl⟩
  have H : Hid _ := And.intro C (And.intro DT (And.intro DS (And.intro DI (And.intro DL DX))))
  have G : Hid _ := And.intro DM4 (And.intro DM6 DH)
  rw [← en] at H FF G ⊢
  rw [← em] at FX G
  clear C DT DS DI DL DX DM4 DM6 DH h hf ho hn ht hx eR eK en hnX em
  have hk : (code != code) = false := by simp
  obtain ⟨k4, e4⟩ : ∃ k4 : Int, k4 = 1 + 2 * (n : Int) := ⟨_, rfl⟩
  obtain ⟨k6, e6⟩ : ∃ k6 : Int, k6 = 1 + 2 * (m : Int) := ⟨_, rfl⟩
  have p4 : 0 ≤ k4 := by omega
  have p6 : 0 ≤ k6 := by omega
  have q6 : (k6 != k6) = false := by simp
  rw [← e4, ← e6] at G
  clear e4 e6
  unfold qV at *
  go_enter Tryd.func4, Tryd.ntmps4
  go_wp2_with fail
  go_at_call 14
  refine H.out.1.mono ?_
  rintro e w1 ⟨rfl, b1⟩
  have H1 : Hid _ := b1
  clear b1
  go_wp2_with fail
  go_at_call 16
  refine (H.out.2.1 w1 H1.out).mono ?_
  rintro e w2 ⟨r2, rfl, o2, b2⟩
  obtain ⟨ra2, rc2, er2⟩ := FF.out _ _ _ o2
  subst er2
  have H2 : Hid _ := And.intro (H1.out.trans (b2.mono H1.out.size)) o2
  clear b2 o2
  go_wp2_with fail
  go_at_call 15
  refine (H.out.2.2.1 w2 _ _ H2.out.2).mono ?_
  rintro e w3 ⟨r3, rfl, o3, b3⟩
  obtain ⟨ra3, rc3, er3⟩ := FX.out _ _ _ o3
  subst er3
  have a3 := (Below.refl w3.heap.size w3).alloc (Nat.le_refl _) (.cells #[.string qm, .string qs, .string qa, .string qp, .slice ra3 m rc3] 30)
  have A3 := H2.out.1.trans (b3.mono H2.out.1.size)
  have K3 := heap_alloc_new w3 (.cells #[.string qm, .string qs, .string qa, .string qp, .slice ra3 m rc3] 30)
  have z3 : (w3.alloc (.cells #[.string qm, .string qs, .string qa, .string qp, .slice ra3 m rc3] 30)).heap.size = w3.heap.size + 1 := by simp
  have i3 := fun k hk => (o3.ltFQ k hk).2
  have H3 : Hid _ := And.intro (A3.trans (a3.mono A3.size)) (And.intro K3 (And.intro ((o3.mono (base' := w.heap.size) H2.out.1.size).below a3) (And.intro i3 (And.intro z3 A3.size))))
  clear A3 b3 o3 i3 K3 a3 z3
  go_wp2_with fail
  go_at_call 16
  refine (H.out.2.1 _ H3.out.1).mono ?_
  rintro e w4 ⟨r4, rfl, o4, b4⟩
  obtain ⟨ra4, rc4, er4⟩ := FF.out _ _ _ o4
  subst er4
  have i4 := fun k hk => (o4.ltFQ k hk).2
  have K4 := (b4.block w3.heap.size (by rw [H3.out.2.2.2.2.1]; omega)).trans H3.out.2.1
  have A4 := H3.out.1.trans (b4.mono H3.out.1.size)
  have z4 : w3.heap.size < w4.heap.size := by have := b4.size; rw [H3.out.2.2.2.2.1] at this; omega
  have o4' := o4.mono (base' := w3.heap.size + 1) (by rw [H3.out.2.2.2.2.1]; exact Nat.le_refl _)
  have H4 : Hid _ := And.intro A4 (And.intro K4 (And.intro (H3.out.2.2.1.below b4) (And.intro o4' (And.intro i4 z4))))
  clear b4 o4 o4' A4 K4 i4 z4
  go_wp2_with fail
  go_at_call 17
  refine (H.out.2.2.2.1 w4 _ _ H4.out.2.2.2.1).mono ?_
  rintro e w5 ⟨r6, rfl, o6, b5⟩
  obtain ⟨ra6, rc6, er6⟩ := FX.out _ _ _ o6
  subst er6
  have a5 := (Below.refl w5.heap.size w5).alloc (Nat.le_refl _) (.cells #[.string qm, .string qs, .string qa, .string qp, .slice ra6 m rc6] 30)
  have K6 : (w5.alloc (.cells #[.string qm, .string qs, .string qa, .string qp, .slice ra6 m rc6] 30)).heap[w3.heap.size]? = some (.cells #[.string qm, .string qs, .string qa, .string qp, .slice ra3 m rc3] 30 (0, 0)) := (a5.block _ (by have := b5.size; have := H4.out.2.2.2.2.2; omega)).trans ((b5.block _ H4.out.2.2.2.2.2).trans H4.out.2.1)
  have A5 := H4.out.1.trans (b5.mono H4.out.1.size)
  have LL : LQ w (w5.alloc (.cells #[.string qm, .string qs, .string qa, .string qp, .slice ra6 m rc6] 30)) w3.heap.size w4.heap.size w5.heap.size qm qs qa qp (.slice ra3 m rc3) (.slice ra4 n rc4) (.slice ra6 m rc6) X L X :=
    ⟨K6, heap_alloc_new _ _, (H4.out.2.2.1.below b5).below a5, (H4.out.2.2.2.1.below b5).below a5, o6.below a5, H3.out.2.2.2.1, H4.out.2.2.2.2.1, fun k hk => (o6.ltFQ k hk).2, ⟨H3.out.2.2.2.2.2, H4.out.2.2.2.2.2, b5.size⟩, A5.trans (a5.mono A5.size)⟩
  obtain ⟨d0, d1, d2, d3, d4⟩ := rb5Z K6
  have c6 : w3.heap.size < w5.heap.size := by have := b5.size; have := H4.out.2.2.2.2.2; omega
  obtain ⟨g0, g1, g2, g3, g4⟩ := rb5Z ((b5.block _ H4.out.2.2.2.2.2).trans H4.out.2.1)
  have HL : Hid _ := LL
  clear LL b5 o6 a5 K6 A5
  go_wp2_with fail
  go_at_call 10
  refine (H.out.2.2.2.2.2 _ _ _ HL.out.o6.row HL.out.o3.row).mono ?_
  rintro e w7 ⟨rfl, b7⟩
  have H7 : Hid _ := HL.out.next b7
  clear b7 d0 d1 d2 d3 d4 g0 g1 g2 g3 g4 c6
  go_wp2_with fail
  go_at_call 16
  refine (H.out.2.1 _ H7.out.bw).mono ?_
  rintro e w8 ⟨r8, rfl, o8, b8⟩
  obtain ⟨ra8, rc8, er8⟩ := FF.out _ _ _ o8
  subst er8
  have H8 : Hid _ := And.intro (H7.out.next b8) o8.row
  clear b8 o8
  go_wp2_with fail
  go_at_call 9
  refine (H.out.2.2.2.2.1 _ _ _ H8.out.1.o4.row H8.out.2).mono ?_
  rintro e w9 ⟨rfl, b9⟩
  have H9 : Hid _ := H8.out.1.next b9
  clear b9
  go_wp2_with fail
  go_at_call 12
  refine (G.out.1 _ _ _ H9.out.o4).mono ?_
  rintro e w10 ⟨rfl, ⟨P4, mp4, o10⟩, c10⟩
  have L10 := H9.out.mark4 c10 o10
  clear c10 o10 mp4
  obtain ⟨d0, d1, d2, d3, d4⟩ := rb5Z L10.k6
  obtain ⟨e0, e1, e2, e3, e4⟩ := rb5Z L10.k9
  have H10 : Hid _ := L10
  clear L10
  go_wp2_with fail
  go_at_call 10
  refine (H.out.2.2.2.2.2 _ _ _ H10.out.o6.row H10.out.o3.row).mono ?_
  rintro e w11 ⟨rfl, b11⟩
  have L11 := H10.out.next b11
  clear b11 d0 d1 d2 d3 d4 e0 e1 e2 e3 e4
  obtain ⟨e0, e1, e2, e3, e4⟩ := rb5Z L11.k9
  have H11 : Hid _ := L11
  clear L11
  go_wp2_with fail
  go_at_call 11
  refine (G.out.2.1 _ _ _ H11.out.o6).mono ?_
  rintro e w12 ⟨rfl, ⟨P6, mp6, o12⟩, c12⟩
  have L12 := H11.out.mark6 c12 o12
  clear c12 o12 e0 e1 e2 e3 e4
  obtain ⟨e0, e1, e2, e3, e4⟩ := rb5Z L12.k9
  have H12 : Hid _ := And.intro L12 mp6
  clear L12 mp6
  go_wp2_with fail
  go_at_call 18
  refine (G.out.2.2 _ _ _ _ H12.out.1.o6 H12.out.2).mono ?_
  rintro e w13 ⟨rfl, b13⟩
  have H13 : Hid _ := H12.out.1.next b13
  clear b13 e0 e1 e2 e3 e4
  go_wp2_with fail
  go_at_call 16
  refine (H.out.2.1 _ H13.out.bw).mono ?_
  rintro e w14 ⟨r14, rfl, o14, b14⟩
  obtain ⟨ra14, rc14, er14⟩ := FF.out _ _ _ o14
  subst er14
  have H14 : Hid _ := And.intro (H13.out.next b14) o14
  clear b14 o14
  go_wp2_with fail
  go_at_call 17
  refine (H.out.2.2.2.1 _ _ _ H14.out.2).mono ?_
  rintro e w15 ⟨r15, rfl, o15, b15⟩
  obtain ⟨ra15, rc15, er15⟩ := FX.out _ _ _ o15
  subst er15
  have a15 := (Below.refl w15.heap.size w15).alloc (Nat.le_refl _) (.cells #[.string qm, .string qs, .string qa, .string qp, .slice ra15 m rc15] 30)
  have L15 := H14.out.1.next b15
  obtain ⟨d0, d1, d2, d3, d4⟩ := rb5Z L15.k6
  have z6 : w3.heap.size < w15.heap.size := (Array.getElem?_eq_some_iff.1 L15.k6).1
  have z7 : w5.heap.size < w15.heap.size := (Array.getElem?_eq_some_iff.1 L15.k9).1
  have H15 : Hid _ := And.intro (L15.next a15) (o15.row.below a15)
  clear L15 b15 o15 a15
  go_wp2_with fail
  go_at_call 10
  refine (H.out.2.2.2.2.2 _ _ _ H15.out.2 H15.out.1.o3.row).mono ?_
  rintro e w16 ⟨rfl, b16⟩
  have L16 := H15.out.1.next b16
  clear b16 d0 d1 d2 d3 d4
  obtain ⟨e0, e1, e2, e3, e4⟩ := rb5Z L16.k9
  have H16 : Hid _ := L16
  clear L16
  go_wp2_with fail
  go_at_call 18
  refine (G.out.2.2 _ _ _ _ H16.out.o6 H12.out.2).mono ?_
  rintro e w17 ⟨rfl, b17⟩
  have H17 : Hid _ := (H16.out.next b17).bw
  clear b17 e0 e1 e2 e3 e4
  go_wp2
  go_ret
  exact ⟨rfl, H17.out⟩
theorem fnExactRequestOf_walk (v : Value) (L : List SField) (hl : L.length ≤ maxLen) (hf : fin L) (w : World) (h : GRow 2 w v (SField.L L)) :
    Calls Tryd.prog 4 #[v] w fun e w' => e = .returned (.bool true) ∧ Below w.heap.size w w' := by
  by_cases ho : (L.length : Int) + txs L ≤ 1048576
  · exact rz_law v L w h hf ho
  · exact rz_huge v L w h (by unfold maxLen at hl; omega) hf (by omega)
end Go.Proofs.YtdjflbanbhhniaaDoor
