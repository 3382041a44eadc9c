import Derived.Test.YtdjflbanbhhniaaDoorRqE
import Derived.Test.YtdjflbanbhhniaaDoorRqD
import Derived.Deep.CutRange
namespace Go.Proofs.YtdjflbanbhhniaaDoor
open Go.RowKit
set_option linter.unusedVariables false

/-- What the law holds: the argument, the model's answer, what was handed in, the program's answer. -/
structure LRr (w u : World) (c3 b8 : Nat) (qm qs qa qp : ByteArray) (s r3 r4 r6 : Value) (X L4 L6 : List SField) : Prop where
  k2 : u.heap[w.heap.size]? = some (.cells #[.string qm, .string qs, .string qa, .string qp, s] 24 (0, 0))
  k8 : u.heap[b8]? = some (.cells #[.string qm, .string qs, .string qa, .string qp, r4] 30 (0, 0))
  o3 : GOwns 44 2 u (w.heap.size + 1) r3 (SField.L X)
  o4 : GOwns 44 2 u c3 r4 (SField.L L4)
  o6 : GOwns 44 2 u (b8 + 1) r6 (SField.L L6)
  i3 : ∀ k, r3.ownBlock = some k → k < c3
  i4 : ∀ k, r4.ownBlock = some k → k < b8
  lt : w.heap.size < c3 ∧ c3 ≤ b8
  bw : Below w.heap.size w u
theorem LRr.sz {w u : World} {c3 b8 : Nat} {qm qs qa qp : ByteArray} {s r3 r4 r6 : Value} {X L4 L6 : List SField} (h : LRr w u c3 b8 qm qs qa qp s r3 r4 r6 X L4 L6) : b8 < u.heap.size := (Array.getElem?_eq_some_iff.1 h.k8).1
theorem LRr.next {w u u' : World} {c3 b8 : Nat} {qm qs qa qp : ByteArray} {s r3 r4 r6 : Value} {X L4 L6 : List SField} (h : LRr w u c3 b8 qm qs qa qp s r3 r4 r6 X L4 L6) (hb : Below u.heap.size u u') : LRr w u' c3 b8 qm qs qa qp s r3 r4 r6 X L4 L6 := by
  have := h.sz
  have := h.lt
  exact ⟨(hb.block _ (by omega)).trans h.k2, (hb.block _ (by omega)).trans h.k8, h.o3.below hb, h.o4.below hb, h.o6.below hb, h.i3, h.i4, h.lt, h.bw.trans (hb.mono h.bw.size)⟩
/-- Behind the marks in what was handed in its row is not read again. -/
structure LQr (w u : World) (b8 : Nat) (qm qs qa qp : ByteArray) (s r3 r6 : Value) (X L6 : List SField) : Prop where
  k2 : u.heap[w.heap.size]? = some (.cells #[.string qm, .string qs, .string qa, .string qp, s] 24 (0, 0))
  o3 : GOwns 44 2 u (w.heap.size + 1) r3 (SField.L X)
  o6 : GOwns 44 2 u (b8 + 1) r6 (SField.L L6)
  i3 : ∀ k, r3.ownBlock = some k → k < b8
  lt : w.heap.size < b8 ∧ b8 < u.heap.size
  bw : Below w.heap.size w u
theorem LRr.mark4 {w u u' : World} {c3 b8 : Nat} {qm qs qa qp : ByteArray} {s r3 r4 r6 : Value} {X L4 L6 : List SField} (h : LRr w u c3 b8 qm qs qa qp s r3 r4 r6 X L4 L6) (c : ChgQ (oBQ r4) u u') : LQr w u' b8 qm qs qa qp s r3 r6 X L6 := by
  have hs := h.sz
  have hl := h.lt
  have n4 : ∀ k, oBQ r4 k → c3 ≤ k ∧ k < b8 := fun k hk => ⟨(h.o4.ltFQ k hk).1, h.i4 k hk⟩
  refine ⟨(c.block _ (by omega) (fun e => by have := n4 _ e; omega)).trans h.k2, h.o3.chgQ c (fun k hk e => by have := n4 _ e; have := h.i3 k hk; omega), h.o6.chgQ c (fun k hk e => by have := n4 _ e; have := (h.o6.ltFQ k hk).1; omega), fun k hk => by have := h.i3 k hk; omega, ⟨by omega, Nat.lt_of_lt_of_le hs c.size⟩, ?_⟩
  exact h.bw.trans (c.below h.bw.size (fun k hk => by have := n4 _ hk; omega))
theorem LQr.next {w u u' : World} {b8 : Nat} {qm qs qa qp : ByteArray} {s r3 r6 : Value} {X L6 : List SField} (h : LQr w u b8 qm qs qa qp s r3 r6 X L6) (hb : Below u.heap.size u u') : LQr w u' b8 qm qs qa qp s r3 r6 X L6 := by
  have := h.lt
  exact ⟨(hb.block _ (by omega)).trans h.k2, h.o3.below hb, h.o6.below hb, h.i3, ⟨by omega, Nat.lt_of_lt_of_le this.2 hb.size⟩, h.bw.trans (hb.mono h.bw.size)⟩
theorem LQr.mark6 {w u u' : World} {b8 : Nat} {qm qs qa qp : ByteArray} {s r3 r6 : Value} {X L6 P : List SField} (h : LQr w u b8 qm qs qa qp s r3 r6 X L6) (c : ChgQ (oBQ r6) u u') (o : GOwns 44 2 u' (b8 + 1) r6 (SField.L P)) : LQr w u' b8 qm qs qa qp s r3 r6 X P := by
  have hl := h.lt
  have n6 : ∀ k, oBQ r6 k → b8 < k := fun k hk => (h.o6.ltFQ k hk).1
  refine ⟨(c.block _ (by omega) (fun e => by have := n6 _ e; omega)).trans h.k2, h.o3.chgQ c (fun k hk e => by have := n6 _ e; have := h.i3 k hk; omega), o, h.i3, ⟨by omega, Nat.lt_of_lt_of_le hl.2 c.size⟩, ?_⟩
  exact h.bw.trans (c.below h.bw.size (fun k hk => by have := n6 _ hk; omega))
theorem rb5 {u : World} {b : Nat} {x0 x1 x2 x3 : ByteArray} {s : Value} {T : TypeId} (h : u.heap[b]? = some (.cells #[.string x0, .string x1, .string x2, .string x3, s] T (0, 0))) : u.cell? ⟨b, 0, none⟩ = some (.string x0) ∧ u.cell? ⟨b, 1, none⟩ = some (.string x1) ∧ u.cell? ⟨b, 2, none⟩ = some (.string x2) ∧ u.cell? ⟨b, 3, none⟩ = some (.string x3) ∧ u.cell? ⟨b, 4, none⟩ = some s :=
  ⟨by rw [bk_cell h]; rfl, by rw [bk_cell h]; rfl, by rw [bk_cell h]; rfl, by rw [bk_cell h]; rfl, by rw [bk_cell h]; rfl⟩
theorem rq_huge (qm qs qa qp : ByteArray) (s : Value) (L : List SField) (w : World) (h : GRow 2 w s (SField.L L)) (hm : L.length ≤ 9223372036854775807) (hf : fin L) (z0 : qm.size ≤ 9223372036854775807) (z1 : qs.size ≤ 9223372036854775807) (z2 : qa.size ≤ 9223372036854775807) (z3 : qp.size ≤ 9223372036854775807) (ho : 1048576 < qT qm qs qa qp + (L.length + txs L)) :
    Calls Tryd.prog 3 #[qV qm qs qa qp s] w fun e w' => e = .returned (.bool true) ∧ Below w.heap.size w w' := by
  have b0 : Below w.heap.size w (w.alloc (.cells #[.string qm, .string qs, .string qa, .string qp, s] 24)) := (Below.refl _ _).alloc (Nat.le_refl _) _
  have C := szReq qm qs qa qp s L 1048576 (-1) _ (h.below b0) hm (by decide) (by decide) hf z0 z1 z2 z3 (by rw [if_neg (by omega)])
  obtain ⟨ao, cp, rfl⟩ := frow_form h
  obtain ⟨n, en⟩ : ∃ n, n = L.length := ⟨_, rfl⟩
  rw [← en] at C b0 ⊢
  have H : Hid _ := And.intro C b0
  clear C b0 h hm hf ho en z0 z1 z2 z3
  unfold qV at *
  go_enter Tryd.func3, Tryd.ntmps3
  go_wp2_with (go_at_call 5; refine H.out.1.mono ?_; rintro e w2 ⟨rfl, b2⟩; have H2 : Hid _ := And.intro (H.out.2.trans (b2.mono H.out.2.size)) True.intro; clear b2)
  go_ret
  exact ⟨rfl, H2.out.1⟩
theorem rqR_len (qm qs qa qp : ByteArray) (L : List SField) (hn : L.length ≤ 1000000) : (rqR qm qs qa qp L).1.length ≤ 1048576 := by
  unfold rqR rqH
  split
  · split <;> simp <;> omega
  · simp
set_option maxRecDepth 20000 in
set_option maxHeartbeats 8000000 in
theorem rq_law (qm qs qa qp : ByteArray) (s : Value) (L : List SField) (w : World) (h : GRow 2 w s (SField.L L)) (hf : fin L) (z0 : qm.size ≤ 9223372036854775807) (z1 : qs.size ≤ 9223372036854775807) (z2 : qa.size ≤ 9223372036854775807) (z3 : qp.size ≤ 9223372036854775807) (ho : qT qm qs qa qp + (L.length + txs L) ≤ 1048576) :
    Calls Tryd.prog 3 #[qV qm qs qa qp s] w fun e w' => e = .returned (.bool true) ∧ Below w.heap.size w w' := by
  have hq : qT qm qs qa qp = (qm.size : Int) + qs.size + qa.size + qp.size := rfl
  have hx := txs_nn L
  have hn : L.length ≤ 1048576 := by omega
  have ht : txs L ≤ 1048576 := by omega
  have A0 : Below w.heap.size w (w.alloc (.cells #[.string qm, .string qs, .string qa, .string qp, s] 24)) := (Below.refl _ _).alloc (Nat.le_refl _) _
  have K0 := (MapKept.heap_alloc w (.cells #[.string qm, .string qs, .string qa, .string qp, s] 24)).1
  have C := szReq qm qs qa qp s L 1048576 (1048576 - (qT qm qs qa qp + (L.length + txs L))) _ (h.below A0) (by omega) (by decide) (by decide) hf z0 z1 z2 z3 (by rw [if_pos (by omega)])
  have DT : ∀ u, Below w.heap.size w u → Calls Tryd.prog 7 #[qV qm qs qa qp s] u fun e w' => ∃ r, e = .returned (qV qm qs qa qp r) ∧ GOwns 44 2 w' u.heap.size r (SField.L L) ∧ Below u.heap.size u w' := fun u hb => toReq qm qs qa qp s L u (h.below hb) hn
  have DS : ∀ u r, GRow 2 u r (SField.L L) → _ := fun u r hr => rqfS qm qs qa qp r L u hr hn hf z0 z1 z2 z3
  have DI : ∀ u r, Below w.heap.size w u → GRow 2 u r (SField.L L) → _ := fun u r hb hr => rqfI qm qs qa qp r L u hr hn hf (by omega) (by omega) (by omega) (by omega) ht
  have DE : ∀ u r r', GRow 2 u r (SField.L L) → GRow 2 u r' (SField.L L) → _ := fun u r r' h1 h2 => eqReq qm qs qa qp r r' L u h1 h2 hn
  have hnX : (rqR qm qs qa qp L).1.length ≤ 1048576 := by
    by_cases hK : rqOK qm qs qa qp L = true
    · have : L.length ≤ 60 := by
        unfold rqOK mfOK at hK
        simp only [Bool.and_eq_true, decide_eq_true_eq] at hK
        exact hK.2.1
      exact rqR_len qm qs qa qp L (by omega)
    · unfold rqR; rw [if_neg hK]; simp
  obtain ⟨R, eR⟩ : ∃ R, R = 1048576 - (qT qm qs qa qp + ((L.length : Int) + txs L)) := ⟨_, rfl⟩
  have r0 : 0 ≤ R := by omega
  rw [← eR] at C
  obtain ⟨K, eK⟩ : ∃ K, K = rqR qm qs qa qp L := ⟨_, rfl⟩
  rw [← eK] at DS DI hnX
  obtain ⟨X, code⟩ := K
  simp only at DS DI hnX
  have DX : ∀ u r r', GRow 2 u r (SField.L X) → GRow 2 u r' (SField.L X) → _ := fun u r r' h1 h2 => eqFieldS r r' X u h1 h2 hnX
  have DM4 : ∀ (u : World) (r : Value) (b : Nat), GOwns 44 2 u b r (SField.L L) → _ := fun u r b o => markReq qm qs qa qp r L b u o hn
  have DM6 : ∀ (u : World) (r : Value) (b : Nat), GOwns 44 2 u b r (SField.L X) → _ := fun u r b o => markFQ r X b 1 u o hnX (by decide) (by decide)
  have DH : ∀ (u : World) (r : Value) (b : Nat) (P : List SField), GOwns 44 2 u b r (SField.L P) → MPQ P 1 X.length X.length → _ := fun u r b P o hP => heldFQ r P X.length b 1 u o hP hnX (by decide) (by decide)
  have FF : Hid (∀ (u : World) (b : Nat) (r : Value), GOwns 44 2 u b r (SField.L L) → ∃ ao cp, r = .slice ao L.length cp) := fun u b r ho => frow_form ho.row
  have FX : Hid (∀ (u : World) (b : Nat) (r : Value), GOwns 44 2 u b r (SField.L X) → ∃ ao cp, r = .slice ao X.length cp) := fun u b r ho => frow_form ho.row
  obtain ⟨ao, cp, rfl⟩ := frow_form h
  obtain ⟨n, en⟩ : ∃ n, n = L.length := ⟨_, rfl⟩
  obtain ⟨m, em⟩ : ∃ m, m = X.length := ⟨_, rfl⟩
  have H : Hid _ := And.intro C (And.intro (And.intro A0 K0) (And.intro DT (And.intro DS (And.intro DI (And.intro DE DX)))))
  have G : Hid _ := And.intro DM4 (And.intro DM6 DH)
  rw [← en] at H FF G ⊢
  rw [← em] at FX G
  clear C A0 K0 DT DS DI DE DX DM4 DM6 DH h hf ho hn ht eR eK en hnX em z0 z1 z2 z3 hq hx
  have hk : (code != code) = false := by simp
  obtain ⟨k4, e4⟩ : ∃ k4 : Int, k4 = 1 + 2 * (n : Int) := ⟨_, rfl⟩
  obtain ⟨k6, e6⟩ : ∃ k6 : Int, k6 = 1 + 2 * (m : Int) := ⟨_, rfl⟩
  have p4 : 0 ≤ k4 := by omega
  have p6 : 0 ≤ k6 := by omega
  have q6 : (k6 != k6) = false := by simp
  rw [← e4, ← e6] at G
  clear e4 e6
  unfold qV at *
  go_enter Tryd.func3, Tryd.ntmps3
  go_wp2_with fail
  go_at_call 5
  refine H.out.1.mono ?_
  rintro e w1 ⟨rfl, b1⟩
  have A1 := H.out.2.1.1.trans (b1.mono H.out.2.1.1.size)
  have K1 := (b1.block w.heap.size (by simp)).trans H.out.2.1.2
  obtain ⟨d0, d1, d2, d3, d4⟩ := rb5 K1
  have H1 : Hid _ := And.intro A1 K1
  clear A1 K1 b1
  go_wp2_with fail
  go_at_call 7
  refine (H.out.2.2.1 w1 H1.out.1).mono ?_
  rintro e w2 ⟨r2, rfl, o2, b2⟩
  obtain ⟨ra2, rc2, er2⟩ := FF.out _ _ _ o2
  subst er2
  have z1 : w.heap.size < w1.heap.size := (Array.getElem?_eq_some_iff.1 H1.out.2).1
  have K2 := (b2.block w.heap.size z1).trans H1.out.2
  have H2 : Hid _ := And.intro (H1.out.1.trans (b2.mono H1.out.1.size)) (And.intro K2 o2.row)
  clear b2 o2 K2 d0 d1 d2 d3 d4
  go_wp2_with fail
  go_at_call 6
  refine (H.out.2.2.2.1 w2 _ H2.out.2.2).mono ?_
  rintro e w3 ⟨r3, rfl, o3, b3⟩
  obtain ⟨ra3, rc3, er3⟩ := FX.out _ _ _ o3
  subst er3
  have z2 : w.heap.size < w2.heap.size := (Array.getElem?_eq_some_iff.1 H2.out.2.1).1
  have K3 := (b3.block w.heap.size z2).trans H2.out.2.1
  obtain ⟨d0, d1, d2, d3, d4⟩ := rb5 K3
  have A3 := H2.out.1.trans (b3.mono H2.out.1.size)
  have i3 := fun k hk => (o3.ltFQ k hk).2
  have z3 : w.heap.size < w3.heap.size := (Array.getElem?_eq_some_iff.1 K3).1
  have H3 : Hid _ := And.intro A3 (And.intro K3 (And.intro (o3.mono (base' := w.heap.size + 1) (by omega)) (And.intro i3 z3)))
  clear A3 b3 o3 i3 K3 z1 z2 z3
  go_wp2_with fail
  go_at_call 7
  refine (H.out.2.2.1 _ H3.out.1).mono ?_
  rintro e w4 ⟨r4, rfl, o4, b4⟩
  obtain ⟨ra4, rc4, er4⟩ := FF.out _ _ _ o4
  subst er4
  have a4 := (Below.refl w4.heap.size w4).alloc (Nat.le_refl _) (.cells #[.string qm, .string qs, .string qa, .string qp, .slice ra4 n rc4] 30)
  have i4 := fun k hk => (o4.ltFQ k hk).2
  have K4 := (a4.block w.heap.size (by have := b4.size; have := H3.out.2.2.2.2; omega)).trans ((b4.block w.heap.size H3.out.2.2.2.2).trans H3.out.2.1)
  have J4 := (MapKept.heap_alloc w4 (.cells #[.string qm, .string qs, .string qa, .string qp, .slice ra4 n rc4] 30)).1
  have A4 := (H3.out.1.trans (b4.mono H3.out.1.size))
  have A5 := A4.trans (a4.mono A4.size)
  have H5 : Hid _ := And.intro A5 (And.intro K4 (And.intro J4 (And.intro ((H3.out.2.2.1.below b4).below a4) (And.intro (o4.below a4) (And.intro i4 b4.size)))))
  clear b4 o4 a4 A4 A5 K4 J4 i4 d0 d1 d2 d3 d4
  go_wp2_with fail
  go_at_call 8
  refine (H.out.2.2.2.2.1 _ _ H5.out.1 H5.out.2.2.2.2.1.row).mono ?_
  rintro e w6 ⟨r6, rfl, o6, b6⟩
  obtain ⟨ra6, rc6, er6⟩ := FX.out _ _ _ o6
  subst er6
  have LL : LRr w w6 w3.heap.size w4.heap.size qm qs qa qp (.slice ao n cp) (.slice ra3 m rc3) (.slice ra4 n rc4) (.slice ra6 m rc6) X L X :=
    ⟨(b6.block _ (by have := H5.out.2.2.2.2.2.2; have := H3.out.2.2.2.2; simp; omega)).trans H5.out.2.1, (b6.block _ (by simp)).trans H5.out.2.2.1, H5.out.2.2.2.1.below b6, H5.out.2.2.2.2.1.below b6, o6.mono (by simp), H3.out.2.2.2.1, H5.out.2.2.2.2.2.1, ⟨H3.out.2.2.2.2, H5.out.2.2.2.2.2.2⟩, H5.out.1.trans (b6.mono H5.out.1.size)⟩
  have HL : Hid _ := And.intro LL True.intro
  clear LL b6 o6
  go_wp2_with fail
  go_at_call 9
  refine (H.out.2.2.2.2.2.2 _ _ _ HL.out.1.o6.row HL.out.1.o3.row).mono ?_
  rintro e w7 ⟨rfl, b7⟩
  have L7 := (HL.out.1.next b7).next (drew_belowQ w7)
  clear b7
  obtain ⟨d0, d1, d2, d3, d4⟩ := rb5 L7.k2
  obtain ⟨e0, e1, e2, e3, e4⟩ := rb5 L7.k8
  have H7 : Hid _ := And.intro L7 True.intro
  clear L7
  go_wp2_with fail
  go_cut [45] from 41 to 45 (fun b wx => b = .bool false ∧ LRr w wx w3.heap.size w4.heap.size qm qs qa qp (.slice ao n cp) (.slice ra3 m rc3) (.slice ra4 n rc4) (.slice ra6 m rc6) X L X)
  case first =>
    go_region_with (first
      | (go_at_call 7; refine (H.out.2.2.1 w7.drew H7.out.1.bw).mono ?_; rintro e w8 ⟨r8, rfl, o8, b8⟩; obtain ⟨ra8, rc8, er8⟩ := FF.out _ _ _ o8; subst er8; obtain ⟨e0', e1', e2', e3', e4'⟩ := rb5 (H7.out.1.next b8).k8; have H8 : Hid _ := And.intro (H7.out.1.next b8) o8.row; clear b8 o8)
      | (go_at_call 10; refine (H.out.2.2.2.2.2.1 _ _ _ H8.out.1.o4.row H8.out.2).mono ?_; rintro e w9 ⟨rfl, b9⟩; have H9 : Hid _ := And.intro (H8.out.1.next b9) True.intro; clear b9))
    all_goals
      go_simp
      go_wp2_with fail
      go_meet
      exact ⟨rfl, H9.out.1⟩
  case rest =>
    obtain ⟨rfl, hl⟩ := hcut
    rename World => wx
    clear d0 d1 d2 d3 d4 e0 e1 e2 e3 e4
    obtain ⟨e0, e1, e2, e3, e4⟩ := rb5 hl.k8
    have H9 : Hid _ := And.intro hl True.intro
    clear hl
    go_wp2_with fail
    go_at_call 11
    refine (G.out.1 _ _ _ H9.out.1.o4).mono ?_
    rintro e w10 ⟨rfl, c10⟩
    have H10 : Hid _ := And.intro (H9.out.1.mark4 c10) True.intro
    clear c10 e0 e1 e2 e3 e4
    go_wp2_with fail
    go_at_call 9
    refine (H.out.2.2.2.2.2.2 _ _ _ H10.out.1.o6.row H10.out.1.o3.row).mono ?_
    rintro e w11 ⟨rfl, b11⟩
    have H11 : Hid _ := And.intro (H10.out.1.next b11) True.intro
    clear b11
    go_wp2_with fail
    go_at_call 12
    refine (G.out.2.1 _ _ _ H11.out.1.o6).mono ?_
    rintro e w12 ⟨rfl, ⟨P6, mp6, o12⟩, c12⟩
    have H12 : Hid _ := And.intro (H11.out.1.mark6 c12 o12) mp6
    clear c12 o12 mp6
    go_wp2_with fail
    go_at_call 13
    refine (G.out.2.2 _ _ _ _ H12.out.1.o6 H12.out.2).mono ?_
    rintro e w13 ⟨rfl, b13⟩
    have L13 := H12.out.1.next b13
    clear b13
    obtain ⟨d0, d1, d2, d3, d4⟩ := rb5 L13.k2
    have H13 : Hid _ := And.intro L13 True.intro
    clear L13
    go_wp2_with fail
    go_at_call 7
    refine (H.out.2.2.1 _ H13.out.1.bw).mono ?_
    rintro e w14 ⟨r14, rfl, o14, b14⟩
    obtain ⟨ra14, rc14, er14⟩ := FF.out _ _ _ o14
    subst er14
    have H14 : Hid _ := And.intro (H13.out.1.next b14) o14.row
    clear b14 o14 d0 d1 d2 d3 d4
    go_wp2_with fail
    go_at_call 8
    refine (H.out.2.2.2.2.1 _ _ H14.out.1.bw H14.out.2).mono ?_
    rintro e w15 ⟨r15, rfl, o15, b15⟩
    obtain ⟨ra15, rc15, er15⟩ := FX.out _ _ _ o15
    subst er15
    have H15 : Hid _ := And.intro (H14.out.1.next b15) o15.row
    clear b15 o15
    go_wp2_with fail
    go_at_call 9
    refine (H.out.2.2.2.2.2.2 _ _ _ H15.out.2 H15.out.1.o3.row).mono ?_
    rintro e w16 ⟨rfl, b16⟩
    have H16 : Hid _ := And.intro (H15.out.1.next b16) True.intro
    clear b16
    go_wp2_with fail
    go_at_call 13
    refine (G.out.2.2 _ _ _ _ H16.out.1.o6 H12.out.2).mono ?_
    rintro e w17 ⟨rfl, b17⟩
    have H17 : Hid _ := And.intro (H16.out.1.next b17).bw True.intro
    clear b17
    go_wp2
    go_ret
    exact ⟨rfl, H17.out.1⟩
theorem fnExactRequestFields_walk (qm qs qa qp : ByteArray) (s : Value) (L : List SField) (z0 : qm.size ≤ maxLen) (z1 : qs.size ≤ maxLen) (z2 : qa.size ≤ maxLen) (z3 : qp.size ≤ maxLen) (hl : L.length ≤ maxLen) (hf : fin L) (w : World) (h : GRow 2 w s (SField.L L)) :
    Calls Tryd.prog 3 #[qV qm qs qa qp s] w fun e w' => e = .returned (.bool true) ∧ Below w.heap.size w w' := by
  unfold maxLen at z0 z1 z2 z3 hl
  by_cases ho : qT qm qs qa qp + (L.length + txs L) ≤ 1048576
  · exact rq_law qm qs qa qp s L w h hf (by omega) (by omega) (by omega) (by omega) ho
  · exact rq_huge qm qs qa qp s L w h (by omega) hf (by omega) (by omega) (by omega) (by omega) (by omega)
end Go.Proofs.YtdjflbanbhhniaaDoor
