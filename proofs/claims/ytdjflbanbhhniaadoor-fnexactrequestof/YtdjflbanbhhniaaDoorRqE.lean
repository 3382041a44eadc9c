import Derived.Test.YtdjflbanbhhniaaDoorMkF
import Derived.Test.YtdjflbanbhhniaaDoorTbZ
import Derived.Test.YtdjflbanbhhniaaDoorRqA
import Derived.Test.YtdjflbanbhhniaaDoorBlocks
import Derived.Laws.Rows
namespace Go.Proofs.YtdjflbanbhhniaaDoor
open Go.RowKit
set_option linter.unusedVariables false

/-- A request's value. -/
def qV (qm qs qa qp : ByteArray) (s : Value) : Value := .agg #[.string qm, .string qs, .string qa, .string qp, s]
/-- The bytes of its four texts. -/
def qT (qm qs qa qp : ByteArray) : Int := (qm.size : Int) + qs.size + qa.size + qp.size
theorem infoReqQ : (Tryd.prog.info? 30).map (·.size) = some 5 := by kernel_rfl
theorem gown_setR {T : TypeId} {K g i base : Nat} {wx : World} {u v : Value} {L : List (List Value)} (h : GOwns T K wx base v L) (hb : g < base) : GOwns T K (wx.setCell ⟨g, i, none⟩ u) base v L :=
  GOwns.only (Only.setCell (w := wx) ⟨g, i, none⟩ u) h (fun k hk e => by obtain ⟨zs, ho, _⟩ := h; have := (ho.lt k hk).1; have := Option.some.inj e; simp only at this; omega)

set_option maxHeartbeats 2000000 in
theorem szReq (qm qs qa qp : ByteArray) (s : Value) (L : List SField) (l r : Int) (w : World) (h : GRow 2 w s (SField.L L)) (hm : L.length ≤ 9223372036854775807) (h0 : 0 ≤ l) (h1 : l ≤ 1048576) (hf : fin L) (z0 : qm.size ≤ 9223372036854775807) (z1 : qs.size ≤ 9223372036854775807) (z2 : qa.size ≤ 9223372036854775807) (z3 : qp.size ≤ 9223372036854775807) (hr : r = if qT qm qs qa qp + (L.length + txs L) ≤ l then l - (qT qm qs qa qp + (L.length + txs L)) else -1) :
    Calls Tryd.prog 5 #[qV qm qs qa qp s, .int .i64 l] w fun e w' => e = .returned (.int .i64 r) ∧ Below w.heap.size w w' := by
  have b0 : Below w.heap.size w (w.alloc (.cells #[.string qm, .string qs, .string qa, .string qp, s] 24)) := (Below.refl _ _).alloc (Nat.le_refl _) _
  have hx := txs_nn L
  have C : ∀ l' : Int, 0 ≤ l' → l' ≤ 1048576 → _ := fun l' a b => szFldS s L l' (if (L.length : Int) + txs L ≤ l' then l' - (L.length + txs L) else -1) (w.alloc (.cells #[.string qm, .string qs, .string qa, .string qp, s] 24)) (h.below b0) hm a b hf rfl
  obtain ⟨ao, cp, rfl⟩ := frow_form h
  obtain ⟨N, eN⟩ : ∃ N : Int, N = (L.length : Int) + txs L := ⟨_, rfl⟩
  have hN : 0 ≤ N := by omega
  rw [← eN] at C hr
  obtain ⟨n, en⟩ : ∃ n, n = L.length := ⟨_, rfl⟩
  rw [← en] at C b0 ⊢
  clear h hm hf en hx eN
  unfold qT at hr
  unfold qV
  have HZ : Hid _ := And.intro z0 (And.intro z1 (And.intro z2 z3))
  clear z0 z1 z2 z3
  by_cases g0 : l - (qm.size : Int) < 0
  · have HR : Hid (r = -1) := by show r = -1; rw [hr, if_neg (by omega)]
    have H : Hid _ := b0
    have zz := HZ.out.1
    clear C hr b0
    go_enter Tryd.func5, Tryd.ntmps5
    go_wp2
    go_ret
    exact ⟨by rw [HR.out]; rfl, H.out⟩
  have p0 : 0 ≤ l - (qm.size : Int) := by omega
  clear g0
  by_cases g1 : l - (qm.size : Int) - (qs.size : Int) < 0
  · have HR : Hid (r = -1) := by show r = -1; rw [hr, if_neg (by omega)]
    have H : Hid _ := b0
    have zz := HZ.out.2.1
    clear C hr b0
    go_enter Tryd.func5, Tryd.ntmps5
    go_wp2
    go_ret
    exact ⟨by rw [HR.out]; rfl, H.out⟩
  have p1 : 0 ≤ l - (qm.size : Int) - (qs.size : Int) := by omega
  clear g1
  by_cases g2 : l - (qm.size : Int) - (qs.size : Int) - (qa.size : Int) < 0
  · have HR : Hid (r = -1) := by show r = -1; rw [hr, if_neg (by omega)]
    have H : Hid _ := b0
    have zz := HZ.out.2.2.1
    clear C hr b0
    go_enter Tryd.func5, Tryd.ntmps5
    go_wp2
    go_ret
    exact ⟨by rw [HR.out]; rfl, H.out⟩
  have p2 : 0 ≤ l - (qm.size : Int) - (qs.size : Int) - (qa.size : Int) := by omega
  clear g2
  by_cases g3 : l - (qm.size : Int) - (qs.size : Int) - (qa.size : Int) - (qp.size : Int) < 0
  · have HR : Hid (r = -1) := by show r = -1; rw [hr, if_neg (by omega)]
    have H : Hid _ := b0
    have zz := HZ.out.2.2.2
    clear C hr b0
    go_enter Tryd.func5, Tryd.ntmps5
    go_wp2
    go_ret
    exact ⟨by rw [HR.out]; rfl, H.out⟩
  have p3 : 0 ≤ l - (qm.size : Int) - (qs.size : Int) - (qa.size : Int) - (qp.size : Int) := by omega
  clear g3
  have C5 := C (l - (qm.size : Int) - (qs.size : Int) - (qa.size : Int) - (qp.size : Int)) (by omega) (by omega)
  by_cases g : N ≤ l - (qm.size : Int) - (qs.size : Int) - (qa.size : Int) - (qp.size : Int)
  · rw [if_pos g] at C5
    have HR : Hid (r = l - (qm.size : Int) - (qs.size : Int) - (qa.size : Int) - (qp.size : Int) - N) := by show r = _; rw [hr, if_pos (by omega)]; omega
    have pr : 0 ≤ l - (qm.size : Int) - (qs.size : Int) - (qa.size : Int) - (qp.size : Int) - N := by omega
    have H : Hid _ := And.intro C5 b0
    clear C C5 hr b0 g
    go_enter Tryd.func5, Tryd.ntmps5
    go_wp2_with (go_at_call 14; refine H.out.1.mono ?_; rintro e w2 ⟨rfl, b2⟩; have H2 : Hid _ := And.intro (H.out.2.trans (b2.mono H.out.2.size)) True.intro; clear b2)
    go_ret
    exact ⟨by rw [HR.out]; rfl, H2.out.1⟩
  · rw [if_neg g] at C5
    have HR : Hid (r = -1) := by show r = -1; rw [hr, if_neg (by omega)]
    have H : Hid _ := And.intro C5 b0
    clear C C5 hr b0 g
    go_enter Tryd.func5, Tryd.ntmps5
    go_wp2_with (go_at_call 14; refine H.out.1.mono ?_; rintro e w2 ⟨rfl, b2⟩; have H2 : Hid _ := And.intro (H.out.2.trans (b2.mono H.out.2.size)) True.intro; clear b2)
    go_ret
    exact ⟨by rw [HR.out]; rfl, H2.out.1⟩
set_option maxHeartbeats 4000000 in
theorem toReq (qm qs qa qp : ByteArray) (s : Value) (es : List SField) (w : World) (h : GRow 2 w s (SField.L es)) (hn : es.length ≤ 1048576) :
    Calls Tryd.prog 7 #[qV qm qs qa qp s] w fun e w' => ∃ r, e = .returned (qV qm qs qa qp r) ∧ GOwns 44 2 w' w.heap.size r (SField.L es) ∧ Below w.heap.size w w' := by
  have hform := frow_form h
  unfold qV
  obtain ⟨k0, k1, k2⟩ := bk_new3 w (.cells #[.string qm, .string qs, .string qa, .string qp, s] 24) (.cells #[.string ⟨#[]⟩, .string ⟨#[]⟩, .string ⟨#[]⟩, .string ⟨#[]⟩, .slice none 0 0] 30) (.cells #[.string qm, .string qs, .string qa, .string qp, .slice none 0 0] 30)
  obtain ⟨W, eW⟩ : ∃ W, W = ((w.alloc (.cells #[.string qm, .string qs, .string qa, .string qp, s] 24)).alloc (.cells #[.string ⟨#[]⟩, .string ⟨#[]⟩, .string ⟨#[]⟩, .string ⟨#[]⟩, .slice none 0 0] 30)).alloc (.cells #[.string qm, .string qs, .string qa, .string qp, .slice none 0 0] 30) := ⟨_, rfl⟩
  have bW : Below w.heap.size w W := by rw [eW]; exact (((Below.refl _ _).alloc (Nat.le_refl _) _).alloc (by simp) _).alloc (by simp <;> omega) _
  have zW : W.heap.size = w.heap.size + 3 := by rw [eW]; simp
  rw [← eW] at k0 k1 k2
  have C := toFieldS s es W (h.below bW) hn
  have H : Hid _ := And.intro k0 (And.intro k1 (And.intro k2 (And.intro bW (And.intro zW C))))
  rw [eW] at H
  obtain ⟨ao, cp, rfl⟩ := hform
  obtain ⟨n, en⟩ : ∃ n, n = es.length := ⟨_, rfl⟩
  rw [← en] at H ⊢
  clear k0 k1 k2 bW zW C eW h hn en
  clear W
  go_enter Tryd.func7, Tryd.ntmps7
  go_wp2_with fail
  go_at_call 16
  refine H.out.2.2.2.2.2.mono ?_
  rintro e w1 ⟨r, rfl, o1, b1⟩
  have q1 := (b1.block (w.heap.size + 1) (by have := H.out.2.2.2.2.1; omega)).trans H.out.2.1
  have q2 := (b1.block (w.heap.size + 2) (by have := H.out.2.2.2.2.1; omega)).trans H.out.2.2.1
  obtain ⟨ra, rc, er⟩ := o1.row.form
  rw [List.length_map] at er
  obtain ⟨m, em⟩ : ∃ m, m = es.length := ⟨_, rfl⟩
  rw [← em] at er
  subst er
  have lt2 : w.heap.size + 2 < w1.heap.size := (Array.getElem?_eq_some_iff.1 q2).1
  have s0 : w1.cell? ⟨w.heap.size + 2, 0, none⟩ = some (.string qm) := by rw [bk_cell q2]; rfl
  have s1 : w1.cell? ⟨w.heap.size + 2, 1, none⟩ = some (.string qs) := by rw [bk_cell q2]; rfl
  have s2 : w1.cell? ⟨w.heap.size + 2, 2, none⟩ = some (.string qa) := by rw [bk_cell q2]; rfl
  have s3 : w1.cell? ⟨w.heap.size + 2, 3, none⟩ = some (.string qp) := by rw [bk_cell q2]; rfl
  have s4 : w1.cell? ⟨w.heap.size + 2, 4, none⟩ = some (.slice none 0 0) := by rw [bk_cell q2]; rfl
  have f4 : w1.frozen? ⟨w.heap.size + 2, 4, none⟩ = false := bk_free q2 4
  have y0 : w1.cell? ⟨w.heap.size + 1, 0, none⟩ = some (.string ⟨#[]⟩) := by rw [bk_cell q1]; rfl
  have g0 : w1.frozen? ⟨w.heap.size + 1, 0, none⟩ = false := bk_free q1 0
  have y1 : w1.cell? ⟨w.heap.size + 1, 1, none⟩ = some (.string ⟨#[]⟩) := by rw [bk_cell q1]; rfl
  have g1 : w1.frozen? ⟨w.heap.size + 1, 1, none⟩ = false := bk_free q1 1
  have y2 : w1.cell? ⟨w.heap.size + 1, 2, none⟩ = some (.string ⟨#[]⟩) := by rw [bk_cell q1]; rfl
  have g2 : w1.frozen? ⟨w.heap.size + 1, 2, none⟩ = false := bk_free q1 2
  have y3 : w1.cell? ⟨w.heap.size + 1, 3, none⟩ = some (.string ⟨#[]⟩) := by rw [bk_cell q1]; rfl
  have g3 : w1.frozen? ⟨w.heap.size + 1, 3, none⟩ = false := bk_free q1 3
  have y4 : w1.cell? ⟨w.heap.size + 1, 4, none⟩ = some (.slice none 0 0) := by rw [bk_cell q1]; rfl
  have g4 : w1.frozen? ⟨w.heap.size + 1, 4, none⟩ = false := bk_free q1 4
  have H1 : Hid _ := And.intro q1 (And.intro (o1.mono (base' := w.heap.size + 3) (by rw [H.out.2.2.2.2.1]; exact Nat.le_refl _)) (H.out.2.2.2.1.trans (b1.mono H.out.2.2.2.1.size)))
  clear q1 q2 o1 b1 em
  go_wp2
  try simp only [Exit.inBlock, Exit.then]
  refine bodyPost_ret (v := .agg #[.string qm, .string qs, .string qa, .string qp, .slice ra m rc]) ?_ rfl ?_
  · refine results_cell_row (t := 30) rfl _ _ (w.heap.size + 1) _ (fr := (0, 0)) _ rfl ?_ Tryd.underlying30 rfl infoReqQ
    rw [bk_set (bk_set (bk_set (bk_set (bk_set ((bk_other (by omega) 4 _).trans H1.out.1) 0 _) 1 _) 2 _) 3 _) 4 _]
    rfl
  · refine ⟨_, rfl, ?_, ?_⟩
    · exact (gown_setR (gown_setR (gown_setR (gown_setR (gown_setR (gown_setR H1.out.2.1 (g := w.heap.size + 2) (by omega)) (g := w.heap.size + 1) (by omega)) (g := w.heap.size + 1) (by omega)) (g := w.heap.size + 1) (by omega)) (g := w.heap.size + 1) (by omega)) (g := w.heap.size + 1) (by omega)).mono (by omega)
    · exact (((((H1.out.2.2.setCell (by simp <;> omega) _).setCell (by simp <;> omega) _).setCell (by simp <;> omega) _).setCell (by simp <;> omega) _).setCell (by simp <;> omega) _).setCell (by simp <;> omega) _
theorem eqReq (qm qs qa qp : ByteArray) (s s' : Value) (es : List SField) (w : World) (h : GRow 2 w s (SField.L es)) (h' : GRow 2 w s' (SField.L es)) (hn : es.length ≤ 1048576) :
    Calls Tryd.prog 10 #[qV qm qs qa qp s, qV qm qs qa qp s'] w fun e w' => e = .returned (.bool true) ∧ Below w.heap.size w w' := by
  have hform := frow_form h
  have hform' := frow_form h'
  unfold qV
  have b0 : Below w.heap.size w ((w.alloc (.cells #[.string qm, .string qs, .string qa, .string qp, s] 30)).alloc (.cells #[.string qm, .string qs, .string qa, .string qp, s'] 30)) := ((Below.refl _ _).alloc (Nat.le_refl _) _).alloc (by simp) _
  have C := eqFieldS s s' es _ (h.below b0) (h'.below b0) hn
  have H : Hid _ := And.intro C b0
  obtain ⟨ao, cp, rfl⟩ := hform
  obtain ⟨ao', cp', rfl⟩ := hform'
  obtain ⟨n, en⟩ : ∃ n, n = es.length := ⟨_, rfl⟩
  rw [← en] at H ⊢
  clear C b0 h h' hn en
  have e0 : (qm != qm) = false := by simp [bne, show (qm == qm) = true by show (qm.data == qm.data) = true; exact beq_self_eq_true _]
  have e1 : (qs != qs) = false := by simp [bne, show (qs == qs) = true by show (qs.data == qs.data) = true; exact beq_self_eq_true _]
  have e2 : (qa != qa) = false := by simp [bne, show (qa == qa) = true by show (qa.data == qa.data) = true; exact beq_self_eq_true _]
  have e3 : (qp != qp) = false := by simp [bne, show (qp == qp) = true by show (qp.data == qp.data) = true; exact beq_self_eq_true _]
  go_enter Tryd.func10, Tryd.ntmps10
  go_wp2_with (go_at_call 9; refine H.out.1.mono ?_; rintro e w2 ⟨rfl, b2⟩; have H2 : Hid _ := And.intro (H.out.2.trans (b2.mono H.out.2.size)) True.intro; clear b2)
  go_ret
  exact ⟨rfl, H2.out.1⟩
set_option maxRecDepth 20000 in
theorem markReq (qm qs qa qp : ByteArray) (r : Value) (es : List SField) (base : Nat) (w : World) (h : GOwns 44 2 w base r (SField.L es)) (hn : es.length ≤ 1048576) :
    Calls Tryd.prog 11 #[qV qm qs qa qp r, .int .i64 1] w fun e w' => e = .returned (.int .i64 (1 + 2 * (es.length : Int))) ∧ ChgQ (oBQ r) w w' := by
  have A0 : Below w.heap.size w (w.alloc (.cells #[.string qm, .string qs, .string qa, .string qp, r] 30)) := (Below.refl _ _).alloc (Nat.le_refl _) _
  have CM := markFQ r es base 1 _ (h.below A0) hn (by decide) (by decide)
  obtain ⟨ra, rc, rfl⟩ := frow_form h.row
  have H : Hid _ := And.intro CM A0
  clear CM A0 h
  unfold qV
  obtain ⟨n, en⟩ : ∃ n, n = es.length := ⟨_, rfl⟩
  rw [← en] at H hn ⊢
  clear en
  go_enter Tryd.func11, Tryd.ntmps11
  go_wp2_with (go_at_call 12; refine H.out.1.mono ?_; rintro e w1 ⟨rfl, p1, c1⟩; have H1 : Hid _ := And.intro ((ChgQ.of_below H.out.2).trans c1) True.intro; clear p1 c1)
  go_ret
  exact ⟨rfl, H1.out.1⟩
end Go.Proofs.YtdjflbanbhhniaaDoor
