import Derived.Test.YtdhkcejfcmobcaaDoorMkF
import Derived.Test.YtdhkcejfcmobcaaDoorTbZ
import Derived.Test.YtdhkcejfcmobcaaDoorQpG
import Derived.Test.YtdhkcejfcmobcaaDoorBlocks
import Derived.Laws.Rows
namespace Go.Proofs.YtdhkcejfcmobcaaDoor
open Go.RowKit
set_option linter.unusedVariables false

/-- A response's value. -/
def rV (st : Int) (s : Value) : Value := .agg #[.int .i64 st, s]
theorem infoRespQ : (Tryd.prog.info? 30).map (·.size) = some 2 := by kernel_rfl
theorem gown_setQ {T : TypeId} {K g i base : Nat} {wx : World} {u v : Value} {L : List (List Value)} (h : GOwns T K wx base v L) (hb : g < base) : GOwns T K (wx.setCell ⟨g, i, none⟩ u) base v L :=
  GOwns.only (Only.setCell (w := wx) ⟨g, i, none⟩ u) h (fun k hk e => by obtain ⟨zs, ho, _⟩ := h; have := (ho.lt k hk).1; have := Option.some.inj e; simp only at this; omega)
theorem szResp (st : Int) (s : Value) (L : List SField) (l r : Int) (w : World) (h : GRow 2 w s (SField.L L)) (hm : L.length ≤ 9223372036854775807) (h0 : 0 ≤ l) (h1 : l ≤ 1048576) (hf : fin L) (hr : r = if (L.length : Int) + txs L ≤ l then l - (L.length + txs L) else -1) :
    Calls Tryd.prog 5 #[rV st s, .int .i64 l] w fun e w' => e = .returned (.int .i64 r) ∧ Below w.heap.size w w' := by
  have b0 : Below w.heap.size w (w.alloc (.cells #[.int .i64 st, s] 24)) := (Below.refl _ _).alloc (Nat.le_refl _) _
  have C := szFldS s L l r (w.alloc (.cells #[.int .i64 st, s] 24)) (h.below b0) hm h0 h1 hf hr
  have hrb : r = -1 ∨ (0 ≤ r ∧ r ≤ 1048576) := by have := txs_nn L; rw [hr]; split <;> omega
  obtain ⟨ao, cp, rfl⟩ := frow_form h
  obtain ⟨n, en⟩ : ∃ n, n = L.length := ⟨_, rfl⟩
  rw [← en] at C ⊢
  rw [← en] at b0
  have H : Hid _ := And.intro C b0
  clear C b0 hr h hm hf en
  unfold rV
  rcases hrb with rfl | ⟨r0, r1⟩
  · go_enter Tryd.func5, Tryd.ntmps5
    go_wp2_with (go_at_call 14; refine H.out.1.mono ?_; rintro e w2 ⟨rfl, b2⟩; have H2 : Hid _ := And.intro (H.out.2.trans (b2.mono H.out.2.size)) True.intro; clear b2)
    go_ret
    exact ⟨rfl, H2.out.1⟩
  · go_enter Tryd.func5, Tryd.ntmps5
    go_wp2_with (go_at_call 14; refine H.out.1.mono ?_; rintro e w2 ⟨rfl, b2⟩; have H2 : Hid _ := And.intro (H.out.2.trans (b2.mono H.out.2.size)) True.intro; clear b2)
    go_ret
    exact ⟨rfl, H2.out.1⟩
set_option maxHeartbeats 2000000 in
theorem toResp (st : Int) (s : Value) (es : List SField) (w : World) (h : GRow 2 w s (SField.L es)) (hn : es.length ≤ 1048576) :
    Calls Tryd.prog 7 #[rV st s] w fun e w' => ∃ r, e = .returned (rV st r) ∧ GOwns 45 2 w' w.heap.size r (SField.L es) ∧ Below w.heap.size w w' := by
  have hform := frow_form h
  unfold rV
  obtain ⟨k0, k1, k2⟩ := bk_new3 w (.cells #[.int .i64 st, s] 24) (.cells #[.int .i64 0, .slice none 0 0] 30) (.cells #[.int .i64 st, .slice none 0 0] 30)
  obtain ⟨W, eW⟩ : ∃ W, W = ((w.alloc (.cells #[.int .i64 st, s] 24)).alloc (.cells #[.int .i64 0, .slice none 0 0] 30)).alloc (.cells #[.int .i64 st, .slice none 0 0] 30) := ⟨_, rfl⟩
  have bW : Below w.heap.size w W := by rw [eW]; exact (((Below.refl _ _).alloc (Nat.le_refl _) _).alloc (by simp) _).alloc (by simp <;> omega) _
  have zW : W.heap.size = w.heap.size + 3 := by rw [eW]; simp
  rw [← eW] at k0 k1 k2
  have C := toFieldS s es W (h.below bW) hn
  have H : Hid _ := And.intro k0 (And.intro k1 (And.intro k2 (And.intro bW (And.intro zW C))))
  rw [eW] at H
  obtain ⟨ao, cp, rfl⟩ := hform
  obtain ⟨n, en⟩ : ∃ n, n = es.length := ⟨_, rfl⟩
  rw [← en] at H ⊢
  clear k0 k1 k2 bW zW C eW h hn en
  clear W
  go_enter Tryd.func7, Tryd.ntmps7
  go_wp2_with fail
  go_at_call 16
  refine H.out.2.2.2.2.2.mono ?_
  rintro e w1 ⟨r, rfl, o1, b1⟩
  have q1 := (b1.block (w.heap.size + 1) (by have := H.out.2.2.2.2.1; omega)).trans H.out.2.1
  have q2 := (b1.block (w.heap.size + 2) (by have := H.out.2.2.2.2.1; omega)).trans H.out.2.2.1
  obtain ⟨ra, rc, er⟩ := o1.row.form
  rw [List.length_map] at er
  obtain ⟨m, em⟩ : ∃ m, m = es.length := ⟨_, rfl⟩
  rw [← em] at er
  subst er
  have lt2 : w.heap.size + 2 < w1.heap.size := (Array.getElem?_eq_some_iff.1 q2).1
  have s0 : w1.cell? ⟨w.heap.size + 2, 0, none⟩ = some (.int .i64 st) := by rw [bk_cell q2]; rfl
  have s1 : w1.cell? ⟨w.heap.size + 2, 1, none⟩ = some (.slice none 0 0) := by rw [bk_cell q2]; rfl
  have f1 : w1.frozen? ⟨w.heap.size + 2, 1, none⟩ = false := bk_free q2 1
  have y0 : w1.cell? ⟨w.heap.size + 1, 0, none⟩ = some (.int .i64 0) := by rw [bk_cell q1]; rfl
  have y1 : w1.cell? ⟨w.heap.size + 1, 1, none⟩ = some (.slice none 0 0) := by rw [bk_cell q1]; rfl
  have g0 : w1.frozen? ⟨w.heap.size + 1, 0, none⟩ = false := bk_free q1 0
  have g1 : w1.frozen? ⟨w.heap.size + 1, 1, none⟩ = false := bk_free q1 1
  have H1 : Hid _ := And.intro q1 (And.intro (o1.mono (base' := w.heap.size + 3) (by rw [H.out.2.2.2.2.1]; exact Nat.le_refl _)) (H.out.2.2.2.1.trans (b1.mono H.out.2.2.2.1.size)))
  clear q1 q2 o1 b1 em
  go_wp2
  try simp only [Exit.inBlock, Exit.then]
  refine bodyPost_ret (v := .agg #[.int .i64 st, .slice ra m rc]) ?_ rfl ?_
  · refine results_cell_row (t := 30) rfl _ _ (w.heap.size + 1) _ (fr := (0, 0)) _ rfl ?_ Tryd.underlying30 rfl infoRespQ
    rw [bk_set (bk_set ((bk_other (by omega) 1 _).trans H1.out.1) 0 _) 1 _]
    rfl
  · refine ⟨_, rfl, ?_, ?_⟩
    · exact (gown_setQ (gown_setQ (gown_setQ H1.out.2.1 (g := w.heap.size + 2) (by omega)) (g := w.heap.size + 1) (by omega)) (g := w.heap.size + 1) (by omega)).mono (by omega)
    · exact ((H1.out.2.2.setCell (by simp <;> omega) _).setCell (by simp <;> omega) _).setCell (by simp <;> omega) _
theorem eqResp (st : Int) (s s' : Value) (es : List SField) (w : World) (h : GRow 2 w s (SField.L es)) (h' : GRow 2 w s' (SField.L es)) (hn : es.length ≤ 1048576) :
    Calls Tryd.prog 10 #[rV st s, rV st s'] w fun e w' => e = .returned (.bool true) ∧ Below w.heap.size w w' := by
  have hform := frow_form h
  have hform' := frow_form h'
  unfold rV
  have b0 : Below w.heap.size w ((w.alloc (.cells #[.int .i64 st, s] 30)).alloc (.cells #[.int .i64 st, s'] 30)) := ((Below.refl _ _).alloc (Nat.le_refl _) _).alloc (by simp) _
  have C := eqFieldS s s' es _ (h.below b0) (h'.below b0) hn
  have H : Hid _ := And.intro C b0
  obtain ⟨ao, cp, rfl⟩ := hform
  obtain ⟨ao', cp', rfl⟩ := hform'
  obtain ⟨n, en⟩ : ∃ n, n = es.length := ⟨_, rfl⟩
  rw [← en] at H ⊢
  clear C b0 h h' hn en
  have e0 : (st != st) = false := by simp
  go_enter Tryd.func10, Tryd.ntmps10
  go_wp2_with (go_at_call 9; refine H.out.1.mono ?_; rintro e w2 ⟨rfl, b2⟩; have H2 : Hid _ := And.intro (H.out.2.trans (b2.mono H.out.2.size)) True.intro; clear b2)
  go_ret
  exact ⟨rfl, H2.out.1⟩
set_option maxRecDepth 20000 in
theorem markResp (st : Int) (r : Value) (es : List SField) (base : Nat) (w : World) (h : GOwns 45 2 w base r (SField.L es)) (hn : es.length ≤ 1048576) :
    Calls Tryd.prog 11 #[rV st r, .int .i64 1] w fun e w' => e = .returned (.int .i64 (1 + 2 * (es.length : Int))) ∧ ChgQ (oBQ r) w w' := by
  have A0 : Below w.heap.size w (w.alloc (.cells #[.int .i64 st, r] 30)) := (Below.refl _ _).alloc (Nat.le_refl _) _
  have CM := markFQ r es base 1 _ (h.below A0) hn (by decide) (by decide)
  obtain ⟨ra, rc, rfl⟩ := frow_form h.row
  have H : Hid _ := And.intro CM A0
  clear CM A0 h
  unfold rV
  obtain ⟨n, en⟩ : ∃ n, n = es.length := ⟨_, rfl⟩
  rw [← en] at H hn ⊢
  clear en
  go_enter Tryd.func11, Tryd.ntmps11
  go_wp2_with (go_at_call 12; refine H.out.1.mono ?_; rintro e w1 ⟨rfl, p1, c1⟩; have H1 : Hid _ := And.intro ((ChgQ.of_below H.out.2).trans c1) True.intro; clear p1 c1)
  go_ret
  exact ⟨rfl, H1.out.1⟩
end Go.Proofs.YtdhkcejfcmobcaaDoor
