import Derived.Test.YtjikdecfampbiaaFlatB
import Derived.Test.YtjikdecfampbiaaFbPathOpB
import Derived.Test.YtjikdecfampbiaaToBytes
import Derived.Test.YtjikdecfampbiaaEqBytes
import Derived.Laws.Rows
namespace Go.Proofs.Ytjikdecfampbiaa
open Go.RowKit
set_option linter.unusedVariables false

/-- One that is being copied: where it was laid, the answer's room, what there is of the copy. -/
structure ThPathOp (w wx : World) (ins outs : Array Value) : Prop where
  b0 : wx.heap[w.heap.size]? = some (.cells ins 37 (0, 0))
  b1 : wx.heap[w.heap.size + 1]? = some (.cells #[.int .i64 0, .int .i64 0, .int .i64 0, .slice none 0 0] 43 (0, 0))
  b2 : wx.heap[w.heap.size + 2]? = some (.cells outs 43 (0, 0))
  bel : Below w.heap.size w wx
theorem ThPathOp.lt {w wx : World} {ins outs : Array Value} (h : ThPathOp w wx ins outs) : w.heap.size + 2 < wx.heap.size := (Array.getElem?_eq_some_iff.1 h.b2).1
theorem ThPathOp.called {w wx w' : World} {ins outs : Array Value} (h : ThPathOp w wx ins outs) (hb : Below wx.heap.size wx w') : ThPathOp w w' ins outs :=
  ⟨(hb.block _ (by have := h.lt; omega)).trans h.b0, (hb.block _ (by have := h.lt; omega)).trans h.b1, (hb.block _ h.lt).trans h.b2, h.bel.trans (hb.mono h.bel.size)⟩
theorem ThPathOp.stored {w wx : World} {ins outs : Array Value} (h : ThPathOp w wx ins outs) (i : Nat) (r : Value) : ThPathOp w (wx.setCell ⟨w.heap.size + 2, i, none⟩ r) ins (outs.setIfInBounds i r) :=
  ⟨(bk_other (by omega) i r).trans h.b0, (bk_other (by omega) i r).trans h.b1, bk_set h.b2 i r, h.bel.setCell (by show w.heap.size ≤ w.heap.size + 2; omega) _⟩
theorem thPathOp_new (w : World) (ins outs : Array Value) : ThPathOp w (((w.alloc (.cells ins 37)).alloc (.cells #[.int .i64 0, .int .i64 0, .int .i64 0, .slice none 0 0] 43)).alloc (.cells outs 43)) ins outs := by
  obtain ⟨h0, h1, h2⟩ := bk_new3 w (.cells ins 37) (.cells #[.int .i64 0, .int .i64 0, .int .i64 0, .slice none 0 0] 43) (.cells outs 43)
  exact ⟨h0, h1, h2, (((Below.refl _ _).alloc (Nat.le_refl _) _).alloc (by simp) _).alloc (by simp <;> omega) _⟩
theorem infoPathOpSize : (Try.prog.info? 43).map (·.size) = some 4 := by kernel_rfl
set_option maxRecDepth 20000 in
set_option maxHeartbeats 2000000 in
theorem toPathOp (x0 : Int) (x1 : Int) (x2 : Int) (x3 : Value) (ys : List Int) (w : World) (h : Row w .u8 x3 ys) (hn : ys.length ≤ 140737488355328) :
    Calls Try.prog 17 #[(.agg #[.int .i64 x0, .int .i64 x1, .int .i64 x2, x3])] w fun e w' => ∃ r, e = .returned (.agg #[.int .i64 x0, .int .i64 x1, .int .i64 x2, r]) ∧ w'.ownsRow w.heap.size 5 1 r ys.length (ys.map (Value.int .u8)) ∧ Below w.heap.size w w' := by
  have H0 : Hid _ := thPathOp_new w #[.int .i64 x0, .int .i64 x1, .int .i64 x2, x3] #[.int .i64 x0, .int .i64 x1, .int .i64 x2, .slice none 0 0]
  have HH : Hid _ := And.intro h hn
  have l1 : w.heap.size + 3 ≤ (((w.alloc (.cells #[.int .i64 x0, .int .i64 x1, .int .i64 x2, x3] 37)).alloc (.cells #[.int .i64 0, .int .i64 0, .int .i64 0, .slice none 0 0] 43)).alloc (.cells #[.int .i64 x0, .int .i64 x1, .int .i64 x2, .slice none 0 0] 43)).heap.size := by simp
  clear h hn
  go_enter Try.func17, Try.ntmps17
  go_wp2_with fail
  go_at_call 27
  refine (toBytes x3 ys _ (HH.out.1.below (H0.out).bel) HH.out.2).mono ?_
  rintro e w1 ⟨r, rfl, o1, b1⟩
  obtain ⟨ao, cp, hr⟩ := (row_of_owns o1).form
  subst hr
  have T1 := (H0.out).called b1
  have h1 : w.heap.size + 2 < w1.heap.size := T1.lt
  have y0 : w1.cell? ⟨w.heap.size + 2, 0, none⟩ = some (.int .i64 x0) := by rw [bk_cell T1.b2]; rfl
  have z0 : w1.cell? ⟨w.heap.size + 1, 0, none⟩ = some (.int .i64 0) := by rw [bk_cell T1.b1]; rfl
  have g0 : w1.frozen? ⟨w.heap.size + 1, 0, none⟩ = false := bk_free T1.b1 0
  have y1 : w1.cell? ⟨w.heap.size + 2, 1, none⟩ = some (.int .i64 x1) := by rw [bk_cell T1.b2]; rfl
  have z1 : w1.cell? ⟨w.heap.size + 1, 1, none⟩ = some (.int .i64 0) := by rw [bk_cell T1.b1]; rfl
  have g1 : w1.frozen? ⟨w.heap.size + 1, 1, none⟩ = false := bk_free T1.b1 1
  have y2 : w1.cell? ⟨w.heap.size + 2, 2, none⟩ = some (.int .i64 x2) := by rw [bk_cell T1.b2]; rfl
  have z2 : w1.cell? ⟨w.heap.size + 1, 2, none⟩ = some (.int .i64 0) := by rw [bk_cell T1.b1]; rfl
  have g2 : w1.frozen? ⟨w.heap.size + 1, 2, none⟩ = false := bk_free T1.b1 2
  have y3 : w1.cell? ⟨w.heap.size + 2, 3, none⟩ = some (.slice none 0 0) := by rw [bk_cell T1.b2]; rfl
  have f3 : w1.frozen? ⟨w.heap.size + 2, 3, none⟩ = false := bk_free T1.b2 3
  have z3 : w1.cell? ⟨w.heap.size + 1, 3, none⟩ = some (.slice none 0 0) := by rw [bk_cell T1.b1]; rfl
  have g3 : w1.frozen? ⟨w.heap.size + 1, 3, none⟩ = false := bk_free T1.b1 3
  have H1 : Hid _ := And.intro (T1.stored 3 ((.slice ao ys.length cp))) (And.intro o1 b1)
  clear T1 o1 b1
  go_wp2
  try simp only [Exit.inBlock, Exit.then]
  refine bodyPost_ret (v := .agg #[.int .i64 x0, .int .i64 x1, .int .i64 x2, (.slice ao ys.length cp)]) ?_ rfl ?_
  · refine results_cell_row (t := 43) rfl _ _ (w.heap.size + 1) _ (fr := (0, 0)) _ rfl ?_ Try.underlying43 rfl infoPathOpSize
    rw [bk_set (bk_set (bk_set (bk_set (H1.out.1.b1) 0 _) 1 _) 2 _) 3 _]
    rfl
  · have m0 := owns_mono H1.out.2.1 (base' := w.heap.size + 3) l1
    exact ⟨_, rfl, owns_mono (owns_set8 (i := 3) (u := (.slice ao ys.length cp)) (owns_set8 (i := 2) (u := .int .i64 x2) (owns_set8 (i := 1) (u := .int .i64 x1) (owns_set8 (i := 0) (u := .int .i64 x0) (owns_set8 (i := 3) (u := (.slice ao ys.length cp)) (m0) (g := w.heap.size + 2) (by omega)) (g := w.heap.size + 1) (by omega)) (g := w.heap.size + 1) (by omega)) (g := w.heap.size + 1) (by omega)) (g := w.heap.size + 1) (by omega)) (base' := w.heap.size) (by omega), ((((H1.out.1.bel.setCell (by simp) _).setCell (by simp) _).setCell (by simp) _).setCell (by simp) _)⟩
set_option maxHeartbeats 1000000 in
theorem eqPathOp (x0 : Int) (x1 : Int) (x2 : Int) (x3 : Value) (y3 : Value) (ys : List Int) (w : World) (ha : Row w .u8 x3 ys) (hb : Row w .u8 y3 ys) (hn : ys.length ≤ 140737488355328) :
    Calls Try.prog 22 #[(.agg #[.int .i64 x0, .int .i64 x1, .int .i64 x2, x3]), .agg #[.int .i64 x0, .int .i64 x1, .int .i64 x2, y3]] w fun e w' => e = .returned (.bool true) ∧ Below w.heap.size w w' := by
  have h0 : (x0 != x0) = false := by simp
  have h1 : (x1 != x1) = false := by simp
  have h2 : (x2 != x2) = false := by simp
  have HH : Hid _ := And.intro ha (And.intro hb hn)
  clear ha hb hn
  have A2 : Hid (Below w.heap.size w ((w.alloc (.cells #[.int .i64 x0, .int .i64 x1, .int .i64 x2, x3] 43)).alloc (.cells #[.int .i64 x0, .int .i64 x1, .int .i64 x2, y3] 43))) := ((Below.refl _ _).alloc (Nat.le_refl _) _).alloc (by simp) _
  go_enter Try.func22, Try.ntmps22
  go_wp2_with (go_at_call 33; refine (eqBytes_same x3 y3 ys _ (HH.out.1.below A2.out) (HH.out.2.1.below A2.out) HH.out.2.2).mono ?_; rintro e w1 ⟨rfl, m, hw⟩; subst w1)
  go_ret
  exact ⟨rfl, below_drewN A2.out m⟩
theorem szPathOp_fit (x0 : Int) (x1 : Int) (x2 : Int) (x3 : Value) (ys : List Int) (l : Int) (w : World) (h : Row w .u8 x3 ys) (h0 : (ys.length : Int) ≤ l) (h1 : l ≤ 9223372036854775807) :
    Calls Try.prog 13 #[(.agg #[.int .i64 x0, .int .i64 x1, .int .i64 x2, x3]), .int .i64 l] w fun e w' => e = .returned (.int .i64 (l - (ys.length : Int))) ∧ Below w.heap.size w w' := by
  have A1 : Hid (Below w.heap.size w (w.alloc (.cells #[.int .i64 x0, .int .i64 x1, .int .i64 x2, x3] 37))) := (Below.refl _ _).alloc (Nat.le_refl _) _
  have C := szBytes_fit x3 ys l _ (h.below A1.out) h0 h1
  have hd : ¬ (l - (ys.length : Int) < 0) := by omega
  generalize l - (ys.length : Int) = l' at *
  have HC : Hid _ := And.intro C True.intro
  clear C h h0 h1
  go_enter Try.func13, Try.ntmps13
  go_wp2_with (go_at_call 24; refine HC.out.1.mono ?_; rintro e w1 ⟨rfl, hw⟩; subst w1)
  go_ret
  exact ⟨rfl, A1.out⟩
theorem szPathOp_over (x0 : Int) (x1 : Int) (x2 : Int) (x3 : Value) (ys : List Int) (l : Int) (w : World) (h : Row w .u8 x3 ys) (hx : ys.length ≤ 9223372036854775807) (h0 : l < (ys.length : Int)) (h1 : 0 ≤ l) :
    Calls Try.prog 13 #[(.agg #[.int .i64 x0, .int .i64 x1, .int .i64 x2, x3]), .int .i64 l] w fun e w' => e = .returned (.int .i64 (-1)) ∧ Below w.heap.size w w' := by
  have A1 : Hid (Below w.heap.size w (w.alloc (.cells #[.int .i64 x0, .int .i64 x1, .int .i64 x2, x3] 37))) := (Below.refl _ _).alloc (Nat.le_refl _) _
  have C := szBytes_over x3 ys l _ (h.below A1.out) hx h0 h1
  have HC : Hid _ := And.intro C True.intro
  clear C h h0 h1 hx
  go_enter Try.func13, Try.ntmps13
  go_wp2_with (go_at_call 24; refine HC.out.1.mono ?_; rintro e w1 ⟨rfl, hw⟩; subst w1)
  go_ret
  exact ⟨rfl, A1.out⟩
set_option maxRecDepth 20000 in
set_option maxHeartbeats 4000000 in
theorem szPathOpS (v : Value) (L : List SPathOp) (l : Int) (w : World) (h : BRow 4 SPathOp.c SPathOp.d w v L) (hl0 : 0 ≤ l) (hl1 : l ≤ 4194304) (hm : L.length ≤ 9223372036854775807) (hd : ∀ j, j < L.length → (L.getD j default).d.length ≤ 9223372036854775807) :
    Calls Try.prog 4 #[v, .int .i64 l] w fun e w' => (((L.length : Int) + (sumB 0 SPathOp.d L L.length : Int) ≤ l ∧ e = .returned (.int .i64 (l - (L.length : Int) - (sumB 0 SPathOp.d L L.length : Int)))) ∨ (l < (L.length : Int) + (sumB 0 SPathOp.d L L.length : Int) ∧ e = .returned (.int .i64 (-1)))) ∧ Below w.heap.size w w' := by
  by_cases hov : l < (L.length : Int)
  · obtain ⟨ao, cp, rfl⟩ := h.form
    have h2 : l < (L.length : Int) + (sumB 0 SPathOp.d L L.length : Int) := by omega
    have hdd : l - (L.length : Int) < 0 := by omega
    have HH : Hid _ := h2
    clear h hd h2
    generalize L.length = m at *
    go_enter Try.func4, Try.ntmps4
    go_wp2
    go_ret
    exact ⟨Or.inr ⟨HH.out, rfl⟩, Below.refl _ _⟩
  obtain ⟨m, em⟩ : ∃ m, m = L.length := ⟨_, rfl⟩
  by_cases h0 : 0 < m
  · obtain ⟨b, off, cap, rfl, hbl, U, hc, hr⟩ := h.at' (by omega)
    rw [← em] at hc hr hov hm hd ⊢
    have HH : Hid _ := And.intro hc (And.intro hr hd)
    have hdd : ¬ (l - (m : Int) < 0) := by omega
    obtain ⟨l0, el0⟩ : ∃ l0, l0 = l - (m : Int) := ⟨_, rfl⟩
    have EL : Hid _ := And.intro el0 True.intro
    have hl0' : 0 ≤ l0 ∧ l0 ≤ 4194304 := by omega
    have hw0 : l - (m : Int) = l0 := el0.symm
    have hdd' : ¬ (l0 < 0) := by omega
    clear hc hr h hd em el0 hdd
    go_enter Try.func4, Try.ntmps4
    go_wp2_with fail
    try rw [hw0]
    clear hw0
    go_loopg [1, 5] m (fun z s i wr => ∃ k : Nat, k ≤ m ∧ z = m - k ∧ i = .int .i64 (k : Int) ∧ s = .int .i64 (l0 - (sumB 0 SPathOp.d L k : Int)) ∧ (sumB 0 SPathOp.d L k : Int) ≤ l0 ∧ Below w.heap.size w wr)
    case atStart => exact ⟨0, by omega, by omega, rfl, by simp [sumB], by simp [sumB]; exact hl0'.1, Below.refl _ _⟩
    case round =>
      obtain ⟨k, hk, hz, rfl, rfl, hsk, bw⟩ := hrel
      by_cases hlt : k < m
      · obtain ⟨uk, euk⟩ : ∃ u, u = U k := ⟨_, rfl⟩
        have hck := HH.out.1 k hlt
        have hrk := (HH.out.2.1 k hlt).below bw
        rw [← euk] at hck hrk
        obtain ⟨x0, ex0⟩ : ∃ x, x = (L.getD k default).f0 := ⟨_, rfl⟩
        obtain ⟨x1, ex1⟩ : ∃ x, x = (L.getD k default).f1 := ⟨_, rfl⟩
        obtain ⟨x2, ex2⟩ : ∃ x, x = (L.getD k default).f2 := ⟨_, rfl⟩
        have c0 : wr.cell? ⟨b, off + k * 4, none⟩ = some (.int .i64 x0) := by have t := (bw.cell (p := ⟨b, off + (k * 4 + 0), none⟩) hbl).trans (hck 0 (by omega)); rw [ex0]; exact t
        have c1 : wr.cell? ⟨b, off + k * 4 + 1, none⟩ = some (.int .i64 x1) := by have t := (bw.cell (p := ⟨b, off + (k * 4 + 1), none⟩) hbl).trans (hck 1 (by omega)); rw [ex1]; exact t
        have c2 : wr.cell? ⟨b, off + k * 4 + 2, none⟩ = some (.int .i64 x2) := by have t := (bw.cell (p := ⟨b, off + (k * 4 + 2), none⟩) hbl).trans (hck 2 (by omega)); rw [ex2]; exact t
        have c3 : wr.cell? ⟨b, off + k * 4 + 3, none⟩ = some (uk) := by have t := (bw.cell (p := ⟨b, off + (k * 4 + 3), none⟩) hbl).trans (hck 3 (by omega)); exact t
        have hdk := HH.out.2.2 k hlt
        obtain ⟨s, es⟩ : ∃ s, s = l0 - (sumB 0 SPathOp.d L k : Int) := ⟨_, rfl⟩
        obtain ⟨ys, eys⟩ : ∃ ys, ys = (L.getD k default).d := ⟨_, rfl⟩
        rw [← eys] at hrk hdk
        have hs1 : sumB 0 SPathOp.d L (k + 1) = sumB 0 SPathOp.d L k + ys.length := by rw [eys]; simp [sumB]
        have hmo := sumB_mono 0 SPathOp.d L (show k + 1 ≤ m by omega)
        rw [← es]
        by_cases hfit : (ys.length : Int) ≤ s
        · have C := szPathOp_fit x0 x1 x2 uk ys s wr hrk hfit (by omega)
          obtain ⟨s1, es1⟩ : ∃ s1, s1 = s - (ys.length : Int) := ⟨_, rfl⟩
          rw [← es1] at C
          have hn1 : ¬ (s1 < 0) := by omega
          have H2 : Hid _ := And.intro C (And.intro es (And.intro es1 (And.intro hs1 bw)))
          clear C es es1 hs1 hmo bw hck hrk eys ex0 ex1 ex2 euk hsk
          go_wp2_with (go_at_call 13; refine H2.out.1.mono ?_; rintro e w2 ⟨rfl, b2⟩)
          have B2 : Hid _ := And.intro b2 True.intro
          clear b2
          go_roundg (m - (k + 1))
          case measure => omega
          case rel =>
            obtain ⟨_, es, es1, hs1, bw⟩ := H2.out
            exact ⟨k + 1, by omega, rfl, by go_num, by rw [hs1, es1, es]; congr 1; omega, by rw [hs1]; omega, bw.trans (B2.out.1.mono bw.size)⟩
        · have C := szPathOp_over x0 x1 x2 uk ys s wr hrk hdk (by omega) (by omega)
          have hall : l < (m : Int) + (sumB 0 SPathOp.d L m : Int) := by have := EL.out.1; omega
          have H2 : Hid _ := And.intro C (And.intro hall bw)
          clear C es hs1 hmo bw hck hrk eys ex0 ex1 ex2 euk hall hsk
          go_wp2_with (go_at_call 13; refine H2.out.1.mono ?_; rintro e w2 ⟨rfl, b2⟩)
          go_ret
          exact ⟨Or.inr ⟨H2.out.2.1, rfl⟩, H2.out.2.2.trans (b2.mono H2.out.2.2.size)⟩
      · obtain rfl : k = m := by omega
        have H2 : Hid _ := And.intro bw hsk
        clear bw hsk
        go_wp2
        go_ret
        refine ⟨Or.inl ⟨by have := H2.out.2; have := EL.out.1; omega, by rw [EL.out.1]; rfl⟩, H2.out.1⟩
  · have e0 : L = [] := List.eq_nil_of_length_eq_zero (by omega)
    subst e0
    obtain ⟨ao, cp, rfl⟩ := h.form
    have hdd : ¬ (l - (0 : Int) < 0) := by omega
    clear h hd em
    go_enter Try.func4, Try.ntmps4
    go_wp2_with fail
    refine wp_loop_rounds 1 ?_
    rw [rounds_succ]
    go_wp2
    go_ret
    exact ⟨Or.inl ⟨by simp [sumB]; omega, by simp [sumB]⟩, Below.refl _ _⟩
set_option maxRecDepth 20000 in
set_option maxHeartbeats 4000000 in
theorem toPathOpS (v : Value) (L : List SPathOp) (w : World) (h : BRow 4 SPathOp.c SPathOp.d w v L) (hR : L.length ≤ 1048576) (hd : ∀ j, j < L.length → (L.getD j default).d.length ≤ 140737488355328) :
    Calls Try.prog 6 #[v] w fun e w' => ∃ r, e = .returned r ∧ BOwns 43 4 SPathOp.c SPathOp.d w' w.heap.size r L ∧ Below w.heap.size w w' := by
  obtain ⟨ao, cp, rfl⟩ := h.form
  obtain ⟨i0, hi, hz0, hz1, hz2⟩ := info_parts infoPathOp
  have HH : Hid _ := And.intro h hd
  obtain ⟨m, em⟩ : ∃ m, m = L.length := ⟨_, rfl⟩
  have EM : Hid _ := And.intro em True.intro
  rw [← em] at hR ⊢
  rw [← em] at HH
  clear h em hd
  go_enter Try.func6, Try.ntmps6
  go_wp2_with (at_make; refine wpList_make_full _ rfl _ _ 27 rfl w.heap.size 43 i0 (.agg #[.int .i64 0, .int .i64 0, .int .i64 0, .slice none 0 0]) 4 Try.underlying27 hi hz0 hz1 .i64 .i64 (m : Int) (m : Int) m rfl rfl rfl rfl (by rw [hz2]; omega) (by unfold maxLen; omega) (Nat.le_refl _) ?_; intro w1 hown hg)
  have H1 : Hid _ := And.intro hown ((Below.refl w.heap.size w).grown hg (Nat.le_refl _) (by intro k hk; cases hk))
  clear hown hg
  go_loopw [4] (fun i wr => ∃ k : Nat, k ≤ m ∧ i = .int .i64 k ∧ ∃ (zs : List Value) (U : Nat → Value), zs.length = m * 4 ∧ wr.ownsRow w.heap.size 43 4 (.slice (some ⟨w.heap.size, 0, none⟩) m m) m zs ∧ (∀ j, j < k → ∀ f, f < 4 → zs[j * 4 + f]? = ((L.getD j default).c (U j))[f]?) ∧ Below w.heap.size w wr ∧
      (∀ j, j < k → wr.ownsRow (w.heap.size + 1) 5 1 (U j) (L.getD j default).d.length ((L.getD j default).d.map (Value.int .u8))) ∧ (∀ (i j : Nat), i < j → j < k → ∀ t, (U j).ownBlock = some t → some t ≠ (U i).ownBlock)) (fun i _ => m - (intOf i).toNat)
  case atStart => exact ⟨0, by omega, rfl, _, fun _ => .slice none 0 0, by have := H1.out.1.1; simpa using this, H1.out.1, fun j hj => by omega, H1.out.2, fun j hj => by omega, fun i j _ hj => by omega⟩
  case round =>
    obtain ⟨k, hk, rfl, zs, U, hzl, ow, hu, hb, hin, hap⟩ := hrel
    by_cases hlt : k < m
    · obtain ⟨b, off, cap, ev, hbl, U0, hc, hr⟩ := HH.out.1.at' (by have := EM.out.1; omega)
      simp only [Value.slice.injEq] at ev
      obtain ⟨rfl, em2, rfl⟩ := ev
      clear em2
      have hck := hc k (by have := EM.out.1; omega)
      have hrk := (hr k (by have := EM.out.1; omega)).below hb
      have hdk := HH.out.2 k (by have := EM.out.1; omega)
      have hgl : w.heap.size < wr.heap.size := (ow.lt w.heap.size rfl).2
      obtain ⟨uk, euk⟩ : ∃ u, u = U0 k := ⟨_, rfl⟩
      rw [← euk] at hck hrk
      obtain ⟨x0, ex0⟩ : ∃ x, x = (L.getD k default).f0 := ⟨_, rfl⟩
      obtain ⟨x1, ex1⟩ : ∃ x, x = (L.getD k default).f1 := ⟨_, rfl⟩
      obtain ⟨x2, ex2⟩ : ∃ x, x = (L.getD k default).f2 := ⟨_, rfl⟩
      have c0 : wr.cell? ⟨b, off + k * 4, none⟩ = some (.int .i64 x0) := by have t := (hb.cell (p := ⟨b, off + (k * 4 + 0), none⟩) hbl).trans (hck 0 (by omega)); rw [ex0]; exact t
      have c1 : wr.cell? ⟨b, off + k * 4 + 1, none⟩ = some (.int .i64 x1) := by have t := (hb.cell (p := ⟨b, off + (k * 4 + 1), none⟩) hbl).trans (hck 1 (by omega)); rw [ex1]; exact t
      have c2 : wr.cell? ⟨b, off + k * 4 + 2, none⟩ = some (.int .i64 x2) := by have t := (hb.cell (p := ⟨b, off + (k * 4 + 2), none⟩) hbl).trans (hck 2 (by omega)); rw [ex2]; exact t
      have c3 : wr.cell? ⟨b, off + k * 4 + 3, none⟩ = some (uk) := by have t := (hb.cell (p := ⟨b, off + (k * 4 + 3), none⟩) hbl).trans (hck 3 (by omega)); exact t
      obtain ⟨ys, eys⟩ : ∃ ys, ys = (L.getD k default).d := ⟨_, rfl⟩
      rw [← eys] at hrk hdk
      have C := toPathOp x0 x1 x2 uk ys wr hrk hdk
      have H2 : Hid _ := And.intro (And.intro ex0 (And.intro ex1 (And.intro ex2 (True.intro)))) (And.intro ow (And.intro hu (And.intro hb (And.intro hzl (And.intro hgl (And.intro hin (And.intro hap (And.intro C eys))))))))
      clear ow hu hb hc hck hzl hin hap hr hrk C eys euk ex0 ex1 ex2
      go_wp2_with fail
      go_at_call 17
      refine (H2.out.2.2.2.2.2.2.2.2.1).mono ?_
      rintro e w2 ⟨r, rfl, or2, bq⟩
      have ow2 := owns_below H2.out.2.1 bq
      obtain ⟨aor, cpr, hrr⟩ := (row_of_owns or2).form
      have d0 : k * 4 < m * 4 := by omega
      have s0 : w2.cell? ⟨w.heap.size, k * 4, none⟩ = zs[k * 4]? := ow2.cellAt (k * 4) d0
      obtain ⟨z0, hz0'⟩ : ∃ z, zs[k * 4]? = some z := ⟨zs[k * 4]'(by have := H2.out.2.2.2.2.1; omega), by simp [H2.out.2.2.2.2.1, d0]⟩
      rw [hz0'] at s0
      have f0 := ow2.frozenAt (k * 4)
      have d1 : k * 4 + 1 < m * 4 := by omega
      have s1 : w2.cell? ⟨w.heap.size, k * 4 + 1, none⟩ = zs[k * 4 + 1]? := ow2.cellAt (k * 4 + 1) d1
      obtain ⟨z1, hz1'⟩ : ∃ z, zs[k * 4 + 1]? = some z := ⟨zs[k * 4 + 1]'(by have := H2.out.2.2.2.2.1; omega), by simp [H2.out.2.2.2.2.1, d1]⟩
      rw [hz1'] at s1
      have f1 := ow2.frozenAt (k * 4 + 1)
      have d2 : k * 4 + 2 < m * 4 := by omega
      have s2 : w2.cell? ⟨w.heap.size, k * 4 + 2, none⟩ = zs[k * 4 + 2]? := ow2.cellAt (k * 4 + 2) d2
      obtain ⟨z2, hz2'⟩ : ∃ z, zs[k * 4 + 2]? = some z := ⟨zs[k * 4 + 2]'(by have := H2.out.2.2.2.2.1; omega), by simp [H2.out.2.2.2.2.1, d2]⟩
      rw [hz2'] at s2
      have f2 := ow2.frozenAt (k * 4 + 2)
      have d3 : k * 4 + 3 < m * 4 := by omega
      have s3 : w2.cell? ⟨w.heap.size, k * 4 + 3, none⟩ = zs[k * 4 + 3]? := ow2.cellAt (k * 4 + 3) d3
      obtain ⟨z3, hz3'⟩ : ∃ z, zs[k * 4 + 3]? = some z := ⟨zs[k * 4 + 3]'(by have := H2.out.2.2.2.2.1; omega), by simp [H2.out.2.2.2.2.1, d3]⟩
      rw [hz3'] at s3
      have f3 := ow2.frozenAt (k * 4 + 3)
      have H3 : Hid _ := And.intro ow2 (And.intro bq (And.intro or2 hrr))
      clear ow2 bq or2 hz0' hz1' hz2' hz3'
      subst hrr
      go_wp2
      go_roundw
      case rel =>
        obtain ⟨r, er⟩ : ∃ r : Value, r = .slice aor ys.length cpr := ⟨_, rfl⟩
        have hg : ∀ t : Value, w.heap.size < w.heap.size + 1 := fun _ => by omega
        have hlow : ∀ j, j < k → w2.ownsRow (w.heap.size + 1) 5 1 (U j) (L.getD j default).d.length ((L.getD j default).d.map (Value.int .u8)) := fun j hj => owns_below (H2.out.2.2.2.2.2.2.1 j hj) H3.out.2.1
        have hnew : w2.ownsRow (w.heap.size + 1) 5 1 r ys.length (ys.map (Value.int .u8)) := by rw [er]; exact owns_mono H3.out.2.2.1 H2.out.2.2.2.2.2.1
        rw [← er]
        refine ⟨k + 1, by omega, by go_num, ((((zs.set (k * 4) (.int .i64 x0)).set (k * 4 + 1) (.int .i64 x1)).set (k * 4 + 2) (.int .i64 x2)).set (k * 4 + 3) (r)), fun j => if j = k then r else U j, by simp only [List.length_set]; exact H2.out.2.2.2.2.1, ((((H3.out.1.stored (k * 4) _).1.stored (k * 4 + 1) _).1.stored (k * 4 + 2) _).1.stored (k * 4 + 3) _).1, fun j hj f hf => ?_, (((((H2.out.2.2.2.1.trans (H3.out.2.1.mono H2.out.2.2.2.1.size)).setCell (Nat.le_refl _) _).setCell (Nat.le_refl _) _).setCell (Nat.le_refl _) _).setCell (Nat.le_refl _) _), fun j hj => ?_, fun i j hij hj t ht => ?_⟩
        · have hl2 : zs.length = m * 4 := H2.out.2.2.2.2.1
          dsimp only
          by_cases hjk : j = k
          · subst hjk
            obtain ⟨ey0, ey1, ey2, -⟩ := H2.out.1
            rw [if_pos rfl]
            unfold SPathOp.c
            rw [← ey0, ← ey1, ← ey2]
            obtain rfl | rfl | rfl | rfl : f = 0 ∨ f = 1 ∨ f = 2 ∨ f = 3 := by omega
            · rw [show j * 4 + 0 = j * 4 from rfl, List.getElem?_set_ne (by omega), List.getElem?_set_ne (by omega), List.getElem?_set_ne (by omega), List.getElem?_set_self (by first | omega | (simp only [List.length_set]; omega))]; rfl
            · rw [List.getElem?_set_ne (by omega), List.getElem?_set_ne (by omega), List.getElem?_set_self (by first | omega | (simp only [List.length_set]; omega))]; rfl
            · rw [List.getElem?_set_ne (by omega), List.getElem?_set_self (by first | omega | (simp only [List.length_set]; omega))]; rfl
            · rw [List.getElem?_set_self (by first | omega | (simp only [List.length_set]; omega))]; rfl
          · have u := H2.out.2.2.1 j (by omega) f hf
            rw [if_neg hjk, List.getElem?_set_ne (by omega), List.getElem?_set_ne (by omega), List.getElem?_set_ne (by omega), List.getElem?_set_ne (by omega)]; exact u
        · dsimp only
          by_cases hjk : j = k
          · rw [if_pos hjk, hjk, ← H2.out.2.2.2.2.2.2.2.2.2]
            have hx := hnew
            exact owns_set8 (i := k * 4 + 3) (owns_set8 (i := k * 4 + 2) (owns_set8 (i := k * 4 + 1) (owns_set8 (i := k * 4) (hx) (g := w.heap.size) (by omega)) (g := w.heap.size) (by omega)) (g := w.heap.size) (by omega)) (g := w.heap.size) (by omega)
          · rw [if_neg hjk]
            have hx := hlow j (by omega)
            exact owns_set8 (i := k * 4 + 3) (owns_set8 (i := k * 4 + 2) (owns_set8 (i := k * 4 + 1) (owns_set8 (i := k * 4) (hx) (g := w.heap.size) (by omega)) (g := w.heap.size) (by omega)) (g := w.heap.size) (by omega)) (g := w.heap.size) (by omega)
        · dsimp only at ht ⊢
          by_cases hjk : j = k
          · subst hjk
            rw [if_pos rfl] at ht
            rw [if_neg (by omega)]
            have hx := (H2.out.2.2.2.2.2.2.1 i hij)
            intro e
            have a1 := (hx.lt t e.symm).2
            have a2 := (H3.out.2.2.1.lt t (by rw [← er]; exact ht)).1
            omega
          · rw [if_neg hjk] at ht
            rw [if_neg (by omega)]
            exact H2.out.2.2.2.2.2.2.2.1 i j hij (by omega) t ht
      case measure => simp [intOf]; omega
    · obtain rfl : k = m := by omega
      have H2 : Hid _ := And.intro ow (And.intro hu (And.intro hb (And.intro hin hap)))
      clear ow hu hb hin hap
      go_wp2
      go_ret
      refine ⟨_, rfl, ⟨U, ⟨zs, by rw [zl_length, ← EM.out.1]; exact H2.out.1, fun j hj f hf => by rw [zl_length] at hj; rw [zl_at _ _ _ _ hj]; exact H2.out.2.1 j (by have := EM.out.1; omega) f hf⟩, fun j hj => owns_mono (H2.out.2.2.2.1 j (by have := EM.out.1; omega)) (by omega), fun i j hij hj => H2.out.2.2.2.2 i j hij (by have := EM.out.1; omega)⟩, H2.out.2.2.1⟩
theorem eqPathOpS_nil (ao bo : Option Addr) (ca cb : Nat) (w : World) :
    Calls Try.prog 9 #[.slice ao 0 ca, .slice bo 0 cb] w fun e w' => e = .returned (.bool true) ∧ Below w.heap.size w w' := by
  go_enter Try.func9, Try.ntmps9
  go_wp2_with fail
  refine wp_loop_rounds 1 ?_
  rw [rounds_succ]
  go_wp2
  go_ret
  exact ⟨rfl, Below.refl _ _⟩
set_option maxRecDepth 20000 in
set_option maxHeartbeats 4000000 in
theorem eqPathOpS_core (L : List SPathOp) (U U' : Nat → Value) (m b off ca b' off' cb : Nat) (w : World) (hm : m ≤ 1048576) (hbl : b < w.heap.size) (hbl' : b' < w.heap.size)
    (hc : ∀ j, j < m → ∀ f, f < 4 → w.cell? ⟨b, off + (j * 4 + f), none⟩ = ((L.getD j default).c (U j))[f]?) (hc' : ∀ j, j < m → ∀ f, f < 4 → w.cell? ⟨b', off' + (j * 4 + f), none⟩ = ((L.getD j default).c (U' j))[f]?)
    (hr : ∀ j, j < m → Row w .u8 (U j) (L.getD j default).d) (hr' : ∀ j, j < m → Row w .u8 (U' j) (L.getD j default).d) (hd : ∀ j, j < m → (L.getD j default).d.length ≤ 140737488355328) :
    Calls Try.prog 9 #[.slice (some ⟨b, off, none⟩) m ca, .slice (some ⟨b', off', none⟩) m cb] w fun e w' => e = .returned (.bool true) ∧ Below w.heap.size w w' := by
  have HH : Hid _ := And.intro hc hc'
  have HR : Hid _ := And.intro hr (And.intro hr' hd)
  clear hc hc' hr hr' hd
  have hmm : ((m : Int) != (m : Int)) = false := by simp
  go_enter Try.func9, Try.ntmps9
  go_wp2_with fail
  go_loopg [5] m (fun q i wr => ∃ k : Nat, k ≤ m ∧ q = m - k ∧ i = .int .i64 (k : Int) ∧ Below w.heap.size w wr)
  case atStart => exact ⟨0, by omega, by omega, rfl, Below.refl _ _⟩
  case round =>
    obtain ⟨k, hk, hq, rfl, bw⟩ := hrel
    by_cases hlt : k < m
    · have bd : Below w.heap.size w wr.drew := below_drewN bw 1
      obtain ⟨uk, euk⟩ : ∃ u, u = U k := ⟨_, rfl⟩
      obtain ⟨uk', euk'⟩ : ∃ u, u = U' k := ⟨_, rfl⟩
      have hck := HH.out.1 k hlt
      have hck' := HH.out.2 k hlt
      have hrk := (HR.out.1 k hlt).below bd
      have hrk' := (HR.out.2.1 k hlt).below bd
      rw [← euk] at hck hrk
      rw [← euk'] at hck' hrk'
      obtain ⟨x0, ex0⟩ : ∃ x, x = (L.getD k default).f0 := ⟨_, rfl⟩
      obtain ⟨x1, ex1⟩ : ∃ x, x = (L.getD k default).f1 := ⟨_, rfl⟩
      obtain ⟨x2, ex2⟩ : ∃ x, x = (L.getD k default).f2 := ⟨_, rfl⟩
      have c0 : wr.drew.cell? ⟨b, off + k * 4, none⟩ = some (.int .i64 x0) := by have t := (bd.cell (p := ⟨b, off + (k * 4 + 0), none⟩) hbl).trans (hck 0 (by omega)); rw [ex0]; exact t
      have c1 : wr.drew.cell? ⟨b, off + k * 4 + 1, none⟩ = some (.int .i64 x1) := by have t := (bd.cell (p := ⟨b, off + (k * 4 + 1), none⟩) hbl).trans (hck 1 (by omega)); rw [ex1]; exact t
      have c2 : wr.drew.cell? ⟨b, off + k * 4 + 2, none⟩ = some (.int .i64 x2) := by have t := (bd.cell (p := ⟨b, off + (k * 4 + 2), none⟩) hbl).trans (hck 2 (by omega)); rw [ex2]; exact t
      have c3 : wr.drew.cell? ⟨b, off + k * 4 + 3, none⟩ = some (uk) := by have t := (bd.cell (p := ⟨b, off + (k * 4 + 3), none⟩) hbl).trans (hck 3 (by omega)); exact t
      have d0 : wr.drew.cell? ⟨b', off' + k * 4, none⟩ = some (.int .i64 x0) := by have t := (bd.cell (p := ⟨b', off' + (k * 4 + 0), none⟩) hbl').trans (hck' 0 (by omega)); rw [ex0]; exact t
      have d1 : wr.drew.cell? ⟨b', off' + k * 4 + 1, none⟩ = some (.int .i64 x1) := by have t := (bd.cell (p := ⟨b', off' + (k * 4 + 1), none⟩) hbl').trans (hck' 1 (by omega)); rw [ex1]; exact t
      have d2 : wr.drew.cell? ⟨b', off' + k * 4 + 2, none⟩ = some (.int .i64 x2) := by have t := (bd.cell (p := ⟨b', off' + (k * 4 + 2), none⟩) hbl').trans (hck' 2 (by omega)); rw [ex2]; exact t
      have d3 : wr.drew.cell? ⟨b', off' + k * 4 + 3, none⟩ = some (uk') := by have t := (bd.cell (p := ⟨b', off' + (k * 4 + 3), none⟩) hbl').trans (hck' 3 (by omega)); exact t
      have H4 : Hid _ := And.intro (eqPathOp x0 x1 x2 uk uk' _ wr.drew hrk hrk' (HR.out.2.2 k hlt)) bd
      clear bd ex0 ex1 ex2 hck hck' hrk hrk' euk euk'
      go_upto_region 6 with fail
      go_cut [26] from 11 to 26 (fun cv wx => cv = .bool false ∧ Below w.heap.size w wx)
      case first =>
        go_region_with (go_at_call 22; refine H4.out.1.mono ?_; rintro e wz ⟨rfl, hz⟩)
        all_goals (go_wp2_with fail; go_meet; exact ⟨rfl, H4.out.2.trans (hz.mono H4.out.2.size)⟩)
      case rest =>
      obtain ⟨rfl, bc⟩ := hcut
      have H5 : Hid _ := And.intro bc True.intro
      clear bc bw c0 d0 c1 d1 c2 d2 c3 d3
      go_wp2
      go_roundg (m - (k + 1))
      case measure => omega
      case rel => exact ⟨k + 1, by omega, rfl, by go_num, H5.out.1⟩
    · have H4 : Hid _ := And.intro bw True.intro
      clear bw
      go_wp2
      go_ret
      exact ⟨rfl, H4.out.1⟩
theorem eqPathOpS (va vb : Value) (L : List SPathOp) (w : World) (ha : BRow 4 SPathOp.c SPathOp.d w va L) (hb : BRow 4 SPathOp.c SPathOp.d w vb L) (hm : L.length ≤ 1048576) (hd : ∀ j, j < L.length → (L.getD j default).d.length ≤ 140737488355328) :
    Calls Try.prog 9 #[va, vb] w fun e w' => e = .returned (.bool true) ∧ Below w.heap.size w w' := by
  by_cases h0 : 0 < L.length
  · obtain ⟨b, off, ca, rfl, hbl, U, hc, hr⟩ := ha.at' h0
    obtain ⟨b', off', cb, rfl, hbl', U', hc', hr'⟩ := hb.at' h0
    exact eqPathOpS_core L U U' _ b off ca b' off' cb w hm hbl hbl' hc hc' hr hr' hd
  · obtain rfl : L = [] := List.eq_nil_of_length_eq_zero (by omega)
    obtain ⟨ao, ca, rfl⟩ := ha.form
    obtain ⟨bo, cb, rfl⟩ := hb.form
    exact eqPathOpS_nil ao bo ca cb w
end Go.Proofs.Ytjikdecfampbiaa
