import Derived.Test.YtaodcahkkeobdaaAbS
namespace Go.Proofs.Ytaodcahkkeobdaa
open Go.RowKit
set_option linter.unusedVariables false

set_option maxRecDepth 20000 in
set_option maxHeartbeats 8000000 in
theorem abS_ok (h : F8) (a2 a3 a4 : Option Addr) (p2 p3 p4 : Nat) (xs : List Int) (ao : Option Addr) (cp : Nat) (w : World) (hrow : FRow w (.agg #[.int .i64 h.k, .int .i64 h.a, .int .i64 h.b, .int .i64 h.c, .bool h.fin, .slice a2 h.d.length p2, .slice a3 h.t.length p3, .slice a4 h.r.length p4]) h) (hx : Row w .i64 (.slice ao xs.length cp) xs) (hl : xs.length ≤ 4096) (hk : h.k = 2) (hS : ∀ v w, FRow w v h → Calls Try.prog 33 #[v] w fun e w' => e = .returned (.bool true) ∧ Below w.heap.size w w') (hr : rokV h.r = true) (hR : h.r.length ≤ 1048576) (hall : ∀ j, j < xs.length → ngood xs j) :
    Calls Try.prog 15 #[.agg #[.int .i64 h.k, .int .i64 h.a, .int .i64 h.b, .int .i64 h.c, .bool h.fin, .slice a2 h.d.length p2, .slice a3 h.t.length p3, .slice a4 h.r.length p4], .slice ao xs.length cp] w fun e w' => ∃ r, e = .returned (.tuple #[r, .int .i64 0]) ∧ w'.ownsRow w.heap.size 3 1 r (accL h.r xs).length ((accL h.r xs).map (Value.int .i64)) ∧ Below w.heap.size w w' := by
  have A0 : Below w.heap.size w (w.alloc (.cells #[.int .i64 h.k, .int .i64 h.a, .int .i64 h.b, .int .i64 h.c, .bool h.fin, .slice a2 h.d.length p2, .slice a3 h.t.length p3, .slice a4 h.r.length p4] 27)) := (Below.refl _ _).alloc (Nat.le_refl _) _
  have K0 := heap_alloc_new w (.cells #[.int .i64 h.k, .int .i64 h.a, .int .i64 h.b, .int .i64 h.c, .bool h.fin, .slice a2 h.d.length p2, .slice a3 h.t.length p3, .slice a4 h.r.length p4] 27)
  have OK := hS _ _ (hrow.below A0)
  have HH : Hid _ := And.intro A0 (And.intro K0 (And.intro OK (And.intro hrow hx)))
  obtain ⟨m, em⟩ : ∃ m, m = xs.length := ⟨_, rfl⟩
  have EM : Hid _ := And.intro em True.intro
  rw [← em] at hl HH ⊢
  clear A0 K0 OK hS hrow hx em
  have hd : decide ((4096 : Int) < (m : Int)) = false := decide_eq_false (by omega)
  have hk2 : (h.k != 2) = false := by simp [hk]
  clear hk
  go_enter Try.func15, Try.ntmps15
  go_wp2_with fail
  go_at_call 33
  refine HH.out.2.2.1.mono ?_
  rintro e w1 ⟨rfl, b1⟩
  have K1 := (b1.block w.heap.size (by simp)).trans HH.out.2.1
  have L1 : w.heap.size < w1.heap.size := (Array.getElem?_eq_some_iff.1 K1).1
  have B1 := HH.out.1.trans (b1.mono HH.out.1.size)
  have H1 : Hid _ := And.intro B1 K1
  clear b1 K1 B1
  go_wp2_with fail
  go_loopg [6] m (fun q i wr => ∃ k : Nat, k ≤ m ∧ q = m - k ∧ i = .int .i64 (k : Int) ∧ Below w1.heap.size w1 wr ∧ ∀ j, j < k → ngood xs j)
  case atStart => exact ⟨0, by omega, by omega, rfl, Below.refl _ _, fun j hj => by omega⟩
  case round =>
    obtain ⟨k, hk0, hq, rfl, bw1, hgd⟩ := hrel
    by_cases hlt : k < m
    · have bw := H1.out.1.trans (bw1.mono H1.out.1.size)
      obtain ⟨b, off, cap, ev, hbl, hc⟩ := HH.out.2.2.2.2.at (by have := EM.out.1; omega)
      simp only [Value.slice.injEq] at ev
      obtain ⟨rfl, em2, rfl⟩ := ev
      clear em2
      obtain ⟨x, ex⟩ : ∃ x, x = xs.getD k 0 := ⟨_, rfl⟩
      have c0 := (bw.cell (p := ⟨b, off + k, none⟩) hbl).trans (hc k (by have := EM.out.1; omega))
      rw [← ex] at c0
      have hbr : b < wr.heap.size := Nat.lt_of_lt_of_le hbl bw.size
      by_cases hg : ngood xs k
      · have hv : nin x = true := by rw [ex]; exact hg.1
        have VN := fun w => varC x w
        rw [hv] at VN
        have V : Hid _ := And.intro VN True.intro
        have H2 : Hid _ := And.intro hg (And.intro bw1 hgd)
        clear VN
        cases k with
        | zero =>
          clear hg bw1 bw hgd hc ex
          rw [Nat.add_zero] at c0
          have d4 : decide ((0 : Int) < 0) = false := rfl
          go_wp2_with fail
          go_quiet (first | (go_at_call 23; exact Calls.quiet_of_same (V.out.1 _)))
          go_wp2
          go_roundg (m - (0 + 1))
          case measure => omega
          case rel => exact ⟨0 + 1, by omega, rfl, by go_num, below_drewN H2.out.2.1 _, fun j hj => by
            by_cases e : j = 0
            · rw [e]; exact H2.out.1
            · exact H2.out.2.2 j (by omega)⟩
        | succ k =>
          have ek : ((k + 1 : Nat) : Int) = (k : Int) + 1 := by simp
          obtain ⟨y, ey⟩ : ∃ y, y = xs.getD k 0 := ⟨_, rfl⟩
          have c1 := (bw.cell (p := ⟨b, off + k, none⟩) hbl).trans (hc k (by have := EM.out.1; omega))
          rw [← ey] at c1
          have h3 : ¬ (x ≤ y) := by have := hg.2 (by omega); rw [Nat.add_sub_cancel] at this; rw [ex, ey]; omega
          have d3 : decide (x ≤ y) = false := decide_eq_false h3
          have hw : IntKind.i64.wrap ((k : Int) + 1 - 1) = (k : Int) := by rw [IntKind.wrap_i64]; omega
          have EX : Hid _ := And.intro ex ey
          clear hg bw1 bw hgd hc ex ey h3
          rw [ek]
          go_wp2_with fail
          go_quiet (first | (go_at_call 23; exact Calls.quiet_of_same (V.out.1 _)))
          go_wp2
          go_roundg (m - (k + 1 + 1))
          case measure => omega
          case rel => exact ⟨k + 1 + 1, by omega, rfl, by go_num, below_drewN H2.out.2.1 _, fun j hj => by
            by_cases e : j = k + 1
            · rw [e]; exact H2.out.1
            · exact H2.out.2.2 j (by omega)⟩
      · exact absurd (hall k (by have := EM.out.1; omega)) hg
    · obtain rfl : k = m := by omega
      have B0 := H1.out.1.trans (bw1.mono H1.out.1.size)
      have KB := (bw1.block w.heap.size L1).trans H1.out.2
      have LB : w.heap.size < wr.heap.size := (Array.getElem?_eq_some_iff.1 KB).1
      obtain ⟨_, _, _, _, _, _, ev5, _, _, rR⟩ := HH.out.2.2.2.1.parts
      simp only [Value.agg.injEq, Array.mk.injEq, List.cons.injEq, Value.slice.injEq, true_and, and_true] at ev5
      obtain ⟨⟨rfl, rfl⟩, ⟨rfl, rfl⟩, rfl, rfl⟩ := ev5
      have HX := fun (x : Int) (W : World) (hb : Below w.heap.size w W) => rhasS_ok h.r hr hR (.slice a4 h.r.length p4) x W (rR.below hb)
      have H5 : Hid _ := And.intro B0 (And.intro KB HX)
      clear bw1 hgd B0 KB HX rR
      rename World => we
      go_wp2_with fail
      go_loopg [7, 8] k (fun q v i wr => ∃ j : Nat, j ≤ k ∧ q = k - j ∧ i = .int .i64 (j : Int) ∧ wr.ownsRow we.heap.size 3 1 v (accL h.r (xs.take j)).length ((accL h.r (xs.take j)).map (Value.int .i64)) ∧ Below we.heap.size we wr)
      case atStart => exact ⟨0, by omega, by omega, rfl, World.ownsRow_lit _ #[] 0 (Nat.le_refl _) (by decide) rfl, (Below.refl _ _).alloc (Nat.le_refl _) _⟩
      case round =>
        obtain ⟨j, hj0, hq2, rfl, ow, bs⟩ := hrel
        by_cases hlt2 : j < k
        · have bw := H5.out.1.trans (bs.mono H5.out.1.size)
          obtain ⟨b, off, cap, ev, hbl, hc⟩ := HH.out.2.2.2.2.at (by have := EM.out.1; omega)
          simp only [Value.slice.injEq] at ev
          obtain ⟨rfl, em2, rfl⟩ := ev
          clear em2
          obtain ⟨x, ex⟩ : ∃ x, x = xs.getD j 0 := ⟨_, rfl⟩
          have c0 := (bw.cell (p := ⟨b, off + j, none⟩) hbl).trans (hc j (by have := EM.out.1; omega))
          rw [← ex] at c0
          have hbr : b < wr.heap.size := Nat.lt_of_lt_of_le hbl bw.size
          have KS := (bs.block w.heap.size LB).trans H5.out.2.1
          have k7 : wr.cell? ⟨w.heap.size, 7, none⟩ = some (.slice a4 h.r.length p4) := bk_cell KS 7
          have ls : w.heap.size < wr.heap.size := (Array.getElem?_eq_some_iff.1 KS).1
          have e0 : wr.drew.cell? ⟨b, off + j, none⟩ = some (.int .i64 x) := c0
          have e7 : wr.drew.cell? ⟨w.heap.size, 7, none⟩ = some (.slice a4 h.r.length p4) := k7
          have D : Hid (Below wr.heap.size wr wr.drew) := (Below.refl _ _).drew
          have CH := H5.out.2.2 x wr.drew (bw.trans (D.out.mono bw.size))
          have hal : (accL h.r (xs.take j)).length + 1 ≤ 1099511627776 := by have := accL_length h.r (xs.take j); rw [List.length_take] at this; omega
          have H6 : Hid _ := And.intro ex (And.intro ow (And.intro bs (And.intro bw (And.intro CH (And.intro hal hc)))))
          clear ex ow bs bw CH hal hc KS
          cases hp : rhasV h.r x with
          | true =>
            rw [hp] at H6
            go_wp2_with fail
            go_region_with (go_at_call 34; refine H6.out.2.2.2.2.1.mono ?_; rintro e w5 ⟨rfl, b5⟩)
            all_goals
              have B5 : Below wr.heap.size wr w5 := D.out.trans b5
              have c5 := (B5.cell (p := ⟨b, off + j, none⟩) hbr).trans c0
              have hb5 : b < w5.heap.size := Nat.lt_of_lt_of_le hbr B5.size
              have H7 : Hid _ := And.intro (owns_below H6.out.2.1 B5) (H6.out.2.2.1.trans (B5.mono H6.out.2.2.1.size))
              clear b5 B5
              go_wp2_with (at_builtin; refine wpList_append_int rfl (.tmp 65) (.tmp 70) rfl we.heap.size _ (accL h.r (xs.take j)) rfl (H7.out.1.alloc _) w5.heap.size x rfl (cell1 w5 _ _) H6.out.2.2.2.2.2.1 ((H7.out.2.alloc H7.out.2.size _).size) ?_; intro v6 w6 o6 g6)
              have H8 : Hid _ := And.intro o6 ((H7.out.2.alloc H7.out.2.size _).grown g6 ((H7.out.2.alloc H7.out.2.size _).size) (fun t ht => (H7.out.1.lt t ht).1))
              clear o6 g6
              go_wp2
              go_roundg (k - (j + 1))
              case measure => omega
              case rel => exact ⟨j + 1, by omega, rfl, by go_num, by rw [accL_yes h.r xs j (by have := EM.out.1; omega) (by rw [← H6.out.1]; exact hp), ← H6.out.1]; exact H8.out.1, H8.out.2⟩
          | false =>
            rw [hp] at H6
            go_wp2_with fail
            go_region_with (go_at_call 34; refine H6.out.2.2.2.2.1.mono ?_; rintro e w5 ⟨rfl, b5⟩)
            all_goals
              have B5 : Below wr.heap.size wr w5 := D.out.trans b5
              have H7 : Hid _ := And.intro (owns_below H6.out.2.1 B5) (H6.out.2.2.1.trans (B5.mono H6.out.2.2.1.size))
              clear b5 B5
              go_wp2
              go_roundg (k - (j + 1))
              case measure => omega
              case rel => exact ⟨j + 1, by omega, rfl, by go_num, by rw [accL_no h.r xs j (by have := EM.out.1; omega) (by rw [← H6.out.1]; exact hp)]; exact H7.out.1, H7.out.2⟩
        · obtain rfl : j = k := by omega
          have H6 : Hid _ := And.intro ow bs
          clear ow bs
          go_wp2
          go_ret2
          refine ⟨_, rfl, ?_, H5.out.1.trans (H6.out.2.mono H5.out.1.size)⟩
          have := H6.out.1
          rw [EM.out.1, List.take_length] at this
          exact owns_mono this H5.out.1.size
end Go.Proofs.Ytaodcahkkeobdaa
