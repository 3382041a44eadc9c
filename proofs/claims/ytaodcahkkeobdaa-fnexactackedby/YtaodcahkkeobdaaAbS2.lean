import Derived.Test.YtaodcahkkeobdaaAbS
namespace Go.Proofs.Ytaodcahkkeobdaa
open Go.RowKit
set_option linter.unusedVariables false

set_option maxRecDepth 20000 in
set_option maxHeartbeats 8000000 in
theorem abS_rise (h : F8) (a2 a3 a4 : Option Addr) (p2 p3 p4 : Nat) (xs : List Int) (ao : Option Addr) (cp : Nat) (w : World) (hrow : FRow w (.agg #[.int .i64 h.k, .int .i64 h.a, .int .i64 h.b, .int .i64 h.c, .bool h.fin, .slice a2 h.d.length p2, .slice a3 h.t.length p3, .slice a4 h.r.length p4]) h) (hx : Row w .i64 (.slice ao xs.length cp) xs) (hl : xs.length ≤ 4096) (hk : h.k = 2) (hS : ∀ v w, FRow w v h → Calls Try.prog 33 #[v] w fun e w' => e = .returned (.bool true) ∧ Below w.heap.size w w') (hb : ∃ j, j < xs.length ∧ ¬ ngood xs j) :
    Calls Try.prog 15 #[.agg #[.int .i64 h.k, .int .i64 h.a, .int .i64 h.b, .int .i64 h.c, .bool h.fin, .slice a2 h.d.length p2, .slice a3 h.t.length p3, .slice a4 h.r.length p4], .slice ao xs.length cp] w fun e w' => ∃ r, e = .returned (.tuple #[r, .int .i64 1]) ∧ w'.ownsRow w.heap.size 3 1 r ([] : List Int).length (([] : List Int).map (Value.int .i64)) ∧ Below w.heap.size w w' := by
  have A0 : Below w.heap.size w (w.alloc (.cells #[.int .i64 h.k, .int .i64 h.a, .int .i64 h.b, .int .i64 h.c, .bool h.fin, .slice a2 h.d.length p2, .slice a3 h.t.length p3, .slice a4 h.r.length p4] 27)) := (Below.refl _ _).alloc (Nat.le_refl _) _
  have K0 := heap_alloc_new w (.cells #[.int .i64 h.k, .int .i64 h.a, .int .i64 h.b, .int .i64 h.c, .bool h.fin, .slice a2 h.d.length p2, .slice a3 h.t.length p3, .slice a4 h.r.length p4] 27)
  have OK := hS _ _ (hrow.below A0)
  have HH : Hid _ := And.intro A0 (And.intro K0 (And.intro OK (And.intro hrow hx)))
  obtain ⟨m, em⟩ : ∃ m, m = xs.length := ⟨_, rfl⟩
  have EM : Hid _ := And.intro em True.intro
  rw [← em] at hl HH ⊢
  clear A0 K0 OK hS hrow hx em
  have hd : decide ((4096 : Int) < (m : Int)) = false := decide_eq_false (by omega)
  have hk2 : (h.k != 2) = false := by simp [hk]
  clear hk
  go_enter Try.func15, Try.ntmps15
  go_wp2_with fail
  go_at_call 33
  refine HH.out.2.2.1.mono ?_
  rintro e w1 ⟨rfl, b1⟩
  have K1 := (b1.block w.heap.size (by simp)).trans HH.out.2.1
  have L1 : w.heap.size < w1.heap.size := (Array.getElem?_eq_some_iff.1 K1).1
  have B1 := HH.out.1.trans (b1.mono HH.out.1.size)
  have H1 : Hid _ := And.intro B1 K1
  clear b1 K1 B1
  go_wp2_with fail
  go_loopg [6] m (fun q i wr => ∃ k : Nat, k ≤ m ∧ q = m - k ∧ i = .int .i64 (k : Int) ∧ Below w1.heap.size w1 wr ∧ ∀ j, j < k → ngood xs j)
  case atStart => exact ⟨0, by omega, by omega, rfl, Below.refl _ _, fun j hj => by omega⟩
  case round =>
    obtain ⟨k, hk0, hq, rfl, bw1, hgd⟩ := hrel
    by_cases hlt : k < m
    · have bw := H1.out.1.trans (bw1.mono H1.out.1.size)
      obtain ⟨b, off, cap, ev, hbl, hc⟩ := HH.out.2.2.2.2.at (by have := EM.out.1; omega)
      simp only [Value.slice.injEq] at ev
      obtain ⟨rfl, em2, rfl⟩ := ev
      clear em2
      obtain ⟨x, ex⟩ : ∃ x, x = xs.getD k 0 := ⟨_, rfl⟩
      have c0 := (bw.cell (p := ⟨b, off + k, none⟩) hbl).trans (hc k (by have := EM.out.1; omega))
      rw [← ex] at c0
      have hbr : b < wr.heap.size := Nat.lt_of_lt_of_le hbl bw.size
      by_cases hg : ngood xs k
      · have hv : nin x = true := by rw [ex]; exact hg.1
        have VN := fun w => varC x w
        rw [hv] at VN
        have V : Hid _ := And.intro VN True.intro
        have H2 : Hid _ := And.intro hg (And.intro bw1 hgd)
        clear VN
        cases k with
        | zero =>
          clear hg bw1 bw hgd hc ex
          rw [Nat.add_zero] at c0
          have d4 : decide ((0 : Int) < 0) = false := rfl
          go_wp2_with fail
          go_quiet (first | (go_at_call 23; exact Calls.quiet_of_same (V.out.1 _)))
          go_wp2
          go_roundg (m - (0 + 1))
          case measure => omega
          case rel => exact ⟨0 + 1, by omega, rfl, by go_num, below_drewN H2.out.2.1 _, fun j hj => by
            by_cases e : j = 0
            · rw [e]; exact H2.out.1
            · exact H2.out.2.2 j (by omega)⟩
        | succ k =>
          have ek : ((k + 1 : Nat) : Int) = (k : Int) + 1 := by simp
          obtain ⟨y, ey⟩ : ∃ y, y = xs.getD k 0 := ⟨_, rfl⟩
          have c1 := (bw.cell (p := ⟨b, off + k, none⟩) hbl).trans (hc k (by have := EM.out.1; omega))
          rw [← ey] at c1
          have h3 : ¬ (x ≤ y) := by have := hg.2 (by omega); rw [Nat.add_sub_cancel] at this; rw [ex, ey]; omega
          have d3 : decide (x ≤ y) = false := decide_eq_false h3
          have hw : IntKind.i64.wrap ((k : Int) + 1 - 1) = (k : Int) := by rw [IntKind.wrap_i64]; omega
          have EX : Hid _ := And.intro ex ey
          clear hg bw1 bw hgd hc ex ey h3
          rw [ek]
          go_wp2_with fail
          go_quiet (first | (go_at_call 23; exact Calls.quiet_of_same (V.out.1 _)))
          go_wp2
          go_roundg (m - (k + 1 + 1))
          case measure => omega
          case rel => exact ⟨k + 1 + 1, by omega, rfl, by go_num, below_drewN H2.out.2.1 _, fun j hj => by
            by_cases e : j = k + 1
            · rw [e]; exact H2.out.1
            · exact H2.out.2.2 j (by omega)⟩
      · have H2 : Hid _ := And.intro bw True.intro
        cases hv : nin x with
        | false =>
          have VN := fun w => varC x w
          rw [hv] at VN
          have V : Hid _ := And.intro VN True.intro
          clear VN hc bw bw1 hgd ex hg
          go_wp2_with fail
          go_quiet (first | (go_at_call 23; exact Calls.quiet_of_same (V.out.1 _)))
          go_wp2
          go_ret2
          exact ⟨_, rfl, World.ownsRow_lit _ #[] 0 (below_drewN H2.out.1 _).size (by decide) rfl, (below_drewN H2.out.1 _).alloc (below_drewN H2.out.1 _).size _⟩
        | true =>
          have VN := fun w => varC x w
          rw [hv] at VN
          have V : Hid _ := And.intro VN True.intro
          clear VN
          cases k with
          | zero => exact absurd ⟨by rw [← ex]; exact hv, fun hz => absurd hz (by omega)⟩ hg
          | succ k =>
            have ek : ((k + 1 : Nat) : Int) = (k : Int) + 1 := by simp
            obtain ⟨y, ey⟩ : ∃ y, y = xs.getD k 0 := ⟨_, rfl⟩
            have c1 := (bw.cell (p := ⟨b, off + k, none⟩) hbl).trans (hc k (by have := EM.out.1; omega))
            rw [← ey] at c1
            have h3 : x ≤ y := by
              by_cases h4 : x ≤ y
              · exact h4
              · exact absurd ⟨by rw [← ex]; exact hv, fun _ => by rw [Nat.add_sub_cancel, ← ex, ← ey]; omega⟩ hg
            have hw : IntKind.i64.wrap ((k : Int) + 1 - 1) = (k : Int) := by rw [IntKind.wrap_i64]; omega
            clear bw1 bw hgd hc ex ey hg
            rw [ek]
            go_wp2_with fail
            go_quiet (first | (go_at_call 23; exact Calls.quiet_of_same (V.out.1 _)))
            go_wp2
            go_ret2
            exact ⟨_, rfl, World.ownsRow_lit _ #[] 0 (below_drewN H2.out.1 _).size (by decide) rfl, (below_drewN H2.out.1 _).alloc (below_drewN H2.out.1 _).size _⟩
    · obtain ⟨j, hj, hb2⟩ := hb
      exact absurd (hgd j (by have := EM.out.1; omega)) hb2
end Go.Proofs.Ytaodcahkkeobdaa
